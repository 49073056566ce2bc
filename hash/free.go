package hash

// free has the numbers of slots that are free, as container/heap lays them: the least one in front.
type free []int

func allFree(n int) free {
	f := make(free, n)
	for k := range f {
		// Numbers that rise are a heap already.
		f[k] = k
	}
	return f
}

func (f free) Len() int           { return len(f) }
func (f free) Less(i, j int) bool { return f[i] < f[j] }
func (f free) Swap(i, j int)      { f[i], f[j] = f[j], f[i] }
func (f *free) Push(k any)        { *f = append(*f, k.(int)) }

// Pop takes the last one, where container/heap has laid the least.
func (f *free) Pop() any {
	last := len(*f) - 1
	k := (*f)[last]
	*f = (*f)[:last]
	return k
}
