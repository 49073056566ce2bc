package samples

import "strings"

// Almost has texts that are almost a name, which has at least one byte: with bytes less, one more, turned, twice, or in another place, in other sizes, and with something ahead or behind. Some of them are the name.
func Almost(name string) []string {
	l := []string{
		strings.ToUpper(name), strings.ToUpper(name[:1]) + name[1:], fullWidth(name),
		"\ufeff" + name, name + "\u0301", name + "\u200b", "/" + name, "_" + name, "hook_" + name, "Helper" + name, name + "()", name + "," + name, name + name,
	}
	for i := range len(name) {
		l = append(l, name[:i], name[i:], name[:i]+name[i+1:], name[:i]+name[i:i+1]+name[i:], name[:i]+name[i+1:]+name[i:i+1])
	}
	for c := range 256 {
		s := string([]byte{byte(c)})
		for i := range len(name) {
			l = append(l, name[:i]+s+name[i:], name[:i]+s+name[i+1:])
		}
		l = append(l, name+s)
	}
	return l
}

// fullWidth tells the letters that look like a name's, but have other numbers.
func fullWidth(name string) string {
	return strings.Map(func(r rune) rune { return r - '!' + '\uff01' }, name)
}

// NoNames has texts of which none is a name: nothing, spaces, bytes that are no letters, numbers, and much.
func NoNames() []string {
	return []string{
		"", " ", "\n", "\x00", "\x01", "\xff", "\xff\xfe", "\xed\xa0\x80", "\u2028", "-", "_", "0", "1", "12", "13", "16", "17", "-1",
		strings.Repeat("\x00", 1<<20), strings.Repeat("open", 1<<16), strings.Repeat(" ", 1<<10),
	}
}

// Texts has all texts of so many small letters.
func Texts(letters int) []string {
	l := []string{""}
	for range letters {
		var longer []string
		for _, s := range l {
			for c := 'a'; c <= 'z'; c++ {
				longer = append(longer, s+string(c))
			}
		}
		l = longer
	}
	return l
}
