package samples

import (
	"slices"
	"testing"
)

func TestAlmostAName(t *testing.T) {
	for name, some := range map[string][]string{
		"open": {
			"", "o", "ope", "pen", "n", "oen", "opeen", "oopen", "openn", "oenp", "xopen", "opxen", "openx", "xpen", "opex", "open\x00", "\x00open", "op\xffn",
			"Open", "oPen", "OPEN", "\uff4f\uff50\uff45\uff4e", "open\u0301", "\ufeffopen", "openopen", "hook_open", "open ", " open", "open\n",
		},
		"a_b": {"", "a", "ab", "a_", "_b", "a__b", "aa_b", "a_bb", "A_B", "A_b", "a-b", "a b", "a_b_", "_a_b", "a_b()", "a_ba_b"},
		"x":   {"", "X", "xx", "y", "x\x00", "\uff58"},
	} {
		l := Almost(name)
		for _, s := range some {
			if !slices.Contains(l, s) {
				t.Errorf("%q isn't almost %q", s, name)
			}
		}
		if slices.Contains(l, name+"xyz") {
			t.Errorf("%q is almost %q", name+"xyz", name)
		}
	}
}

func TestNoNamesAreEmptyOrNoLetters(t *testing.T) {
	l := NoNames()
	for _, s := range []string{"", "\x00", "\xff", "1"} {
		if !slices.Contains(l, s) {
			t.Errorf("%q isn't among them", s)
		}
	}
	if slices.ContainsFunc(l, func(s string) bool { return len(s) <= 8 && s != "" && s[0] >= 'a' && s[0] <= 'z' }) {
		t.Errorf("a name is among them")
	}
}

func TestTextsAreAll(t *testing.T) {
	for letters, want := range []int{1, 26, 676, 17576} {
		l := Texts(letters)
		if len(l) != want || !slices.IsSorted(l) || len(slices.Compact(slices.Clone(l))) != want {
			t.Errorf("of %d letters: %d, not %d", letters, len(l), want)
		}
		for _, s := range []string{"", "a", "z", "no", "zz", "now"} {
			if slices.Contains(l, s) != (len(s) == letters) {
				t.Errorf("of %d letters: is %q among them?", letters, s)
			}
		}
	}
}
