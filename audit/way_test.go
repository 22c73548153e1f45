package audit

import "testing"

// P22.2: the first two texts that are unlike, the top first: below tops that are alike, too, as if many texts had one sum.
func TestUnlike(t *testing.T) {
	for i, x := range []struct {
		told, real []string
		a, b       string
	}{
		{nil, nil, "", ""}, {nil, []string{"a"}, "", ""}, {[]string{"a"}, nil, "", ""}, {[]string{"a"}, []string{"a"}, "", ""}, {[]string{"a"}, []string{"b"}, "a", "b"},
		{[]string{"t", "a", "x"}, []string{"t", "b", "y"}, "a", "b"}, {[]string{"t", "a", "x"}, []string{"t", "a", "y"}, "x", "y"}, {[]string{"t", "a", "x"}, []string{"u", "a", "y"}, "t", "u"},
		// Of a part that isn't told nothing is held.
		{[]string{"t"}, []string{"t", "a"}, "", ""}, {[]string{"t", "a"}, []string{"t", "a", "b"}, "", ""}, {[]string{"t", "x"}, []string{"t", "a", "b"}, "x", "a"},
	} {
		told, real, is := unlike(x.told, x.real)
		if told != x.a || real != x.b || is != (x.a != "") {
			t.Errorf("%d: %q, %q, %v", i, told, real, is)
		}
	}
}
