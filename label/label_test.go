package label_test

import (
	"math"
	"math/rand"
	"slices"
	"strings"
	"testing"

	"guerite/api"
	"guerite/cats"
	"guerite/label"
)

func of(level int, l ...int) api.Label {
	c, _ := cats.Of(l...)
	return api.Label{Level: level, Cats: c}
}

var full = cats.Union(api.Cats(slices.Repeat([]byte{0xff}, 30)))

// wrongLevels is levels of labels that aren't right.
var wrongLevels = []int{-1, 256, -255, 257, 511, 65536, 1 << 32, math.MinInt, math.MaxInt}

// some is all labels of a few levels and categories, with levels that aren't right among them.
func some() []api.Label {
	var l []api.Label
	for _, level := range []int{-1, 0, 3, 255, 256} {
		for bits := range 8 {
			c := of(level)
			for i, k := range []int{0, 8, 239} {
				if bits>>i&1 == 1 {
					c.Cats = cats.With(c.Cats, k)
				}
			}
			l = append(l, c)
		}
	}
	return l
}

func anyLabel(rnd *rand.Rand) api.Label {
	l := of(rnd.Intn(256))
	for k := range 240 {
		if rnd.Intn(3) == 0 {
			l.Cats = cats.With(l.Cats, k)
		}
	}
	return l
}

func TestP9_1Right(t *testing.T) {
	low, high, mid := of(0), api.Label{Level: 255, Cats: full}, of(3, 1, 2)
	if !label.Right() || !label.Right(low) || !label.Right(high) || !label.Right(mid, low, high) {
		t.Error("Right: false of right ones")
	}
	for _, level := range wrongLevels {
		bad := of(level, 1)
		if label.Right(bad) || label.Right(bad, low) || label.Right(low, bad) || label.Right(low, bad, high) {
			t.Errorf("Right: true with a level of %d", level)
		}
	}
}

func TestP9_1Dominates(t *testing.T) {
	for _, c := range []struct {
		a, b api.Label
		want bool
	}{
		{of(3, 1, 2), of(2, 1), true},
		{of(2, 1), of(3, 1, 2), false},
		{of(3, 1), of(3, 1), true},
		{of(3, 1), of(2, 2), false},
		{of(2, 2), of(3, 1), false},
		{of(2, 1, 2), of(3, 1), false},
		{of(3, 1), of(2, 1, 2), false},
		{of(0), of(0), true},
		{of(0, 239), of(0), true},
		{of(0), of(0, 239), false},
		{api.Label{Level: 255, Cats: full}, of(255, 0, 239), true},
		{of(255), of(0, 0), false},
		{of(256), of(255), true},
		{of(-1), of(0), false},
		{of(math.MaxInt), of(math.MinInt), true},
		{of(math.MinInt), of(math.MaxInt), false},
	} {
		if got := label.Dominates(c.a, c.b); got != c.want {
			t.Errorf("Dominates(%v, %v): %v", c.a, c.b, got)
		}
	}
}

func TestP9_1DominatesByItsWords(t *testing.T) {
	for _, a := range some() {
		for _, b := range some() {
			want := a.Level >= b.Level
			for k := range 240 {
				want = want && (!cats.Has(b.Cats, k) || cats.Has(a.Cats, k))
			}
			if got := label.Dominates(a, b); got != want {
				t.Errorf("Dominates(%v, %v): %v", a, b, got)
			}
		}
	}
}

func TestP9_1JoinMeet(t *testing.T) {
	for i, c := range []struct{ got, want api.Label }{
		{label.Join(of(3, 1), of(2, 2)), of(3, 1, 2)},
		{label.Join(of(2, 2), of(3, 1)), of(3, 1, 2)},
		{label.Join(of(3, 1)), of(3, 1)},
		{label.Join(of(0), of(0)), of(0)},
		{label.Join(of(1, 1), of(2, 2), of(3, 3)), of(3, 1, 2, 3)},
		{label.Join(of(1, 1), of(7, 2), of(3, 3), of(0, 239)), of(7, 1, 2, 3, 239)},
		{label.Join(of(-5, 1), of(-7, 2)), of(-5, 1, 2)},
		{label.Join(of(math.MinInt), of(math.MaxInt)), of(math.MaxInt)},
		{label.Meet(of(3, 1, 2), of(2, 2, 3)), of(2, 2)},
		{label.Meet(of(2, 2, 3), of(3, 1, 2)), of(2, 2)},
		{label.Meet(of(3, 1)), of(3, 1)},
		{label.Meet(of(3, 1), of(2, 2)), of(2)},
		{label.Meet(of(3, 1, 2, 3), of(2, 2, 3), of(1, 3, 4)), of(1, 3)},
		{label.Meet(of(3, 0, 239), of(1, 239), of(2, 0, 239)), of(1, 239)},
		{label.Meet(of(300, 1), of(400, 1)), of(300, 1)},
		{label.Meet(of(math.MaxInt), of(math.MinInt)), of(math.MinInt)},
	} {
		if c.got != c.want {
			t.Errorf("case %d: %v, want %v", i, c.got, c.want)
		}
	}
}

func TestP9_1JoinIsTheLeastMeetTheGreatest(t *testing.T) {
	all := some()
	for _, a := range all {
		for _, b := range all {
			join, meet := label.Join(a, b), label.Meet(a, b)
			for _, c := range all {
				above := label.Dominates(c, a) && label.Dominates(c, b)
				if above != label.Dominates(c, join) {
					t.Fatalf("Join(%v, %v): %v, and %v", a, b, join, c)
				}
				below := label.Dominates(a, c) && label.Dominates(b, c)
				if below != label.Dominates(meet, c) {
					t.Fatalf("Meet(%v, %v): %v, and %v", a, b, meet, c)
				}
			}
		}
	}
}

func TestP9_1WhatIsHandedInStays(t *testing.T) {
	kept := []api.Label{of(3, 1), of(2, 2), of(9, 9)}
	room := slices.Clone(kept)
	label.Right(room[:2]...)
	label.Join(room[0], room[1:2]...)
	label.Meet(room[0], room[1:2]...)
	if !slices.Equal(room, kept) {
		t.Errorf("labels became %v", room)
	}
}

func TestP9_1Compare(t *testing.T) {
	rising := []api.Label{
		of(math.MinInt), of(-1, 0), of(0), of(0, 239), of(0, 238), of(0, 238, 239), of(0, 15), of(0, 8), of(0, 7), of(0, 7, 239), of(0, 1, 2, 3, 4, 5, 6, 7), of(0, 0), of(0, 0, 239), of(0, 0, 1),
		{Level: 0, Cats: full}, of(1), of(1, 239), of(3, 1), of(3, 1, 2), of(255), {Level: 255, Cats: full}, of(256), of(math.MaxInt),
	}
	for i, a := range rising {
		for j, b := range rising {
			want := 0
			if i < j {
				want = -1
			} else if i > j {
				want = 1
			}
			if got := label.Compare(a, b); got != want {
				t.Errorf("Compare(%v, %v): %d, want %d", a, b, got, want)
			}
		}
	}
}

func TestP9_1In(t *testing.T) {
	for _, c := range []struct {
		l, lo, hi api.Label
		want      bool
	}{
		{of(2, 2, 3), of(2, 2), of(3, 1, 2, 3), true},
		{of(2, 2), of(2, 2), of(3, 2), true},
		{of(3, 2), of(2, 2), of(3, 2), true},
		{of(3, 2), of(3, 2), of(3, 2), true},
		{of(1, 2), of(2, 2), of(3, 2), false},
		{of(4, 2), of(2, 2), of(3, 2), false},
		{of(2), of(2, 2), of(3, 2), false},
		{of(2, 2, 3), of(2, 2), of(3, 2), false},
		{of(2), of(3), of(1), false},
		{of(2, 1), of(0), api.Label{Level: 255, Cats: full}, true},
		{of(256), of(0), api.Label{Level: 255, Cats: full}, false},
		{of(-1), of(0), api.Label{Level: 255, Cats: full}, false},
	} {
		if got := label.In(c.l, c.lo, c.hi); got != c.want {
			t.Errorf("In(%v, %v, %v): %v", c.l, c.lo, c.hi, got)
		}
	}
}

func TestP9_2Text(t *testing.T) {
	for want, l := range map[string]api.Label{
		"0:-":       {},
		"3:1,2":     of(3, 1, 2),
		"2:1":       of(2, 1),
		"255:-":     of(255),
		"255:0-239": {Level: 255, Cats: full},
		"10:1-3,5":  of(10, 5, 3, 2, 1),
		"0:0":       of(0, 0),
		"100:239":   of(100, 239),
	} {
		if got := label.Text(l); got != want {
			t.Errorf("Text(%v): %q, want %q", l, got, want)
		}
		if got, ok := label.Parse(want); got != l || !ok {
			t.Errorf("Parse(%q): %v, %v", want, got, ok)
		}
	}
	for _, level := range wrongLevels {
		if got := label.Text(of(level, 1)); got != "" {
			t.Errorf("Text with a level of %d: %q", level, got)
		}
	}
}

func TestP9_2ParseWrong(t *testing.T) {
	for _, s := range []string{
		"", ":", "-", "3", "3:", ":-", ":1", "1", "3:1:2", "3::1", "3:1,2:", ":3:1", "3:-:", "3 :1", "3: 1", " 3:1", "3:1 ", "3;1", "3,1:2", "3-1:2", "3.1",
		"256:-", "256:1", "1000:-", "-1:-", "-1:1", "-0:-", "+3:1", "03:1", "00:-", "x:1", "0x3:1", "1_0:1", "3:x", "3\x00:1", "\u0663:1",
		"3:2,1", "3:1,1", "3:1,2,3", "3:1-2", "3:240", "3:01", "3:--", "3:-,1", "3:1,", "99999999999999999999:1", "-99999999999999999999:1", "4294967299:1", "259:1",
		strings.Repeat("1", 100000) + ":1", "1:" + strings.Repeat("1,", 100000), strings.Repeat(":", 100000), strings.Repeat("0", 1000) + "3:1",
	} {
		if l, ok := label.Parse(s); l != (api.Label{}) || ok {
			t.Errorf("Parse(%.40q): %v, %v; want nothing, false", s, l, ok)
		}
	}
}

func TestP9_2WhatIsToldIsReadAsItWas(t *testing.T) {
	rnd := rand.New(rand.NewSource(92))
	for level := range 256 {
		l := anyLabel(rnd)
		l.Level = level
		if got, ok := label.Parse(label.Text(l)); got != l || !ok {
			t.Errorf("%v is read as %v, %v", l, got, ok)
		}
	}
	for range 3000 {
		b := []byte(label.Text(anyLabel(rnd)))
		b[rnd.Intn(min(len(b), 12))] = "0123456789,-+ :"[rnd.Intn(15)]
		if got, ok := label.Parse(string(b)); ok && label.Text(got) != string(b) || !ok && got != (api.Label{}) {
			t.Errorf("Parse(%q): %v, %v", b, got, ok)
		}
	}
}

func TestP9_3Lattice(t *testing.T) {
	rnd := rand.New(rand.NewSource(93))
	all := append(some(), anyLabel(rnd), anyLabel(rnd), anyLabel(rnd))
	for _, a := range all {
		if label.Join(a, a) != a || label.Meet(a, a) != a || !label.Dominates(a, a) {
			t.Fatalf("%v with itself", a)
		}
		for _, b := range all {
			join, meet := label.Join(a, b), label.Meet(a, b)
			if join != label.Join(b, a) || meet != label.Meet(b, a) {
				t.Fatalf("%v, %v: the order matters", a, b)
			}
			if label.Join(a, meet) != a || label.Meet(a, join) != a {
				t.Fatalf("%v, %v: one doesn't take the other in", a, b)
			}
			if label.Dominates(a, b) && label.Dominates(b, a) != (a == b) {
				t.Fatalf("%v, %v dominate each other", a, b)
			}
			if label.Dominates(a, b) != (join == a) || label.Dominates(a, b) != (meet == b) {
				t.Fatalf("%v, %v: join and meet don't tell which dominates", a, b)
			}
			for _, c := range all {
				if label.Join(join, c) != label.Join(a, label.Join(b, c)) || label.Join(join, c) != label.Join(a, b, c) {
					t.Fatalf("%v, %v, %v: joins differ", a, b, c)
				}
				if label.Meet(meet, c) != label.Meet(a, label.Meet(b, c)) || label.Meet(meet, c) != label.Meet(a, b, c) {
					t.Fatalf("%v, %v, %v: meets differ", a, b, c)
				}
				if label.Dominates(a, b) && label.Dominates(b, c) && !label.Dominates(a, c) {
					t.Fatalf("%v, %v, %v: the last isn't dominated", a, b, c)
				}
			}
		}
	}
}
