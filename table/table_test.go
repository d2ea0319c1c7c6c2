package table_test

import (
	"math"
	"math/rand"
	"slices"
	"testing"

	"guerite/api"
	"guerite/cats"
	"guerite/label"
	"guerite/table"
)

func of(level int, l ...int) api.Label {
	c, _ := cats.Of(l...)
	return api.Label{Level: level, Cats: c}
}

// rising is so many labels, of levels from 0 on.
func rising(n int) []api.Label {
	var l []api.Label
	for level := range n {
		l = append(l, of(level))
	}
	return l
}

func made(t *testing.T, l ...api.Label) *table.Table {
	t.Helper()
	x, n, e := table.New(l...)
	if x == nil || n != len(l) || e != api.OK {
		t.Fatalf("New(%v): %v, %d, %d", l, x, n, e)
	}
	return x
}

func TestP13_1New(t *testing.T) {
	for _, l := range [][]api.Label{
		nil,
		{of(0)},
		{of(255)},
		{of(0), of(0, 0), of(0, 239), of(1, 0)}, // alike in part alone
		{of(3), of(2), of(1)},                   // in any order
		rising(15),
		rising(16),
	} {
		x := made(t, l...)
		if x.Len() != len(l) || !slices.Equal(x.All(), l) {
			t.Errorf("New(%v): %d, %v", l, x.Len(), x.All())
		}
	}
}

func TestP13_1NewWrong(t *testing.T) {
	full, bad := rising(16), of(256)
	with := func(l []api.Label, more ...api.Label) []api.Label {
		return append(slices.Clone(l), more...)
	}
	for _, c := range []struct {
		l []api.Label
		n int
		e api.Errno
	}{
		{[]api.Label{of(-1)}, 0, api.ErrArg},
		{[]api.Label{of(256)}, 0, api.ErrArg},
		{[]api.Label{of(math.MinInt, 1)}, 0, api.ErrArg},
		{[]api.Label{of(1), of(math.MaxInt)}, 1, api.ErrArg},
		{[]api.Label{of(1), of(1 << 32)}, 1, api.ErrArg},
		{[]api.Label{of(1), of(1)}, 1, api.ErrTwice},
		{[]api.Label{of(1, 5), of(2), of(3), of(1, 5), of(2)}, 3, api.ErrTwice},
		{[]api.Label{of(1), of(1), bad}, 1, api.ErrTwice}, // the first place, whatever stands behind it
		{[]api.Label{of(1), bad, of(1)}, 1, api.ErrArg},
		{[]api.Label{bad, bad}, 0, api.ErrArg}, // not right, and twice
		{with(full, of(16)), 16, api.ErrLong},
		{with(full, of(16), bad), 16, api.ErrLong},
		{with(full, of(3)), 16, api.ErrLong}, // too many, and twice
		{with(full, bad), 16, api.ErrArg},    // not right, and too many
		{with(full[:15], of(3)), 15, api.ErrTwice},
		{with(full[:15], of(3), of(16), of(17)), 15, api.ErrTwice},
		{with(full[:15], bad, of(16), of(17)), 15, api.ErrArg},
		{slices.Repeat(full, 100), 16, api.ErrLong},
	} {
		if x, n, e := table.New(c.l...); x != nil || n != c.n || e != c.e {
			t.Errorf("New(%v): %v, %d, %d; want %d, %d", c.l, x, n, e, c.n, c.e)
		}
	}
}

func TestP13_1AtAndFind(t *testing.T) {
	l := []api.Label{of(2, 7), of(0), of(1, 239), of(1), of(255)}
	x := made(t, l...)
	for n, one := range l {
		if got, ok := x.At(n); got != one || !ok {
			t.Errorf("At(%d): %v, %v", n, got, ok)
		}
		if got, ok := x.Find(one); got != n || !ok {
			t.Errorf("Find(%s): %d, %v", label.Text(one), got, ok)
		}
	}
	for _, n := range []int{-1, 5, 6, 16, 1 << 32, math.MinInt, math.MaxInt} {
		if got, ok := x.At(n); got != (api.Label{}) || ok {
			t.Errorf("At(%d): %v, %v", n, got, ok)
		}
	}
	for _, one := range []api.Label{of(2), of(2, 6), of(2, 6, 7), of(0, 7), of(254), of(256), of(-1), of(math.MaxInt)} {
		if n, ok := x.Find(one); n != 0 || ok {
			t.Errorf("Find(%v): %d, %v", one, n, ok)
		}
	}
	if got, ok := made(t).At(0); got != (api.Label{}) || ok {
		t.Errorf("At(0) of an empty table: %v, %v", got, ok)
	}
	if n, ok := made(t).Find(api.Label{}); n != 0 || ok {
		t.Errorf("Find of an empty table: %d, %v", n, ok)
	}
}

func TestP13_1Within(t *testing.T) {
	x := made(t, of(0), of(1), of(1, 3)) // the chapter's own example
	y := made(t, of(3, 1, 2), of(0), of(2, 1), of(2, 2), of(3, 1), of(1, 1, 2))
	for _, c := range []struct {
		x      *table.Table
		lo, hi api.Label
		want   []int
	}{
		{x, of(0), of(1), []int{0, 1}},
		{x, of(0), of(1, 3), []int{0, 1, 2}},
		{x, of(1), of(1), []int{1}},
		{x, of(1), of(255, 3, 4), []int{1, 2}},
		{x, of(0, 3), of(1, 3), []int{2}}, // bounds needn't be declared
		{x, of(0, 4), of(255, 3, 4), nil},
		{x, of(1), of(0), nil}, // upside down
		{x, of(-9), of(999), []int{0, 1}},
		{x, of(math.MinInt), of(math.MaxInt, 3), []int{0, 1, 2}},
		{y, of(0), of(3, 1, 2), []int{0, 1, 2, 3, 4, 5}},
		{y, of(2), of(3, 1, 2), []int{0, 2, 3, 4}},
		{y, of(0, 1), of(3, 1), []int{2, 4}},
		{y, of(1, 1), of(2, 1, 2), []int{2, 5}},
		{y, of(2, 1), of(2, 1), []int{2}},
		{y, of(2, 1, 2), of(2, 1, 2), nil},
		{made(t), of(0), of(255), nil},
	} {
		if got := c.x.Within(c.lo, c.hi); !slices.Equal(got, c.want) {
			t.Errorf("Within(%v, %v): %v; want %v", c.lo, c.hi, got, c.want)
		}
	}
}

func TestP13_1Below(t *testing.T) {
	x := made(t, of(0), of(1), of(1, 3)) // the chapter's own example
	y := made(t, of(3, 1, 2), of(0, 9), of(2, 1), of(2, 2), of(3, 1), of(1, 1, 2))
	for _, c := range []struct {
		x    *table.Table
		n    int
		want []int
	}{
		{x, 0, []int{0}},
		{x, 1, []int{0, 1}},
		{x, 2, []int{0, 1, 2}},
		{y, 0, []int{0, 2, 3, 4, 5}},
		{y, 1, []int{1}},
		{y, 2, []int{2}},
		{y, 3, []int{3}},
		{y, 4, []int{2, 4}},
		{y, 5, []int{5}},
		{x, 3, nil}, {x, -1, nil}, {x, math.MaxInt, nil}, {x, math.MinInt, nil}, {x, 1 << 32, nil},
		{made(t), 0, nil},
	} {
		if got := c.x.Below(c.n); !slices.Equal(got, c.want) {
			t.Errorf("Below(%d): %v; want %v", c.n, got, c.want)
		}
	}
}

// TestP13_1OfAny holds tables of labels that are often alike against a model: each call's words, label by label.
func TestP13_1OfAny(t *testing.T) {
	rnd := rand.New(rand.NewSource(13))
	anyLabel := func() api.Label {
		l := of(rnd.Intn(5))
		for k := range 3 {
			if rnd.Intn(2) == 0 {
				l.Cats = cats.With(l.Cats, 7*k)
			}
		}
		return l
	}
	for range 5000 {
		var l []api.Label
		for range rnd.Intn(17) {
			if one := anyLabel(); !slices.Contains(l, one) {
				l = append(l, one)
			}
		}
		x := made(t, l...)
		lo, hi, one, n := anyLabel(), anyLabel(), anyLabel(), rnd.Intn(18)-1
		var within, below []int
		for i, k := range l {
			if label.Dominates(k, lo) && label.Dominates(hi, k) {
				within = append(within, i)
			}
			if n >= 0 && n < len(l) && label.Dominates(l[n], k) {
				below = append(below, i)
			}
		}
		if got := x.Within(lo, hi); !slices.Equal(got, within) {
			t.Fatalf("%v: Within(%v, %v): %v; want %v", l, lo, hi, got, within)
		}
		if got := x.Below(n); !slices.Equal(got, below) {
			t.Fatalf("%v: Below(%d): %v; want %v", l, n, got, below)
		}
		place := slices.Index(l, one)
		if got, ok := x.Find(one); ok != (place >= 0) || got != max(place, 0) {
			t.Fatalf("%v: Find(%v): %d, %v; want %d", l, one, got, ok, place)
		}
	}
}

func TestP13_1OfNil(t *testing.T) {
	var x *table.Table
	if x.Len() != 0 || len(x.All()) != 0 || len(x.Within(of(0), of(255))) != 0 || len(x.Below(0)) != 0 {
		t.Error("a nil table has something")
	}
	for _, n := range []int{-1, 0, 1} {
		if l, ok := x.At(n); l != (api.Label{}) || ok {
			t.Errorf("At(%d): %v, %v", n, l, ok)
		}
	}
	if n, ok := x.Find(api.Label{}); n != 0 || ok {
		t.Errorf("Find: %d, %v", n, ok)
	}
}

func TestP13_1OfOthers(t *testing.T) {
	x := &table.Table{} // no maker answered it: only that no call panics
	x.Len()
	x.At(0)
	x.Find(of(0))
	x.Within(of(0), of(1))
	x.Below(0)
	x.All()
}

func TestP13_1SharesNothing(t *testing.T) {
	spare := append(rising(3), of(77))
	l := spare[:3]
	x := made(t, l...)
	if !slices.Equal(spare, append(rising(3), of(77))) {
		t.Errorf("New changed what was handed in: %v", spare)
	}
	l[1] = of(99)
	all := x.All()
	all[0], all[2] = of(98), of(97)
	x.Within(of(0), of(2))[0] = 55
	x.Below(2)[0] = 66
	if !slices.Equal(x.All(), rising(3)) {
		t.Errorf("All: %v behind changes outside of the table", x.All())
	}
	if n, ok := x.Find(of(1)); n != 1 || !ok {
		t.Errorf("Find: %d, %v", n, ok)
	}
	if got := x.Within(of(0), of(2)); !slices.Equal(got, []int{0, 1, 2}) {
		t.Errorf("Within: %v", got)
	}
	if got := x.Below(2); !slices.Equal(got, []int{0, 1, 2}) {
		t.Errorf("Below: %v", got)
	}
}
