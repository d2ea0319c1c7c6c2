package doi_test

import (
	"math"
	"math/rand"
	"reflect"
	"slices"
	"testing"

	"guerite/api"
	"guerite/cats"
	"guerite/doi"
	"guerite/label"
)

func of(level int, l ...int) api.Label {
	c, _ := cats.Of(l...)
	return api.Label{Level: level, Cats: c}
}

// pairs is pairs of numbers that stand one behind the other: here, there, here, there ..
func pairs(l ...int) []api.Pair {
	var p []api.Pair
	for i := 0; i < len(l); i += 2 {
		p = append(p, api.Pair{Here: l[i], There: l[i+1]})
	}
	return p
}

func levels(l ...int) api.Doi {
	return api.Doi{Number: 1, Levels: pairs(l...)}
}

func categories(l ...int) api.Doi {
	return api.Doi{Number: 1, Cats: pairs(l...)}
}

// turned is so many pairs, the greatest number here with the least one there.
func turned(n int) []api.Pair {
	var p []api.Pair
	for k := range n {
		p = append(p, api.Pair{Here: n - 1 - k, There: k})
	}
	return p
}

func swapped(d api.Doi) api.Doi {
	s := api.Doi{Number: d.Number}
	for _, p := range d.Levels {
		s.Levels = append(s.Levels, api.Pair{Here: p.There, There: p.Here})
	}
	for _, p := range d.Cats {
		s.Cats = append(s.Cats, api.Pair{Here: p.There, There: p.Here})
	}
	return s
}

func rightDomains() []api.Doi {
	return []api.Doi{
		{},
		{Number: math.MaxUint32, Levels: []api.Pair{}, Cats: []api.Pair{}},
		levels(0, 0),
		levels(255, 255),
		levels(0, 255, 255, 0),
		levels(1, 2, 2, 1), // the same number here and there: of unlike pairs
		levels(1, 2, 2, 3, 3, 1),
		categories(0, 239, 239, 0),
		categories(5, 5),
		{Levels: pairs(1, 2), Cats: pairs(1, 2)}, // the same pair, of both kinds
		{Levels: turned(256)},
		{Levels: turned(256), Cats: turned(240)}, // as many of each as may be
	}
}

func wrongDomains() []api.Doi {
	return []api.Doi{
		levels(-1, 0), levels(0, -1), levels(256, 0), levels(0, 256),
		levels(math.MinInt, 0), levels(0, math.MaxInt), levels(1<<32, 0), levels(0, 1<<32),
		levels(1, 1, 2, 2, 3, 256), levels(1, 1, 2, 2, -1, 3),
		categories(-1, 0), categories(0, -1), categories(240, 0), categories(0, 240),
		categories(math.MaxInt, 0), categories(0, math.MinInt), categories(1, 1, 255, 2),
		levels(1, 2, 1, 3), levels(2, 1, 3, 1), levels(1, 2, 1, 2), // twice here, there, both
		levels(1, 2, 7, 8, 9, 3, 1, 4), levels(0, 0, 255, 0),
		categories(1, 2, 1, 3), categories(2, 1, 3, 1), categories(1, 2, 1, 2),
		categories(0, 1, 5, 6, 239, 1),
		{Levels: append(turned(256), api.Pair{Here: 0, There: 0})},
		{Levels: slices.Repeat(pairs(1, 1), 1000)},
		{Cats: slices.Repeat(pairs(1, 1), 257)},
		{Levels: pairs(1, 1), Cats: pairs(1, 1, 1, 2)},
		{Cats: turned(241)},
	}
}

func TestP12_1Right(t *testing.T) {
	if !doi.Right() {
		t.Error("Right(): false of none")
	}
	good := rightDomains()
	if !doi.Right(good...) {
		t.Error("Right: false of right ones")
	}
	for _, d := range good {
		if !doi.Right(d) || !doi.Right(d, d) { // a number may be that of several domains
			t.Errorf("Right(%v): false", d)
		}
	}
	for _, d := range wrongDomains() {
		if doi.Right(d) || doi.Right(d, good[0]) || doi.Right(good[0], d) || doi.Right(good[0], d, good[1]) {
			t.Errorf("Right(%v): true", d)
		}
	}
}

func TestP12_1Out(t *testing.T) {
	both := api.Doi{Levels: pairs(1, 7, 7, 1, 2, 2), Cats: pairs(3, 30, 30, 239, 239, 0)}
	for _, c := range []struct {
		d    api.Doi
		l    api.Label
		want api.Label
		e    api.Errno
	}{
		{levels(1, 7), of(1, 5), of(7, 5), api.OK}, // the chapter's own example
		{levels(1, 7), of(2, 5), api.Label{}, api.ErrNone},
		{levels(1, 7), of(7), api.Label{}, api.ErrNone}, // a number there is none here
		{levels(1, 7), of(0), api.Label{}, api.ErrNone},
		{levels(0, 0), of(0, 0, 239), of(0, 0, 239), api.OK},
		{levels(0, 255, 255, 0), of(255), of(0), api.OK},
		{levels(0, 255, 255, 0), of(0), of(255), api.OK},
		{api.Doi{}, of(255, 0, 239), of(255, 0, 239), api.OK}, // no pairs: as it is
		{api.Doi{Levels: []api.Pair{}, Cats: []api.Pair{}}, of(9, 1), of(9, 1), api.OK},
		{categories(3, 30), of(200, 3), of(200, 30), api.OK},
		{categories(3, 30), of(200), of(200), api.OK}, // no category to be told
		{categories(3, 30), of(200, 3, 4), api.Label{}, api.ErrNone},
		{categories(3, 30), of(200, 2, 3), api.Label{}, api.ErrNone},
		{categories(3, 30), of(200, 30), api.Label{}, api.ErrNone},
		{categories(0, 239, 239, 0), of(1, 0), of(1, 239), api.OK},
		{both, of(1, 3, 30, 239), of(7, 0, 30, 239), api.OK},
		{both, of(7, 3, 30), of(1, 30, 239), api.OK},
		{both, of(2, 239), of(2, 0), api.OK},
		{both, of(3, 239), api.Label{}, api.ErrNone},
		{both, of(2, 238), api.Label{}, api.ErrNone},
		{both, of(3, 238), api.Label{}, api.ErrNone},
	} {
		got, e := doi.Out(c.d, c.l)
		if got != c.want || e != c.e {
			t.Errorf("Out(%v, %s): %v, %d; want %v, %d", c.d, label.Text(c.l), got, e, c.want, c.e)
		}
		if doi.Tells(c.d, c.l) != (c.e == api.OK) {
			t.Errorf("Tells(%v, %s): %v", c.d, label.Text(c.l), c.e != api.OK)
		}
		if got, e := doi.Back(swapped(c.d), c.l); got != c.want || e != c.e {
			t.Errorf("Back(%v, %s): %v, %d; want %v, %d", swapped(c.d), label.Text(c.l), got, e, c.want, c.e)
		}
	}
}

func TestP12_1Back(t *testing.T) {
	d := api.Doi{Levels: pairs(1, 7, 2, 1), Cats: pairs(3, 30, 30, 4)}
	for _, c := range []struct {
		l    api.Label
		want api.Label
		e    api.Errno
	}{
		{of(7, 30), of(1, 3), api.OK},
		{of(1, 4, 30), of(2, 3, 30), api.OK},
		{of(1), of(2), api.OK},
		{of(2, 30), api.Label{}, api.ErrNone},
		{of(7, 3), api.Label{}, api.ErrNone},
		{of(7, 4, 5), api.Label{}, api.ErrNone},
	} {
		if got, e := doi.Back(d, c.l); got != c.want || e != c.e {
			t.Errorf("Back(%v, %s): %v, %d; want %v, %d", d, label.Text(c.l), got, e, c.want, c.e)
		}
	}
}

func TestP12_1WrongArguments(t *testing.T) {
	wrong := func(d api.Doi, l api.Label) {
		t.Helper()
		if got, e := doi.Out(d, l); got != (api.Label{}) || e != api.ErrArg {
			t.Errorf("Out(%v, %v): %v, %d; want ErrArg", d, l, got, e)
		}
		if got, e := doi.Back(d, l); got != (api.Label{}) || e != api.ErrArg {
			t.Errorf("Back(%v, %v): %v, %d; want ErrArg", d, l, got, e)
		}
		if doi.Tells(d, l) {
			t.Errorf("Tells(%v, %v): true", d, l)
		}
	}
	for _, d := range wrongDomains() {
		wrong(d, of(1))
		wrong(d, of(2, 1))
		wrong(d, of(77, 77)) // can't be told as well: ErrArg stands first
		wrong(d, of(-1))
	}
	for _, level := range []int{-1, 256, -255, 257, 1 << 32, math.MinInt, math.MaxInt} {
		for _, d := range append(rightDomains(), levels(1, 7), categories(1, 7)) {
			wrong(d, of(level))
			wrong(d, of(level, 1))
		}
	}
}

func TestP12_1Find(t *testing.T) {
	l := []api.Doi{{Number: 5}, {Number: 0}, {Number: math.MaxUint32}, {Number: 5}, {Number: 7, Levels: pairs(-1, 999)}}
	for number, want := range map[uint32]int{5: 0, 0: 1, math.MaxUint32: 2, 7: 4, 6: -1, 1 << 31: -1} {
		if got := doi.Find(l, number); got != want {
			t.Errorf("Find(%d): %d; want %d", number, got, want)
		}
	}
	if doi.Find(nil, 0) != -1 || doi.Find([]api.Doi{}, 5) != -1 {
		t.Error("Find: there is none")
	}
}

// A model: the chapter's words, pair by pair.

func modelTell(pairs []api.Pair, n int) (int, bool) {
	for _, p := range pairs {
		if p.Here == n {
			return p.There, true
		}
	}
	return n, len(pairs) == 0
}

func modelOut(d api.Doi, l api.Label) (api.Label, api.Errno) {
	var told api.Label
	level, ok := modelTell(d.Levels, l.Level)
	told.Level = level
	for k := range 240 {
		if l.Cats[k/8]>>(7-k%8)&1 == 0 {
			continue
		}
		n, can := modelTell(d.Cats, k)
		if !can {
			return api.Label{}, api.ErrNone
		}
		told.Cats[n/8] |= 1 << (7 - n%8)
	}
	if !ok {
		return api.Label{}, api.ErrNone
	}
	return told, api.OK
}

// modelRight holds the pairs of one kind against each other, two by two.
func modelRight(pairs []api.Pair, most int) bool {
	for i, p := range pairs {
		if p.Here < 0 || p.Here > most || p.There < 0 || p.There > most {
			return false
		}
		for _, q := range pairs[:i] {
			if p.Here == q.Here || p.There == q.There {
				return false
			}
		}
	}
	return len(pairs) <= 256
}

func anyPairs(rnd *rand.Rand, numbers, n int) []api.Pair {
	here, there := rnd.Perm(numbers), rnd.Perm(numbers)
	var p []api.Pair
	for i := range n {
		p = append(p, api.Pair{Here: here[i], There: there[i]})
	}
	return p
}

func anyDomain(rnd *rand.Rand) api.Doi {
	d := api.Doi{Number: rnd.Uint32()}
	if rnd.Intn(4) > 0 {
		d.Levels = anyPairs(rnd, 256, rnd.Intn(257))
	}
	if rnd.Intn(4) > 0 {
		d.Cats = anyPairs(rnd, 240, rnd.Intn(241))
	}
	return d
}

// anyLabel is a label that can be told there, but for a few.
func anyLabel(rnd *rand.Rand, d api.Doi) api.Label {
	l := of(rnd.Intn(256))
	if n := len(d.Levels); n > 0 && rnd.Intn(9) > 0 {
		l.Level = d.Levels[rnd.Intn(n)].Here
	}
	for range rnd.Intn(20) {
		k := rnd.Intn(240)
		if n := len(d.Cats); n > 0 && rnd.Intn(20) > 0 {
			k = d.Cats[rnd.Intn(n)].Here
		}
		l.Cats = cats.With(l.Cats, k)
	}
	return l
}

func TestP12_1OfAny(t *testing.T) {
	rnd, told := rand.New(rand.NewSource(12)), 0
	for range 5000 {
		d := anyDomain(rnd)
		l := anyLabel(rnd, d)
		want, f := modelOut(d, l)
		got, e := doi.Out(d, l)
		if got != want || e != f || doi.Tells(d, l) != (f == api.OK) {
			t.Fatalf("Out(%v, %s): %v, %d; want %v, %d", d, label.Text(l), got, e, want, f)
		}
		if e == api.OK {
			told++
		}
		want, f = modelOut(swapped(d), l)
		if got, e := doi.Back(d, l); got != want || e != f {
			t.Fatalf("Back(%v, %s): %v, %d; want %v, %d", d, label.Text(l), got, e, want, f)
		}
	}
	if told < 1000 || told > 4500 {
		t.Errorf("%d of 5000 labels can be told: too few of one kind are looked at", told)
	}
}

func TestP12_1RightOfAny(t *testing.T) {
	rnd := rand.New(rand.NewSource(13))
	spoil := func(p []api.Pair) {
		if len(p) == 0 {
			return
		}
		one, wrong := &p[rnd.Intn(len(p))], rnd.Intn(300)-20
		if rnd.Intn(2) == 0 {
			one.Here = wrong
		} else {
			one.There = wrong
		}
	}
	for range 5000 {
		d := anyDomain(rnd)
		spoil(d.Levels)
		spoil(d.Cats)
		want := modelRight(d.Levels, 255) && modelRight(d.Cats, 239)
		if got := doi.Right(d); got != want {
			t.Fatalf("Right(%v): %v", d, got)
		}
	}
}

func TestP12_1LeavesItsArguments(t *testing.T) {
	domain := func() api.Doi {
		d := api.Doi{Number: 3, Levels: pairs(9, 1, 1, 7, 5, 5), Cats: pairs(30, 3, 3, 30, 1, 2)}
		d.Levels, d.Cats = d.Levels[:2], d.Cats[:2]
		return d
	}
	d, same := domain(), domain()
	l := []api.Doi{d}
	doi.Right(l...)
	doi.Out(d, of(1, 3))
	doi.Back(d, of(1, 3))
	doi.Tells(d, of(2))
	doi.Find(l, 3)
	if !reflect.DeepEqual(d, same) || !reflect.DeepEqual(l, []api.Doi{same}) {
		t.Errorf("%v; want %v", d, same)
	}
	if !reflect.DeepEqual(d.Levels[:3], pairs(9, 1, 1, 7, 5, 5)) || !reflect.DeepEqual(d.Cats[:3], pairs(30, 3, 3, 30, 1, 2)) {
		t.Errorf("spare room was written to: %v, %v", d.Levels[:3], d.Cats[:3])
	}
}

func TestP12_2ThereAndBack(t *testing.T) {
	rnd := rand.New(rand.NewSource(14))
	for range 5000 {
		d := anyDomain(rnd)
		l := anyLabel(rnd, d)
		if there, e := doi.Out(d, l); e == api.OK {
			if got, f := doi.Back(d, there); got != l || f != api.OK {
				t.Fatalf("%v: %s is told %s, and back %v, %d", d, label.Text(l), label.Text(there), got, f)
			}
		}
		if here, e := doi.Back(d, l); e == api.OK {
			if got, f := doi.Out(d, here); got != l || f != api.OK {
				t.Fatalf("%v: %s is told back %s, and there %v, %d", d, label.Text(l), label.Text(here), got, f)
			}
		}
	}
}

// rising is pairs of levels that rise together, in any order.
func rising(rnd *rand.Rand, n int) []api.Pair {
	here, there := rnd.Perm(256)[:n], rnd.Perm(256)[:n]
	slices.Sort(here)
	slices.Sort(there)
	var p []api.Pair
	for _, i := range rnd.Perm(n) {
		p = append(p, api.Pair{Here: here[i], There: there[i]})
	}
	return p
}

func TestP12_2DominationStays(t *testing.T) {
	rnd, dominated := rand.New(rand.NewSource(15)), 0
	for range 5000 {
		d := anyDomain(rnd)
		d.Levels = rising(rnd, rnd.Intn(257))
		a := anyLabel(rnd, d)
		b := anyLabel(rnd, d)
		if rnd.Intn(2) == 0 {
			b.Cats = cats.Meet(a.Cats, b.Cats)
		}
		x, e := doi.Out(d, a)
		y, f := doi.Out(d, b)
		if e != api.OK || f != api.OK {
			continue
		}
		if label.Dominates(x, y) != label.Dominates(a, b) {
			t.Fatalf("%v: %s and %s are told %s and %s", d, label.Text(a), label.Text(b), label.Text(x), label.Text(y))
		}
		if label.Dominates(a, b) {
			dominated++
		}
	}
	if dominated < 100 {
		t.Errorf("only %d are dominated", dominated)
	}
}
