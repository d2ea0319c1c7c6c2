package cats_test

import (
	"math"
	"math/rand"
	"regexp"
	"slices"
	"strconv"
	"strings"
	"testing"

	"guerite/api"
	"guerite/cats"
)

// outside is numbers that are no categories.
var outside = []int{-1, 240, -8, -240, 241, 247, 248, 255, 256, 479, math.MinInt, math.MaxInt, math.MinInt32, math.MaxInt32, 1 << 32}

// set is the set of some that are categories, made bit by bit as package api says it.
func set(l ...int) api.Cats {
	var c api.Cats
	for _, k := range l {
		c[k/8] |= byte(1 << (7 - k%8))
	}
	return c
}

func every() []int {
	var l []int
	for k := 0; k <= 239; k++ {
		l = append(l, k)
	}
	return l
}

// anySet is a set, and what is in it: few, many, or runs.
func anySet(rnd *rand.Rand) (api.Cats, [240]bool) {
	var in [240]bool
	most, share := 1+rnd.Intn(240), rnd.Intn(101)
	for k := range most {
		in[k] = rnd.Intn(100) < share
	}
	if rnd.Intn(2) == 0 {
		first := rnd.Intn(240)
		for k := first; k < min(240, first+rnd.Intn(20)); k++ {
			in[k] = true
		}
	}
	return set(listed(in)...), in
}

func listed(in [240]bool) []int {
	var l []int
	for k, is := range in {
		if is {
			l = append(l, k)
		}
	}
	return l
}

func TestP8_1Of(t *testing.T) {
	for _, l := range [][]int{nil, {0}, {239}, {0, 239}, {7}, {8}, {7, 8}, {5, 3, 1, 2}, {4, 4, 4}, {239, 0, 239}, every()} {
		if c, ok := cats.Of(l...); c != set(l...) || !ok {
			t.Errorf("Of(%v): %x, %v", l, c, ok)
		}
	}
	if c, _ := cats.Of(0, 10, 239); c != (api.Cats{0: 0x80, 1: 0x20, 29: 0x01}) {
		t.Errorf("Of(0, 10, 239): %x", c)
	}
}

func TestP8_1OfWrong(t *testing.T) {
	for _, k := range outside {
		for _, l := range [][]int{{k}, {k, 1}, {1, k}, {1, k, 2}, {1, 2, k}, append(every(), k)} {
			if c, ok := cats.Of(l...); c != (api.Cats{}) || ok {
				t.Errorf("Of(%v): %x, %v; want nothing, false", l, c, ok)
			}
		}
	}
}

func TestP8_1HasOfEachAlone(t *testing.T) {
	for _, k := range every() {
		c := set(k)
		for _, other := range every() {
			if cats.Has(c, other) != (other == k) {
				t.Errorf("Has of the set of %d, %d: %v", k, other, other != k)
			}
		}
	}
}

func TestP8_1HasNothingOutside(t *testing.T) {
	full := set(every()...)
	for _, k := range outside {
		if cats.Has(full, k) || cats.Has(api.Cats{}, k) {
			t.Errorf("Has(.., %d): true", k)
		}
	}
}

func TestP8_1ListCountMost(t *testing.T) {
	for _, l := range [][]int{nil, {0}, {239}, {0, 239}, {6, 7, 8, 9}, {100}, {0, 1, 2}, every(), every()[:239], every()[1:]} {
		c, most := set(l...), -1
		if len(l) > 0 {
			most = l[len(l)-1]
		}
		if got := cats.List(c); !slices.Equal(got, l) {
			t.Errorf("List of %v: %v", l, got)
		}
		if got := cats.Count(c); got != len(l) {
			t.Errorf("Count of %v: %d", l, got)
		}
		if got := cats.Most(c); got != most {
			t.Errorf("Most of %v: %d, want %d", l, got, most)
		}
	}
}

func TestP8_1ListIsNew(t *testing.T) {
	c := set(1, 2)
	cats.List(c)[0] = 200
	if got := cats.List(c); !slices.Equal(got, []int{1, 2}) {
		t.Errorf("List, behind a change of what it answered: %v", got)
	}
}

func TestP8_1WithWithout(t *testing.T) {
	for _, c := range []struct{ from, more, with, without []int }{
		{nil, nil, nil, nil},
		{nil, []int{3}, []int{3}, nil},
		{[]int{3}, nil, []int{3}, []int{3}},
		{[]int{3}, []int{3}, []int{3}, nil},
		{[]int{3, 4}, []int{4, 3, 4}, []int{3, 4}, nil},
		{[]int{0, 1, 239}, []int{239, 5, 0}, []int{0, 1, 5, 239}, []int{1}},
		{every(), []int{0, 239}, every(), every()[1:239]},
	} {
		if got := cats.With(set(c.from...), c.more...); got != set(c.with...) {
			t.Errorf("With(%v, %v): %v", c.from, c.more, cats.List(got))
		}
		if got := cats.Without(set(c.from...), c.more...); got != set(c.without...) {
			t.Errorf("Without(%v, %v): %v", c.from, c.more, cats.List(got))
		}
	}
}

func TestP8_1OthersCountForNothing(t *testing.T) {
	for _, c := range []api.Cats{{}, set(0, 8, 17, 239), set(every()...)} {
		for _, k := range outside {
			if got := cats.With(c, k); got != c {
				t.Errorf("With(.., %d): %v", k, cats.List(got))
			}
			if got := cats.Without(c, k); got != c {
				t.Errorf("Without(.., %d): %v", k, cats.List(got))
			}
		}
	}
	mixed := append(slices.Clone(outside), 5)
	if got := cats.With(set(1), mixed...); got != set(1, 5) {
		t.Errorf("With(1; others, 5): %v", cats.List(got))
	}
	if got := cats.Without(set(1, 5), mixed...); got != set(1) {
		t.Errorf("Without(1, 5; others, 5): %v", cats.List(got))
	}
}

func TestP8_1UnionMeetWithin(t *testing.T) {
	full := set(every()...)
	a, b, c := set(0, 1, 2, 239), set(1, 2, 3), set(2, 3, 4, 239)
	for i, x := range []struct{ got, want api.Cats }{
		{cats.Union(), api.Cats{}},
		{cats.Union(a), a},
		{cats.Union(a, b), set(0, 1, 2, 3, 239)},
		{cats.Union(a, b, c), set(0, 1, 2, 3, 4, 239)},
		{cats.Union(a, full, b), full},
		{cats.Union(api.Cats{}, a), a},
		{cats.Meet(a), a},
		{cats.Meet(a, b), set(1, 2)},
		{cats.Meet(a, b, c), set(2)},
		{cats.Meet(a, c), set(2, 239)},
		{cats.Meet(full, a, full), a},
		{cats.Meet(a, full, api.Cats{}, full), api.Cats{}},
	} {
		if x.got != x.want {
			t.Errorf("case %d: %v, want %v", i, cats.List(x.got), cats.List(x.want))
		}
	}
	for i, x := range []struct {
		a, b api.Cats
		want bool
	}{
		{api.Cats{}, api.Cats{}, true}, {api.Cats{}, a, true}, {a, api.Cats{}, false}, {a, a, true}, {a, full, true}, {full, a, false},
		{a, b, false}, {b, a, false}, {set(1, 2), a, true}, {set(1, 2), b, true}, {a, set(1, 2), false}, {set(239), a, true}, {set(239), b, false}, {full, full, true},
	} {
		if got := cats.Within(x.a, x.b); got != x.want {
			t.Errorf("Within, case %d: %v", i, got)
		}
	}
}

func TestP8_1AgainstAModel(t *testing.T) {
	rnd := rand.New(rand.NewSource(8))
	for range 2000 {
		a, inA := anySet(rnd)
		b, inB := anySet(rnd)
		c, inC := anySet(rnd)
		within := true
		var union, meet, with, without [240]bool
		for k := range 240 {
			if cats.Has(a, k) != inA[k] {
				t.Fatalf("Has(%v, %d): %v", listed(inA), k, !inA[k])
			}
			union[k], meet[k] = inA[k] || inB[k] || inC[k], inA[k] && inB[k] && inC[k]
			with[k], without[k] = inA[k] || inB[k], inA[k] && !inB[k]
			within = within && (!inA[k] || inB[k])
		}
		listB := listed(inB)
		if cats.Union(a, b, c) != set(listed(union)...) || cats.Meet(a, b, c) != set(listed(meet)...) {
			t.Fatalf("Union, Meet of %v, %v, %v", listed(inA), listB, listed(inC))
		}
		if cats.With(a, listB...) != set(listed(with)...) || cats.Without(a, listB...) != set(listed(without)...) {
			t.Fatalf("With, Without of %v, %v", listed(inA), listB)
		}
		if cats.Within(a, b) != within || !cats.Within(cats.Meet(a, b), b) || !cats.Within(a, cats.Union(b, a)) {
			t.Fatalf("Within of %v, %v", listed(inA), listB)
		}
		if !slices.Equal(cats.List(a), listed(inA)) || cats.Count(a) != len(listed(inA)) {
			t.Fatalf("List, Count of %v", listed(inA))
		}
		if of, ok := cats.Of(listB...); of != b || !ok || !slices.Equal(listB, listed(inB)) {
			t.Fatalf("Of(%v): %x", listB, of)
		}
	}
}

func TestP8_1WhatIsHandedInStays(t *testing.T) {
	room := []int{5, 900, 3, -1, 77}
	l := room[:3]
	cats.Of(l...)
	cats.With(set(1), l...)
	cats.Without(set(3), l...)
	if !slices.Equal(room, []int{5, 900, 3, -1, 77}) {
		t.Errorf("numbers became %v", room)
	}
	sets := []api.Cats{set(1, 2), set(2, 3), set(9)}
	cats.Union(sets[:2]...)
	cats.Meet(sets[0], sets[1:2]...)
	if !slices.Equal(sets, []api.Cats{set(1, 2), set(2, 3), set(9)}) {
		t.Errorf("sets became %v", sets)
	}
}

func TestP8_2Text(t *testing.T) {
	for want, l := range map[string][]int{
		"-":               nil,
		"0":               {0},
		"239":             {239},
		"1-3,5":           {1, 2, 3, 5},
		"5,6":             {5, 6},
		"0,1":             {0, 1},
		"0-2":             {0, 1, 2},
		"0-3":             {0, 1, 2, 3},
		"0-2,5,6,239":     {0, 1, 2, 5, 6, 239},
		"1,3,5":           {1, 3, 5},
		"1,2,4,5":         {1, 2, 4, 5},
		"1,2,4-6,8,10-12": {1, 2, 4, 5, 6, 8, 10, 11, 12},
		"7,8":             {7, 8},
		"6-9":             {6, 7, 8, 9},
		"9-11":            {9, 10, 11},
		"99,100,102":      {99, 100, 102},
		"238,239":         {238, 239},
		"237-239":         {237, 238, 239},
		"0-239":           every(),
		"0-238":           every()[:239],
		"1-239":           every()[1:],
	} {
		if got := cats.Text(set(l...)); got != want {
			t.Errorf("Text of %v: %q, want %q", l, got, want)
		}
		if got, ok := cats.Parse(want); got != set(l...) || !ok {
			t.Errorf("Parse(%q): %v, %v", want, cats.List(got), ok)
		}
	}
}

func TestP8_2TextsOfManyParts(t *testing.T) {
	for _, gap := range []int{2, 3} { // every second one, and two of three: no text has more parts
		var l []int
		var told []string
		for k := range 240 {
			if k%gap != gap-1 {
				l, told = append(l, k), append(told, strconv.Itoa(k))
			}
		}
		want := strings.Join(told, ",")
		if got := cats.Text(set(l...)); got != want {
			t.Errorf("Text of %v: %q", l, got)
		}
		if got, ok := cats.Parse(want); got != set(l...) || !ok {
			t.Errorf("Parse(%q): %v, %v", want, cats.List(got), ok)
		}
	}
}

func TestP8_2ParseWrong(t *testing.T) {
	for _, s := range []string{
		"", " ", ",", "--", "-,", ",-", "-,-", "-,1", "1,-", "1-", "-1", "1-3-5", "1--3", "1,", ",1", "1,,2", "1 ", " 1", "1, 2", "1-3,", "\x00", "1\x00", "1\n",
		"240", "1000", "0-240", "238-240", "240-242", "01", "00", "-0", "+1", "1-03", "01-3", "+1-3", "1-+3", "0x1", "1_0", "1e1", "1.0", "a", "1;2", "\u0661", "1\u20133",
		"1-1", "1-2", "2-1", "3-1", "1,1", "1,1,2", "2,1", "5,1-3", "1-3,2", "1-3,3", "1-3,1-3", "1,2,3", "1-3,4", "1,2-4", "0,1-239", "1-3,4-6", "1-3,4,5", "0-238,239",
		"99999999999999999999", "0-99999999999999999999", "0-9223372036854775807", "18446744073709551617", "4294967297", "256", "-9223372036854775808",
		strings.Repeat("0,", 100000), strings.Repeat("0-239,", 100000) + "0-239", strings.Repeat("1", 100000), strings.Repeat("-", 100000), strings.Repeat("0", 1000) + "1",
	} {
		if c, ok := cats.Parse(s); c != (api.Cats{}) || ok {
			t.Errorf("Parse(%.40q): %v, %v; want nothing, false", s, cats.List(c), ok)
		}
	}
}

var shape = regexp.MustCompile(`^(0|[1-9][0-9]*)(-(0|[1-9][0-9]*))?$`)

// isText tells whether some set has that text, by looking at its parts: each rises behind the one ahead, and no three follow one another but in one part.
func isText(s string) bool {
	if s == "-" {
		return true
	}
	last, run := -2, 0 // how many parts follow one another up to last, a part of several as three
	for _, part := range strings.Split(s, ",") {
		m := shape.FindStringSubmatch(part)
		if m == nil {
			return false
		}
		first, _ := strconv.Atoi(m[1])
		end, long := first, 1
		if m[2] != "" {
			end, _ = strconv.Atoi(m[3])
			long = 3
		}
		if end > 239 || first <= last || end-first+1 < long {
			return false
		}
		if first == last+1 {
			run += long
		} else {
			run = long
		}
		if run > 2 && run != long {
			return false
		}
		last = end
	}
	return true
}

func TestP8_2EachShortText(t *testing.T) {
	const letters = "01239,-"
	texts := []string{""}
	for range 6 {
		var longer []string
		for _, s := range texts {
			for _, b := range []byte(letters) {
				longer = append(longer, s+string(b))
			}
		}
		for _, s := range longer {
			c, ok := cats.Parse(s)
			if ok != isText(s) || ok && cats.Text(c) != s || !ok && c != (api.Cats{}) {
				t.Fatalf("Parse(%q): %v, %v", s, cats.List(c), ok)
			}
		}
		texts = longer
	}
}

func TestP8_2WhatIsToldIsReadAsItWas(t *testing.T) {
	rnd := rand.New(rand.NewSource(82))
	for range 3000 {
		c, in := anySet(rnd)
		s := cats.Text(c)
		if !isText(s) {
			t.Fatalf("Text of %v: %q", listed(in), s)
		}
		if got, ok := cats.Parse(s); got != c || !ok {
			t.Fatalf("%q is read as %v, %v", s, cats.List(got), ok)
		}
		b := []byte(s)
		b[rnd.Intn(len(b))] = "0123456789,-+ :"[rnd.Intn(15)]
		if got, ok := cats.Parse(string(b)); ok != isText(string(b)) || ok && cats.Text(got) != string(b) {
			t.Fatalf("Parse(%q): %v, %v", b, cats.List(got), ok)
		}
	}
}
