package guard_test

import (
	"math"
	"math/rand"
	"reflect"
	"slices"
	"testing"

	"guerite/addr"
	"guerite/api"
	"guerite/guard"
)

// wide gets everything label 0.
func wide() api.Relabel {
	return api.Relabel{In: -1, Label: -1, Proto: -1}
}

// but is a rule that is like r, but for what change does to it.
func but(r api.Relabel, change func(r *api.Relabel)) api.Relabel {
	change(&r)
	return r
}

// narrow asks for one thing alone in every field.
func narrow() api.Relabel {
	return api.Relabel{In: 2, Label: 3, Proto: 6, Src: addr.Cut(0x0a010203, 32), Dst: addr.Cut(0x0a0b0c0d, 32), To: 1}
}

// down is the chapter's own example.
func down() api.Relabel {
	return api.Relabel{In: 0, Label: 1, Proto: -1, Dst: addr.Cut(0x0a000000, 8), To: 0}
}

// to is a rule from a label to another one.
func to(from, to int) api.Relabel {
	return but(wide(), func(r *api.Relabel) { r.Label, r.To = from, to })
}

// wrongPrefixes is prefixes that aren't right.
func wrongPrefixes() []api.Prefix {
	return []api.Prefix{
		{Addr: 1}, {Addr: 0x0a000001, Bits: 8}, {Addr: 0x80000000}, {Addr: math.MaxUint32, Bits: 31},
		{Bits: -1}, {Bits: 33}, {Bits: math.MinInt}, {Bits: math.MaxInt}, {Bits: 1 << 32},
	}
}

// wrongOnes is rules that aren't right for four labels, each by one field.
func wrongOnes() []api.Relabel {
	var l []api.Relabel
	for _, n := range []int{-2, 8, 1 << 32, 1<<32 - 1, math.MinInt, math.MaxInt} {
		l = append(l, but(wide(), func(r *api.Relabel) { r.In = n }))
	}
	for _, n := range []int{-2, 4, 16, 1 << 32, 1<<32 - 1, math.MinInt, math.MaxInt} {
		l = append(l, but(wide(), func(r *api.Relabel) { r.Label = n }))
	}
	for _, n := range []int{-2, 256, 1 << 32, math.MinInt, math.MaxInt} {
		l = append(l, but(wide(), func(r *api.Relabel) { r.Proto = n }))
	}
	for _, n := range []int{-1, 4, 16, 1 << 32, math.MinInt, math.MaxInt} {
		l = append(l, but(wide(), func(r *api.Relabel) { r.To = n }))
	}
	for _, p := range wrongPrefixes() {
		l = append(l, but(wide(), func(r *api.Relabel) { r.Src = p }), but(wide(), func(r *api.Relabel) { r.Dst = p }))
	}
	return l
}

// rightOnes is rules at the edges of what is right for four labels.
func rightOnes() []api.Relabel {
	var l []api.Relabel
	for _, change := range []func(r *api.Relabel){
		func(r *api.Relabel) {},
		func(r *api.Relabel) { r.In = 0 },
		func(r *api.Relabel) { r.In = 7 },
		func(r *api.Relabel) { r.Label = 0 },
		func(r *api.Relabel) { r.Label = 3 },
		func(r *api.Relabel) { r.Proto = 0 },
		func(r *api.Relabel) { r.Proto = 255 },
		func(r *api.Relabel) { r.To = 3 },
		func(r *api.Relabel) { r.Label, r.To = 2, 2 },
		func(r *api.Relabel) { r.Src = api.Prefix{Addr: 0x0a000000, Bits: 8} },
		func(r *api.Relabel) { r.Src = api.Prefix{Addr: math.MaxUint32, Bits: 32} },
		func(r *api.Relabel) { r.Dst = api.Prefix{Addr: 0x80000000, Bits: 1} },
		func(r *api.Relabel) { r.Dst = api.Prefix{Bits: 32} },
	} {
		l = append(l, but(wide(), change))
	}
	return append(l, narrow(), down(), api.Relabel{})
}

func TestP16_1Right(t *testing.T) {
	good := rightOnes()
	for _, r := range good {
		if !guard.Right(4, r) || !guard.Right(5, r) || !guard.Right(math.MaxInt, r) {
			t.Errorf("Right(4, %+v): false", r)
		}
	}
	if !guard.Right(4, good...) || !guard.Right(4, slices.Repeat(good, 50)...) {
		t.Error("Right of many right ones: false")
	}
	for _, labels := range []int{math.MinInt, -1, 0, 1, 16, 17, math.MaxInt} {
		if !guard.Right(labels) {
			t.Errorf("Right(%d): false of no rules", labels)
		}
	}
}

func TestP16_1RightLabels(t *testing.T) {
	for _, c := range []struct {
		labels, label, to int
		want              bool
	}{
		{1, -1, 0, true}, {1, 0, 0, true}, {1, 1, 0, false}, {1, 0, 1, false}, {1, -1, 1, false},
		{2, 1, 1, true}, {2, 2, 1, false}, {2, 1, 2, false}, {2, -2, 1, false}, {2, 0, -1, false},
		{16, 15, 15, true}, {16, 16, 0, false}, {16, 0, 16, false},
		{17, 16, 16, true}, {1000, 999, 999, true}, {1000, 1000, 0, false},
		{math.MaxInt, math.MaxInt - 1, math.MaxInt - 1, true}, {math.MaxInt, math.MaxInt, 0, false}, {math.MaxInt, 0, math.MaxInt, false},
		{0, -1, 0, false}, {0, 0, 0, false}, {0, -1, -1, false},
		{-1, -1, 0, false}, {-1, -1, -2, false}, {-5, -6, -6, false},
		{math.MinInt, -1, 0, false}, {math.MinInt, 0, 0, false}, {math.MinInt, math.MinInt, math.MinInt, false},
	} {
		if got := guard.Right(c.labels, to(c.label, c.to)); got != c.want {
			t.Errorf("Right(%d) of %d to %d: %v", c.labels, c.label, c.to, got)
		}
	}
}

func TestP16_1RightWrong(t *testing.T) {
	for _, r := range wrongOnes() {
		for _, l := range [][]api.Relabel{{r}, {r, wide()}, {wide(), r}, {wide(), r, wide()}, {r, r}} {
			if guard.Right(4, l...) {
				t.Errorf("Right(4, %+v): true", l)
			}
		}
	}
}

// query is what is asked of.
type query struct {
	in, label, proto int
	src, dst         uint32
}

func matches(r api.Relabel, q query) bool {
	return guard.Matches(r, q.in, q.label, q.proto, q.src, q.dst)
}

func first(l []api.Relabel, q query) int {
	return guard.First(l, q.in, q.label, q.proto, q.src, q.dst)
}

func gets(l []api.Relabel, q query) int {
	return guard.To(l, q.in, q.label, q.proto, q.src, q.dst)
}

func TestP16_1Matches(t *testing.T) {
	if !matches(narrow(), query{2, 3, 6, 0x0a010203, 0x0a0b0c0d}) {
		t.Error("a rule that asks for just that doesn't match")
	}
	for _, q := range []query{
		{3, 3, 6, 0x0a010203, 0x0a0b0c0d},
		{-1, 3, 6, 0x0a010203, 0x0a0b0c0d},
		{2 + 1<<32, 3, 6, 0x0a010203, 0x0a0b0c0d},
		{2, 2, 6, 0x0a010203, 0x0a0b0c0d},
		{2, -1, 6, 0x0a010203, 0x0a0b0c0d},
		{3, 2, 6, 0x0a010203, 0x0a0b0c0d},
		{2, 3, 17, 0x0a010203, 0x0a0b0c0d},
		{2, 3, -1, 0x0a010203, 0x0a0b0c0d},
		{2, 3, 6 + 256, 0x0a010203, 0x0a0b0c0d},
		{2, 3, 6, 0x0a010202, 0x0a0b0c0d},
		{2, 3, 6, 0x0a010203, 0x0a0b0c0c},
		{2, 3, 6, 0x0a0b0c0d, 0x0a010203},
		{6, 2, 3, 0x0a010203, 0x0a0b0c0d},
		{math.MinInt, math.MaxInt, math.MinInt, 0, math.MaxUint32},
	} {
		if matches(narrow(), q) {
			t.Errorf("a narrow rule matches %+v", q)
		}
		if !matches(wide(), q) {
			t.Errorf("a wide rule doesn't match %+v", q)
		}
	}
}

func TestP16_1MatchesPrefixes(t *testing.T) {
	r := but(wide(), func(r *api.Relabel) { r.Src, r.Dst = addr.Cut(0x0a000000, 8), addr.Cut(0xc0a80100, 24) })
	for _, c := range []struct {
		src, dst uint32
		want     bool
	}{
		{0x0a000000, 0xc0a80100, true},
		{0x0affffff, 0xc0a801ff, true},
		{0x09ffffff, 0xc0a80100, false},
		{0x0b000000, 0xc0a80100, false},
		{0x0a000000, 0xc0a800ff, false},
		{0x0a000000, 0xc0a80200, false},
		{0xc0a80100, 0x0a000000, false},
	} {
		if got := matches(r, query{src: c.src, dst: c.dst}); got != c.want {
			t.Errorf("Matches(%s to %s): %v", addr.Text(c.src), addr.Text(c.dst), got)
		}
	}
}

func TestP16_1MatchesWrong(t *testing.T) {
	for _, p := range wrongPrefixes() {
		for _, r := range []api.Relabel{
			but(wide(), func(r *api.Relabel) { r.Src = p }),
			but(wide(), func(r *api.Relabel) { r.Dst = p }),
			but(wide(), func(r *api.Relabel) { r.Src, r.Dst = p, p }),
		} {
			for _, a := range []uint32{0, p.Addr, 1, math.MaxUint32} {
				q := query{0, 5, 6, a, a}
				if matches(r, q) || first([]api.Relabel{r}, q) != -1 || gets([]api.Relabel{r}, q) != 5 {
					t.Errorf("%+v matches %+v", r, q)
				}
				if first([]api.Relabel{r, to(5, 2)}, q) != 1 || gets([]api.Relabel{r, to(5, 2)}, q) != 2 {
					t.Errorf("%+v stands in the way of %+v", r, q)
				}
			}
		}
	}
	// What else isn't right matches as it stands.
	for _, r := range []api.Relabel{
		but(wide(), func(r *api.Relabel) { r.In = 8 }),
		but(wide(), func(r *api.Relabel) { r.In = math.MinInt }),
		but(wide(), func(r *api.Relabel) { r.Label = 99 }),
		but(wide(), func(r *api.Relabel) { r.Label = -2 }),
		but(wide(), func(r *api.Relabel) { r.Proto = 256 }),
		but(wide(), func(r *api.Relabel) { r.To = math.MaxInt }),
	} {
		q := query{in: r.In, label: r.Label, proto: r.Proto}
		if !matches(r, q) || gets([]api.Relabel{r}, q) != r.To {
			t.Errorf("%+v doesn't match what it asks for", r)
		}
	}
}

func TestP16_1FirstAndTo(t *testing.T) {
	q := query{0, 1, 17, 0xc0a80101, 0x0a636363}
	for _, c := range []struct {
		l     []api.Relabel
		q     query
		first int
		to    int
	}{
		{nil, q, -1, 1},
		{[]api.Relabel{}, query{label: -7}, -1, -7},
		{nil, query{label: math.MaxInt}, -1, math.MaxInt},
		{[]api.Relabel{down()}, q, 0, 0},
		{[]api.Relabel{down()}, query{1, 1, 17, 0xc0a80101, 0x0a636363}, -1, 1},
		{[]api.Relabel{down()}, query{0, 2, 17, 0xc0a80101, 0x0a636363}, -1, 2},
		{[]api.Relabel{down()}, query{0, 1, 17, 0x0a636363, 0xc0a80101}, -1, 1},
		{[]api.Relabel{down(), to(-1, 5)}, q, 0, 0},
		{[]api.Relabel{to(-1, 5), down()}, q, 0, 5},
		{[]api.Relabel{narrow(), to(2, 4), to(1, 1), to(1, 6)}, q, 2, 1}, // a rule to its own label ends the search
		{[]api.Relabel{to(1, 2), to(2, 3)}, q, 0, 2},                     // one rule alone
		{append(slices.Repeat([]api.Relabel{narrow()}, 200), wide()), q, 200, 0},
	} {
		if n, label := first(c.l, c.q), gets(c.l, c.q); n != c.first || label != c.to {
			t.Errorf("%+v of %+v: %d, %d; want %d, %d", c.q, c.l, n, label, c.first, c.to)
		}
	}
}

// told is a matrix: a row of o and . for each label.
func told(m [][]bool) []string {
	var rows []string
	for _, row := range m {
		s := ""
		for _, b := range row {
			if b {
				s += "o"
			} else {
				s += "."
			}
		}
		rows = append(rows, s)
	}
	return rows
}

func TestP16_2Reach(t *testing.T) {
	much := but(to(0, 1), func(r *api.Relabel) { r.In, r.Proto, r.Src, r.Dst = 7, 255, addr.Cut(5, 32), addr.Cut(6, 32) })
	for _, c := range []struct {
		l      []api.Relabel
		labels int
		want   []string
	}{
		{nil, 0, nil},
		{nil, -1, nil},
		{nil, math.MinInt, nil},
		{[]api.Relabel{wide(), to(0, 0)}, 0, nil},
		{[]api.Relabel{wide()}, -3, nil},
		{nil, 1, []string{"o"}},
		{nil, 3, []string{"o..", ".o.", "..o"}},
		{[]api.Relabel{down()}, 2, []string{"o.", "oo"}},
		{[]api.Relabel{to(2, 1), to(-1, 0)}, 3, []string{"o..", "oo.", "ooo"}},
		{[]api.Relabel{much}, 3, []string{"oo.", ".o.", "..o"}},                  // whatever else it asks for
		{[]api.Relabel{to(0, 1), to(1, 2)}, 3, []string{"oo.", ".oo", "..o"}},    // one rule alone leads on
		{[]api.Relabel{to(-1, 2), to(0, 1)}, 3, []string{"ooo", ".oo", "..o"}},   // though it never comes to the second one
		{[]api.Relabel{to(0, 0), to(1, 1)}, 2, []string{"o.", ".o"}},             // itself
		{[]api.Relabel{to(0, 2), to(2, 0), to(-2, 1)}, 2, []string{"o.", ".o"}},  // not right for two
		{[]api.Relabel{to(0, 2), to(2, 0)}, 3, []string{"o.o", ".o.", "o.o"}},    // but for three
		{[]api.Relabel{to(0, -1), to(-1, 3), to(3, 1)}, 2, []string{"o.", ".o"}}, // nor these
	} {
		if got := told(guard.Reach(c.l, c.labels)); !slices.Equal(got, c.want) {
			t.Errorf("Reach(%+v, %d): %v; want %v", c.l, c.labels, got, c.want)
		}
	}
}

func TestP16_2ReachMany(t *testing.T) {
	l := []api.Relabel{to(0, 15), to(15, 14), to(16, 3), to(3, 16), to(17, 17), to(-1, 16), to(1000, 999)}
	for _, labels := range []int{15, 16, 17, 18, 2000, 1 << 40, math.MaxInt} {
		m := guard.Reach(l, labels)
		n := min(labels, 16)
		if len(m) != n {
			t.Fatalf("Reach of %d labels: %d rows", labels, len(m))
		}
		for from, row := range m {
			if len(row) != n {
				t.Fatalf("Reach of %d labels: %d in row %d", labels, len(row), from)
			}
			for to, got := range row {
				want := from == to || n == 16 && (from == 0 && to == 15 || from == 15 && to == 14)
				if got != want {
					t.Errorf("Reach of %d labels: %d to %d: %v", labels, from, to, got)
				}
			}
		}
	}
}

func TestP16_2ReachWrong(t *testing.T) {
	for _, r := range wrongOnes() {
		if r.To == 0 {
			r.To = 2 // so that it would be seen
		}
		if got := told(guard.Reach([]api.Relabel{r, to(1, 3), r}, 4)); !slices.Equal(got, []string{"o...", ".o.o", "..o.", "...o"}) {
			t.Errorf("Reach of %+v, which isn't right: %v", r, got)
		}
	}
	for _, r := range rightOnes() {
		m := guard.Reach([]api.Relabel{r}, 4)
		for from := range 4 {
			for to := range 4 {
				if want := from == to || to == r.To && (r.Label == -1 || r.Label == from); m[from][to] != want {
					t.Errorf("Reach of %+v: %d to %d: %v", r, from, to, m[from][to])
				}
			}
		}
	}
}

// pick is one of some.
func pick[T any](rng *rand.Rand, l ...T) T {
	return l[rng.Intn(len(l))]
}

// anyRule is a rule that is right for so many labels.
func anyRule(rng *rand.Rand, labels int) api.Relabel {
	prefix := func() api.Prefix {
		return addr.Cut(pick(rng, uint32(0x0a000000), 0x0a000001, 0x0a800000, 0x80000000), pick(rng, 0, 1, 8, 9, 31, 32))
	}
	return api.Relabel{
		In: pick(rng, -1, -1, 0, 7), Label: rng.Intn(labels+1) - 1, Proto: pick(rng, -1, -1, 6, 255),
		Src: prefix(), Dst: prefix(), To: rng.Intn(labels),
	}
}

// oftenWrong is a rule that may be wrong.
func oftenWrong(rng *rand.Rand, labels int) api.Relabel {
	r := anyRule(rng, labels)
	switch rng.Intn(12) {
	case 0:
		r.In = pick(rng, -2, 8)
	case 1:
		r.Label = pick(rng, -2, labels, labels+1)
	case 2:
		r.Proto = pick(rng, -2, 256)
	case 3:
		r.To = pick(rng, -1, labels)
	case 4:
		r.Src.Bits = pick(rng, -1, 33, 3)
	case 5:
		r.Dst.Bits = pick(rng, -1, 33, 3)
	}
	return r
}

func anyQuery(rng *rand.Rand, labels int) query {
	address := func() uint32 {
		return pick(rng, uint32(0x0a000000), 0x0a000001, 0x0a000002, 0x0a800000, 0x0b000000, 0x80000000, 0)
	}
	return query{pick(rng, -2, 0, 7, 8, 3), rng.Intn(labels), pick(rng, -2, 6, 255, 256), address(), address()}
}

func rightPrefix(p api.Prefix) bool {
	if p.Bits < 0 || p.Bits > 32 {
		return false
	}
	for bit := p.Bits; bit < 32; bit++ {
		if p.Addr>>(31-bit)&1 != 0 {
			return false
		}
	}
	return true
}

func rightModel(labels int, r api.Relabel) bool {
	for _, c := range [][3]int{{-1, r.In, 7}, {-1, r.Label, labels - 1}, {-1, r.Proto, 255}, {0, r.To, labels - 1}} {
		if c[1] < c[0] || c[1] > c[2] {
			return false
		}
	}
	return rightPrefix(r.Src) && rightPrefix(r.Dst)
}

// holds is the document's words for a prefix that holds an address: their first bits are the same.
func holds(p api.Prefix, a uint32) bool {
	if !rightPrefix(p) {
		return false
	}
	for bit := range p.Bits {
		if p.Addr>>(31-bit)&1 != a>>(31-bit)&1 {
			return false
		}
	}
	return true
}

func matchesModel(r api.Relabel, q query) bool {
	for _, c := range [][2]int{{r.In, q.in}, {r.Label, q.label}, {r.Proto, q.proto}} {
		if c[0] != -1 && c[0] != c[1] {
			return false
		}
	}
	return holds(r.Src, q.src) && holds(r.Dst, q.dst)
}

func TestP16_1Random(t *testing.T) {
	rng := rand.New(rand.NewSource(161))
	matched := 0
	for range 30000 {
		labels := 1 + rng.Intn(5)
		q, right, place := anyQuery(rng, labels), true, -1
		var l []api.Relabel
		for i := range rng.Intn(12) {
			r := oftenWrong(rng, labels)
			l = append(l, r)
			right = right && rightModel(labels, r)
			m := matchesModel(r, q)
			if matches(r, q) != m || guard.Right(labels, r) != rightModel(labels, r) {
				t.Fatalf("Matches(%+v, %+v): %v; Right: %v", r, q, !m, guard.Right(labels, r))
			}
			if place < 0 && m {
				place = i
			}
		}
		label := q.label
		if place >= 0 {
			label = l[place].To
			matched++
		}
		if first(l, q) != place || gets(l, q) != label || guard.Right(labels, l...) != right {
			t.Fatalf("%+v of %+v: %d, %d, %v; want %d, %d, %v", q, l, first(l, q), gets(l, q), guard.Right(labels, l...), place, label, right)
		}
	}
	if matched < 1000 {
		t.Errorf("too few matched: %d", matched)
	}
}

func TestP16_2Random(t *testing.T) {
	rng := rand.New(rand.NewSource(162))
	for range 5000 {
		labels := 1 + rng.Intn(18)
		var l []api.Relabel
		for range rng.Intn(12) {
			l = append(l, oftenWrong(rng, labels))
		}
		m := guard.Reach(l, labels)
		n := min(labels, 16)
		if len(m) != n {
			t.Fatalf("Reach of %d labels: %d rows", labels, len(m))
		}
		for from := range n {
			for to := range n {
				want := from == to || slices.ContainsFunc(l, func(r api.Relabel) bool {
					return rightModel(labels, r) && r.To == to && (r.Label == -1 || r.Label == from)
				})
				if m[from][to] != want {
					t.Fatalf("Reach(%+v, %d): %d to %d: %v", l, labels, from, to, !want)
				}
			}
		}
	}
}

func TestP16_3Reached(t *testing.T) {
	rng := rand.New(rand.NewSource(163))
	changed := 0
	for range 3000 {
		labels := 1 + rng.Intn(16)
		var l []api.Relabel
		for range rng.Intn(12) {
			l = append(l, anyRule(rng, labels))
		}
		if !guard.Right(labels, l...) {
			t.Fatalf("Right(%d, %+v): false", labels, l)
		}
		m := guard.Reach(l, labels)
		for range 20 {
			q := anyQuery(rng, labels)
			label := gets(l, q)
			if !m[q.label][label] {
				t.Fatalf("%+v gets %d by %+v, and can't reach it", q, label, l)
			}
			if label != q.label {
				changed++
			}
		}
	}
	if changed < 500 {
		t.Errorf("too few got another label: %d", changed)
	}
}

func TestP16LeavesArguments(t *testing.T) {
	rng := rand.New(rand.NewSource(164))
	for range 200 {
		room := make([]api.Relabel, 30)
		for i := range room {
			room[i] = oftenWrong(rng, 4)
		}
		before := slices.Clone(room)
		l := room[:rng.Intn(20)]
		m := guard.Reach(l, 4)
		guard.Right(4, l...)
		gets(l, anyQuery(rng, 4))
		if !reflect.DeepEqual(room, before) {
			t.Fatal("what was handed in is changed")
		}
		want, other := told(m), guard.Reach(l, 4)
		for _, row := range m {
			_ = append(row, true)
		}
		if got := told(m); !slices.Equal(got, want) {
			t.Fatal("two rows share memory")
		}
		for _, row := range m {
			clear(row)
		}
		if got := told(other); !slices.Equal(got, want) {
			t.Fatal("two answers share memory")
		}
	}
}
