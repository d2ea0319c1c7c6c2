package trie_test

import (
	"cmp"
	"math"
	"math/rand"
	"runtime"
	"slices"
	"testing"

	"guerite/addr"
	"guerite/api"
	"guerite/trie"
)

func prefix(t testing.TB, s string) api.Prefix {
	t.Helper()
	p, ok := addr.ParsePrefix(s)
	if !ok {
		t.Fatalf("%s is no prefix", s)
	}
	return p
}

func address(t testing.TB, s string) uint32 {
	t.Helper()
	a, ok := addr.Parse(s)
	if !ok {
		t.Fatalf("%s is no address", s)
	}
	return a
}

// routes is routes to prefixes, by interfaces from 1 on.
func routes(t testing.TB, l ...string) []api.Route {
	t.Helper()
	var all []api.Route
	for i, s := range l {
		all = append(all, api.Route{To: prefix(t, s), Out: i + 1})
	}
	return all
}

func made(t testing.TB, l ...api.Route) *trie.Trie {
	t.Helper()
	x := trie.New()
	for _, r := range l {
		if e := x.Add(r); e != api.OK {
			t.Fatalf("Add(%v): %d", r, e)
		}
	}
	return x
}

// hosts is so many routes to single addresses.
func hosts(n int) []api.Route {
	var all []api.Route
	for i := range n {
		all = append(all, api.Route{To: addr.Cut(uint32(i)*0x01010101, 32), Out: i})
	}
	return all
}

// wrong is prefixes that aren't right.
var wrong = []api.Prefix{
	{Addr: 0, Bits: -1},
	{Addr: 0, Bits: 33},
	{Addr: 1, Bits: 31},
	{Addr: 1, Bits: 0},
	{Addr: 0x80000000, Bits: 0},
	{Addr: 0x0a010000, Bits: 8},
	{Addr: 0x0a010000, Bits: 15},
	{Addr: 0x0a000000, Bits: math.MinInt},
	{Addr: 0x0a000000, Bits: math.MaxInt},
	{Addr: 0x0a000000, Bits: 1<<32 + 8},
	{Addr: 0xffffffff, Bits: -32},
	{Addr: 0xffffffff, Bits: 64},
}

func TestP14_1New(t *testing.T) {
	x := trie.New()
	if x == nil || x.Len() != 0 || len(x.All()) != 0 || x.Nodes() != 1 {
		t.Fatalf("New: %v", x)
	}
	for _, a := range []uint32{0, 1, 0x7fffffff, 0x80000000, 0xffffffff} {
		if r, ok := x.Find(a); r != (api.Route{}) || ok {
			t.Errorf("Find(%x): %v, %v", a, r, ok)
		}
		for bits := range 33 {
			p := addr.Cut(a, bits)
			if r, ok := x.Get(p); r != (api.Route{}) || ok {
				t.Errorf("Get(%v): %v, %v", p, r, ok)
			}
			if e := x.Drop(p); e != api.ErrNone {
				t.Errorf("Drop(%v): %d", p, e)
			}
		}
	}
	other := made(t, routes(t, "0.0.0.0/0")...)
	if x.Len() != 0 || x.Nodes() != 1 || other.Len() != 1 {
		t.Errorf("two tries aren't apart")
	}
}

func TestP14_1Example(t *testing.T) {
	x := made(t, routes(t, "10.0.0.0/8", "10.1.0.0/16")...)
	for s, out := range map[string]int{"10.1.2.3": 2, "10.2.0.0": 1} {
		if r, ok := x.Find(address(t, s)); !ok || r.Out != out {
			t.Errorf("Find(%s): %v, %v", s, r, ok)
		}
	}
}

func TestP14_1Add(t *testing.T) {
	x := trie.New()
	for i, r := range routes(t, "0.0.0.0/0", "255.255.255.255/32", "0.0.0.0/32", "128.0.0.0/1", "0.0.0.0/1", "10.0.0.0/8", "10.0.0.0/7") {
		if _, ok := x.Get(r.To); ok {
			t.Errorf("%v is there before it is added", r)
		}
		if e := x.Add(r); e != api.OK || x.Len() != i+1 {
			t.Errorf("Add(%v): %d; there are %d", r, e, x.Len())
		}
		if got, ok := x.Get(r.To); got != r || !ok {
			t.Errorf("Get(%v): %v, %v", r.To, got, ok)
		}
	}
	for _, out := range []int{0, -1, 8, math.MinInt, math.MaxInt} { // what an Out is, isn't a trie's to say
		r := api.Route{To: prefix(t, "10.0.0.0/8"), Out: out}
		x := made(t, r)
		if got, ok := x.Get(r.To); got != r || !ok {
			t.Errorf("Get: %v, %v; want %v", got, ok, r)
		}
	}
}

func TestP14_1AddWrong(t *testing.T) {
	full := made(t, hosts(256)...)
	for _, x := range []*trie.Trie{trie.New(), made(t, routes(t, "0.0.0.0/0", "10.0.0.0/8", "255.255.255.255/32")...), full} {
		before, nodes := x.All(), x.Nodes()
		for _, p := range wrong { // even of a full one
			if e := x.Add(api.Route{To: p, Out: 1}); e != api.ErrArg {
				t.Errorf("Add(%v): %d", p, e)
			}
		}
		for _, r := range before { // even of a full one
			if e := x.Add(api.Route{To: r.To, Out: r.Out + 1}); e != api.ErrTwice {
				t.Errorf("Add(%v) once more: %d", r.To, e)
			}
			if e := x.Add(r); e != api.ErrTwice {
				t.Errorf("Add(%v) once more: %d", r, e)
			}
		}
		if !slices.Equal(x.All(), before) || x.Len() != len(before) || x.Nodes() != nodes {
			t.Errorf("what failed has changed %v into %v", before, x.All())
		}
	}
	var none *trie.Trie
	for _, p := range append(slices.Clone(wrong), prefix(t, "10.0.0.0/8"), prefix(t, "0.0.0.0/0")) {
		if e := none.Add(api.Route{To: p}); e != api.ErrArg {
			t.Errorf("Add(%v) of nil: %d", p, e)
		}
	}
}

func TestP14_1AddFull(t *testing.T) {
	all := hosts(256)
	x := made(t, all[:255]...)
	if e := x.Add(all[255]); e != api.OK || x.Len() != 256 {
		t.Fatalf("the 256th: %d", e)
	}
	nodes := x.Nodes()
	for _, s := range []string{"0.0.0.0/0", "0.0.0.0/31", "1.2.3.4/32", "128.0.0.0/1"} { // with nodes there, and without
		if e := x.Add(api.Route{To: prefix(t, s)}); e != api.ErrFull {
			t.Errorf("Add(%s): %d", s, e)
		}
		if _, ok := x.Get(prefix(t, s)); ok || x.Len() != 256 || x.Nodes() != nodes {
			t.Errorf("%s is there", s)
		}
	}
	if e := x.Drop(all[77].To); e != api.OK || x.Len() != 255 {
		t.Fatalf("Drop: %d", e)
	}
	if e := x.Add(api.Route{To: prefix(t, "1.2.3.4/32")}); e != api.OK {
		t.Errorf("Add, when there is room again: %d", e)
	}
	if e := x.Add(all[77]); e != api.ErrFull {
		t.Errorf("Add, when there is none again: %d", e)
	}
}

func TestP14_1Drop(t *testing.T) {
	l := routes(t, "0.0.0.0/0", "10.0.0.0/8", "10.0.0.0/9", "10.128.0.0/9", "10.1.0.0/16", "10.1.2.3/32", "10.1.2.2/32", "0.0.0.0/32", "255.255.255.255/32")
	for i, r := range l {
		x := made(t, l...)
		if e := x.Drop(r.To); e != api.OK || x.Len() != len(l)-1 {
			t.Errorf("Drop(%v): %d", r.To, e)
		}
		if got, ok := x.Get(r.To); got != (api.Route{}) || ok {
			t.Errorf("Get(%v): %v, %v", r.To, got, ok)
		}
		if e := x.Drop(r.To); e != api.ErrNone {
			t.Errorf("Drop(%v) once more: %d", r.To, e)
		}
		for _, other := range slices.Delete(slices.Clone(l), i, i+1) {
			if got, ok := x.Get(other.To); got != other || !ok {
				t.Errorf("without %v Get(%v): %v, %v", r.To, other.To, got, ok)
			}
		}
		again := api.Route{To: r.To, Out: r.Out + 100}
		if e := x.Add(again); e != api.OK {
			t.Errorf("Add(%v) again: %d", again, e)
		}
		if got, ok := x.Get(r.To); got != again || !ok {
			t.Errorf("Get(%v): %v, %v", r.To, got, ok)
		}
	}
}

func TestP14_1DropWrong(t *testing.T) {
	l := routes(t, "10.0.0.0/8", "10.1.2.0/24", "192.168.0.0/16")
	x := made(t, l...)
	before, nodes := x.All(), x.Nodes()
	for _, p := range wrong {
		if e := x.Drop(p); e != api.ErrArg {
			t.Errorf("Drop(%v): %d", p, e)
		}
	}
	for _, s := range []string{
		"0.0.0.0/0", "10.0.0.0/7", // shorter ones
		"10.0.0.0/9", "10.1.0.0/16", "10.1.2.0/23", // with a node, but without a route
		"10.1.2.0/25", "10.1.2.0/32", "10.1.2.128/25", // longer ones
		"11.0.0.0/8", "192.169.0.0/16", "255.255.255.255/32", // beside them
	} {
		if e := x.Drop(prefix(t, s)); e != api.ErrNone {
			t.Errorf("Drop(%s): %d", s, e)
		}
	}
	if !slices.Equal(x.All(), before) || x.Len() != len(l) || x.Nodes() != nodes {
		t.Errorf("what failed has changed %v into %v", before, x.All())
	}
	var none *trie.Trie
	for _, p := range append(slices.Clone(wrong), l[0].To, prefix(t, "0.0.0.0/0")) {
		if e := none.Drop(p); e != api.ErrArg {
			t.Errorf("Drop(%v) of nil: %d", p, e)
		}
	}
}

func TestP14_1Find(t *testing.T) {
	l := routes(t, "10.0.0.0/8", "10.1.0.0/16", "10.1.2.0/24", "10.1.2.3/32", "10.128.0.0/9", "192.168.0.0/16", "0.0.0.0/32", "255.255.255.255/32")
	x := made(t, l...)
	for _, c := range []struct {
		a   string
		out int // 0 of none
	}{
		{"10.0.0.0", 1}, {"10.0.255.255", 1}, {"10.2.0.0", 1}, {"10.127.255.255", 1},
		{"10.1.0.0", 2}, {"10.1.1.255", 2}, {"10.1.3.0", 2}, {"10.1.255.255", 2},
		{"10.1.2.0", 3}, {"10.1.2.2", 3}, {"10.1.2.4", 3}, {"10.1.2.255", 3},
		{"10.1.2.3", 4},
		{"10.128.0.0", 5}, {"10.255.255.255", 5},
		{"192.168.0.0", 6}, {"192.168.255.255", 6},
		{"0.0.0.0", 7}, {"255.255.255.255", 8},
		{"0.0.0.1", 0}, {"255.255.255.254", 0}, {"9.255.255.255", 0}, {"11.0.0.0", 0}, {"192.167.255.255", 0}, {"192.169.0.0", 0}, {"128.0.0.0", 0},
	} {
		want := api.Route{}
		if c.out > 0 {
			want = l[c.out-1]
		}
		if r, ok := x.Find(address(t, c.a)); r != want || ok != (c.out > 0) {
			t.Errorf("Find(%s): %v, %v; want %v", c.a, r, ok, want)
		}
		if r, ok := made(t, api.Route{Out: 9}).Find(address(t, c.a)); r != (api.Route{Out: 9}) || !ok {
			t.Errorf("Find(%s) by the route of no bits: %v, %v", c.a, r, ok)
		}
	}
}

// TestP14_1FindDropped: an address has the next shorter prefix, and a longer one that comes back, is taken again.
func TestP14_1FindDropped(t *testing.T) {
	l := routes(t, "0.0.0.0/0", "10.0.0.0/8", "10.1.0.0/16", "10.1.2.0/24", "10.1.2.3/32")
	a := address(t, "10.1.2.3")
	for _, order := range [][]int{{4, 3, 2, 1, 0}, {0, 1, 2, 3, 4}, {2, 4, 0, 1, 3}, {3, 1, 4, 2, 0}} {
		x := made(t, l...)
		left := slices.Clone(l)
		for _, n := range order {
			if e := x.Drop(l[n].To); e != api.OK {
				t.Fatalf("Drop(%v): %d", l[n].To, e)
			}
			left = slices.DeleteFunc(left, func(r api.Route) bool { return r == l[n] })
			want := api.Route{}
			if len(left) > 0 {
				want = left[len(left)-1]
			}
			if r, ok := x.Find(a); r != want || ok != (len(left) > 0) {
				t.Errorf("without %v Find: %v, %v; want %v", l[n], r, ok, want)
			}
		}
		x.Add(l[3])
		if r, ok := x.Find(a); r != l[3] || !ok {
			t.Errorf("Find: %v, %v", r, ok)
		}
	}
}

func TestP14_1Get(t *testing.T) {
	l := routes(t, "10.0.0.0/8", "10.1.2.0/24", "0.0.0.0/32", "255.255.255.255/32", "128.0.0.0/1")
	x := made(t, l...)
	for _, r := range l {
		if got, ok := x.Get(r.To); got != r || !ok {
			t.Errorf("Get(%v): %v, %v", r.To, got, ok)
		}
	}
	none := append(slices.Clone(wrong), api.Prefix{Addr: 0x0a010200, Bits: 8}) // it begins as one does that is there
	for _, s := range []string{"0.0.0.0/0", "0.0.0.0/1", "10.0.0.0/7", "10.0.0.0/9", "10.0.0.0/24", "10.1.0.0/16", "10.1.2.0/23", "10.1.2.0/25", "10.1.2.0/32", "11.0.0.0/8", "0.0.0.0/31", "0.0.0.1/32", "255.255.255.254/31", "255.255.255.254/32"} {
		none = append(none, prefix(t, s))
	}
	for _, p := range none {
		if got, ok := x.Get(p); got != (api.Route{}) || ok {
			t.Errorf("Get(%v): %v, %v", p, got, ok)
		}
	}
}

func TestP14_1All(t *testing.T) {
	want := routes(t, "0.0.0.0/0", "0.0.0.0/1", "0.0.0.0/32", "0.0.0.1/32", "9.255.255.0/24", "10.0.0.0/7", "10.0.0.0/8", "10.0.0.0/32", "10.0.0.1/32", "10.1.0.0/16", "10.128.0.0/9", "11.0.0.0/8", "127.255.255.255/32", "128.0.0.0/1", "128.0.0.0/2", "255.255.255.255/32")
	r := rand.New(rand.NewSource(14))
	for range 100 {
		l := slices.Clone(want)
		r.Shuffle(len(l), func(i, j int) { l[i], l[j] = l[j], l[i] })
		x := made(t, l...)
		if got := x.All(); !slices.Equal(got, want) {
			t.Fatalf("of %v All: %v", l, got)
		}
	}
	all := hosts(256) // 255.255.255.255 is the last
	if got := made(t, all...).All(); !slices.Equal(got, all) {
		t.Errorf("All: %v", got)
	}
}

// TestP14_1AllIsNew: who changes what was answered, changes no trie.
func TestP14_1AllIsNew(t *testing.T) {
	l := routes(t, "10.0.0.0/8", "10.1.0.0/16")
	x := made(t, l...)
	first, second := x.All(), x.All()
	first[0], first[1] = api.Route{}, api.Route{}
	_ = append(first[:1], api.Route{Out: 99})
	if !slices.Equal(second, l) || !slices.Equal(x.All(), l) {
		t.Errorf("All: %v, %v", second, x.All())
	}
	if r, ok := x.Find(0x0a010000); r != l[1] || !ok {
		t.Errorf("Find: %v, %v", r, ok)
	}
	x.Drop(l[0].To)
	if !slices.Equal(second, l) {
		t.Errorf("a later Drop has changed what All answered: %v", second)
	}
}

func TestP14_1Nodes(t *testing.T) {
	for _, c := range []struct {
		l     []string
		nodes int
	}{
		{nil, 1},
		{[]string{"0.0.0.0/0"}, 1},
		{[]string{"0.0.0.0/1"}, 2},
		{[]string{"128.0.0.0/1"}, 2},
		{[]string{"0.0.0.0/1", "128.0.0.0/1"}, 3},
		{[]string{"10.0.0.0/8"}, 9},
		{[]string{"10.0.0.0/8", "10.1.0.0/16"}, 17}, // one begins the other
		{[]string{"10.1.0.0/16", "10.0.0.0/8"}, 17},
		{[]string{"10.0.0.0/8", "11.0.0.0/8"}, 10}, // the last bit alone is unlike
		{[]string{"10.0.0.0/8", "138.0.0.0/8"}, 17},
		{[]string{"255.255.255.255/32"}, 33},
		{[]string{"0.0.0.0/32", "255.255.255.255/32"}, 65},
		{[]string{"0.0.0.0/32", "0.0.0.1/32", "0.0.0.0/0"}, 34},
	} {
		x := made(t, routes(t, c.l...)...)
		if got := x.Nodes(); got != c.nodes {
			t.Errorf("of %v Nodes: %d; want %d", c.l, got, c.nodes)
		}
		for _, s := range c.l {
			x.Drop(prefix(t, s))
		}
		if got := x.Nodes(); got != 1 {
			t.Errorf("behind %v Nodes: %d", c.l, got)
		}
	}
}

func TestP14_1NodesDropped(t *testing.T) {
	x := made(t, routes(t, "10.0.0.0/8", "10.1.0.0/16", "11.0.0.0/8")...)
	for _, c := range []struct {
		s     string
		nodes int
	}{
		{"10.0.0.0/8", 18}, // another one goes on from there
		{"11.0.0.0/8", 17}, // its own alone: the others are shared
		{"10.1.0.0/16", 1}, // all of them, that of 10.0.0.0/8 too
	} {
		if e := x.Drop(prefix(t, c.s)); e != api.OK || x.Nodes() != c.nodes {
			t.Errorf("Drop(%s): %d, Nodes %d; want %d", c.s, e, x.Nodes(), c.nodes)
		}
	}
}

// model is what a trie has, by the document's words.
type model []api.Route

func (m model) at(p api.Prefix) int {
	return slices.IndexFunc(m, func(r api.Route) bool { return r.To == p })
}

func (m model) find(a uint32) (api.Route, bool) {
	best, found := api.Route{}, false
	for _, r := range m {
		if r.To.Bits > 32 || uint64(a)>>(32-r.To.Bits) != uint64(r.To.Addr)>>(32-r.To.Bits) {
			continue
		}
		if !found || r.To.Bits > best.To.Bits {
			best, found = r, true
		}
	}
	return best, found
}

func (m model) nodes() int {
	met := map[api.Prefix]bool{{}: true}
	for _, r := range m {
		for bits := range r.To.Bits + 1 {
			met[addr.Cut(r.To.Addr, bits)] = true
		}
	}
	return len(met)
}

func (m model) all() []api.Route {
	return slices.SortedFunc(slices.Values(m), func(r, s api.Route) int {
		return cmp.Or(cmp.Compare(r.To.Addr, s.To.Addr), cmp.Compare(r.To.Bits, s.To.Bits))
	})
}

// someAddress is an address of which there are few, or any one.
func someAddress(r *rand.Rand) uint32 {
	switch r.Intn(3) {
	case 0:
		return uint32(r.Intn(16)) << 28 >> (4 * r.Intn(8))
	case 1:
		return ^uint32(0) << r.Intn(33)
	}
	return r.Uint32()
}

func somePrefix(r *rand.Rand, m model) api.Prefix {
	if len(m) > 0 && r.Intn(3) == 0 {
		p := m[r.Intn(len(m))].To
		return addr.Cut(p.Addr, max(0, p.Bits-r.Intn(3)))
	}
	return addr.Cut(someAddress(r), r.Intn(33))
}

func (m model) check(t *testing.T, x *trie.Trie, r *rand.Rand) {
	t.Helper()
	if got := x.All(); !slices.Equal(got, m.all()) || x.Len() != len(m) || x.Nodes() != m.nodes() {
		t.Fatalf("All %v, Len %d, Nodes %d; want %v, %d, %d", got, x.Len(), x.Nodes(), m.all(), len(m), m.nodes())
	}
	for range 20 {
		a := someAddress(r)
		want, found := m.find(a)
		if got, ok := x.Find(a); got != want || ok != found {
			t.Fatalf("of %v Find(%x): %v, %v; want %v, %v", m, a, got, ok, want, found)
		}
		p := somePrefix(r, m)
		want, n := api.Route{}, m.at(p)
		if n >= 0 {
			want = m[n]
		}
		if got, ok := x.Get(p); got != want || ok != (n >= 0) {
			t.Fatalf("of %v Get(%v): %v, %v; want %v", m, p, got, ok, want)
		}
	}
}

func (m model) add(r api.Route) (model, api.Errno) {
	switch {
	case m.at(r.To) >= 0:
		return m, api.ErrTwice
	case len(m) == 256:
		return m, api.ErrFull
	}
	return append(m, r), api.OK
}

func (m model) drop(p api.Prefix) (model, api.Errno) {
	n := m.at(p)
	if n < 0 {
		return m, api.ErrNone
	}
	return slices.Delete(m, n, n+1), api.OK
}

// TestP14_1Random: what is added and dropped at random, held against the model; now more is added, now dropped.
func TestP14_1Random(t *testing.T) {
	for seed := range int64(20) {
		r := rand.New(rand.NewSource(seed))
		x, m := trie.New(), model(nil)
		for step := range 1500 {
			p, e, want := somePrefix(r, m), api.OK, api.OK
			if adds := 1 + 3*(1-step/500%2); r.Intn(5) < adds {
				one := api.Route{To: p, Out: r.Intn(8)}
				m, want = m.add(one)
				e = x.Add(one)
			} else {
				m, want = m.drop(p)
				e = x.Drop(p)
			}
			if e != want {
				t.Fatalf("seed %d, step %d, %v: %d; want %d", seed, step, p, e, want)
			}
			if step%25 == 0 {
				m.check(t, x, r)
			}
		}
		m.check(t, x, r)
		for _, one := range slices.Clone(m) {
			if e := x.Drop(one.To); e != api.OK {
				t.Fatalf("Drop(%v): %d", one.To, e)
			}
		}
		model(nil).check(t, x, r)
	}
}

// held is how many bytes are in use.
func held() int {
	var m runtime.MemStats
	runtime.GC()
	runtime.ReadMemStats(&m)
	return int(m.HeapAlloc)
}

// TestP14_1Again: places that were let go are taken again, so that a trie doesn't grow by what comes and goes.
func TestP14_1Again(t *testing.T) {
	x := made(t, hosts(256)...)
	all, nodes, before := x.All(), x.Nodes(), held()
	for range 100 {
		for _, r := range all {
			x.Drop(r.To)
			x.Add(r)
		}
	}
	if more := held() - before; more > 1<<20 {
		t.Errorf("a trie has grown by %d bytes", more)
	}
	if !slices.Equal(x.All(), all) || x.Nodes() != nodes {
		t.Errorf("behind many turns: %v, %d nodes", x.All(), x.Nodes())
	}
}

func TestP14_1Nil(t *testing.T) {
	var x *trie.Trie
	if r, ok := x.Find(0); r != (api.Route{}) || ok {
		t.Errorf("Find: %v, %v", r, ok)
	}
	for _, p := range append(slices.Clone(wrong), api.Prefix{}, prefix(t, "10.0.0.0/8")) {
		if r, ok := x.Get(p); r != (api.Route{}) || ok {
			t.Errorf("Get(%v): %v, %v", p, r, ok)
		}
	}
	if x.Len() != 0 || len(x.All()) != 0 || x.Nodes() != 0 {
		t.Errorf("%d, %v, %d", x.Len(), x.All(), x.Nodes())
	}
}

// use calls everything there is.
func use(x *trie.Trie, r *rand.Rand) {
	for range 50 {
		p := addr.Cut(someAddress(r), r.Intn(33))
		x.Add(api.Route{To: p, Out: 1})
		x.Get(p)
		x.Find(p.Addr)
		x.Drop(addr.Cut(someAddress(r), r.Intn(33)))
		x.All()
		x.Len()
		x.Nodes()
	}
}

// TestP14_1NotMade: nothing is promised of what New didn't make, but that no call panics, and each ends.
func TestP14_1NotMade(t *testing.T) {
	r := rand.New(rand.NewSource(3))
	use(&trie.Trie{}, r)
	use(new(trie.Trie), r)
	x := made(t, hosts(10)...)
	for range 50 {
		y := *x
		use(x, r)
		use(&y, r)
		if r.Intn(2) == 0 {
			*x = y
		}
	}
}
