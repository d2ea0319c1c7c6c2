package config_test

import (
	"math"
	"math/rand"
	"reflect"
	"testing"

	"guerite/addr"
	"guerite/api"
	"guerite/cats"
	"guerite/config"
)

// level is a label without categories.
func level(n int) api.Label {
	return api.Label{Level: n}
}

// lab is a label.
func lab(n int, categories ...int) api.Label {
	c, ok := cats.Of(categories...)
	if !ok {
		panic("a category that isn't one")
	}
	return api.Label{Level: n, Cats: c}
}

// least is the chapter's own example: one interface, of mode 0, one label.
func least() api.Config {
	return api.Config{
		Interfaces: []api.Interface{{Addr: 0x0a000001, Mtu: 68}},
		Labels:     []api.Label{{}},
		Quotas:     api.Quotas{Queue: 1, Flows: 1, Bytes: 1, Datagrams: 1, Audit: 1, Tokens: 1, Whole: 1, Idle: 1, Open: 1},
	}
}

// full is a right config that has something of everything, and an interface of each mode.
func full() api.Config {
	return api.Config{
		Interfaces: []api.Interface{
			{Addr: 0x0a000001, Mtu: 1500, Mode: 0, Doi: 9, Lo: level(1), Hi: level(1), Default: level(1)},
			{Addr: 0x0a010001, Mtu: 100, Mode: 1, Doi: 1, Lo: level(0), Hi: lab(3, 1, 2), Default: lab(2, 1)},
			{Addr: 0x0a020001, Mtu: 65535, Mode: 2, Doi: -1, Lo: level(1), Hi: lab(2, 1), Default: level(1)},
		},
		Labels: []api.Label{level(0), level(1), lab(2, 1), lab(3, 2)},
		Dois: []api.Doi{
			{Number: 5},
			{Number: 7, Levels: []api.Pair{{Here: 1, There: 2}, {Here: 2, There: 1}}, Cats: []api.Pair{{Here: 3, There: 239}}},
		},
		Relabels: []api.Relabel{
			{In: -1, Label: -1, Proto: -1, To: 3},
			{In: 7, Label: 3, Proto: 255, Src: addr.Cut(0x0a000000, 8), To: 0},
		},
		Rules: []api.Rule{
			{In: -1, Out: -1, Proto: -1, SportHi: 65535, DportHi: 65535, Allow: true},
			{In: 7, Out: 7, Proto: 6, Dst: addr.Cut(0x0a000000, 8), SportLo: 1, SportHi: 1},
		},
		Routes: []api.Route{
			{},
			{To: addr.Cut(0x0a000000, 16)},
			{To: addr.Cut(0x0a000000, 8), Out: 2},
		},
		Quotas: api.Quotas{Queue: 1000, Flows: 9, Bytes: 65535, Datagrams: 9, Audit: 9, Tokens: 9, Whole: 9, Idle: 9, Open: 9},
	}
}

// fault is what is done to the full config, and what Check answers then.
type fault struct {
	name   string
	change func(c *api.Config)
	place  int
	e      api.Errno
}

// faces is so many interfaces, each with an address of its own.
func faces(n int) []api.Interface {
	var l []api.Interface
	for i := range n {
		l = append(l, api.Interface{Addr: 0x0a000001 + uint32(i), Mtu: 68})
	}
	return l
}

// levels is so many labels.
func levels(n int) []api.Label {
	var l []api.Label
	for i := range n {
		l = append(l, level(i))
	}
	return l
}

// paths is so many routes.
func paths(n int) []api.Route {
	var l []api.Route
	for i := range n {
		l = append(l, api.Route{To: addr.Cut(uint32(i)<<8, 24)})
	}
	return l
}

// laws is so many rules, all the same.
func laws(n int) []api.Rule {
	l := make([]api.Rule, n)
	for i := range l {
		l[i] = api.Rule{In: -1, Out: -1, Proto: -1}
	}
	return l
}

// ups is so many relabelling rules, all the same.
func ups(n int) []api.Relabel {
	l := make([]api.Relabel, n)
	for i := range l {
		l[i] = api.Relabel{In: -1, Label: -1, Proto: -1}
	}
	return l
}

func held(t *testing.T, faults []fault) {
	t.Helper()
	for _, f := range faults {
		c := full()
		f.change(&c)
		place, e := config.Check(c)
		if place != f.place || e != f.e {
			t.Errorf("%s: Check is %d, %d, not %d, %d", f.name, place, e, f.place, f.e)
		}
		if config.Right(c) != (f.e == api.OK) {
			t.Errorf("%s: Right is %t", f.name, config.Right(c))
		}
	}
}

func TestP17_1Right(t *testing.T) {
	for _, c := range []api.Config{least(), full()} {
		if place, e := config.Check(c); place != 0 || e != api.OK || !config.Right(c) {
			t.Errorf("Check is %d, %d", place, e)
		}
	}
	if place, e := config.Check(api.Config{}); place != 0 || e != api.ErrArg || config.Right(api.Config{}) {
		t.Errorf("of nothing: Check is %d, %d", place, e)
	}
}

func TestP17_1Interfaces(t *testing.T) {
	held(t, []fault{
		{"no interface", func(c *api.Config) { c.Interfaces = nil }, 0, api.ErrArg},
		{"an empty list", func(c *api.Config) { c.Interfaces = []api.Interface{} }, 0, api.ErrArg},
		{"one", func(c *api.Config) { c.Interfaces, c.Routes = c.Interfaces[:1], c.Routes[:2] }, 0, api.OK},
		{"eight", func(c *api.Config) { c.Interfaces = faces(8) }, 0, api.OK},
		{"nine", func(c *api.Config) { c.Interfaces = faces(9) }, 0, api.ErrArg},
	})
}

func TestP17_1Labels(t *testing.T) {
	held(t, []fault{
		{"no label", func(c *api.Config) { c.Labels = nil }, 0, api.ErrNone},
		{"an empty list", func(c *api.Config) { c.Labels = []api.Label{} }, 0, api.ErrNone},
		{"sixteen", func(c *api.Config) { c.Labels = append(c.Labels, levels(14)[2:]...) }, 0, api.OK},
		{"seventeen", func(c *api.Config) { c.Labels = levels(17) }, 16, api.ErrLong},
		{"a level below", func(c *api.Config) { c.Labels[3].Level = -1 }, 3, api.ErrArg},
		{"a level above", func(c *api.Config) { c.Labels[1].Level = 256 }, 1, api.ErrArg},
		{"the greatest level", func(c *api.Config) { c.Labels[3].Level = 255 }, 0, api.OK},
		{"twice", func(c *api.Config) { c.Labels[3] = lab(2, 1) }, 3, api.ErrTwice},
	})
}

// pairs is so many pairs, each of a number as it is.
func pairs(n int) []api.Pair {
	var l []api.Pair
	for i := range n {
		l = append(l, api.Pair{Here: i, There: i})
	}
	return l
}

func TestP17_1Domains(t *testing.T) {
	held(t, []fault{
		{"the first", func(c *api.Config) { c.Dois[0].Levels = []api.Pair{{Here: 256}} }, 0, api.ErrForm},
		{"a level below", func(c *api.Config) { c.Dois[1].Levels[1].There = -1 }, 1, api.ErrForm},
		{"a category above", func(c *api.Config) { c.Dois[1].Cats[0].There = 240 }, 1, api.ErrForm},
		{"a level twice", func(c *api.Config) { c.Dois[1].Levels[1].There = 2 }, 1, api.ErrForm},
		{"all levels and categories", func(c *api.Config) { c.Dois[0].Levels, c.Dois[0].Cats = pairs(256), pairs(240) }, 0, api.OK},
		{"too many levels", func(c *api.Config) { c.Dois[0].Levels = pairs(257) }, 0, api.ErrForm},
		{"a number twice", func(c *api.Config) { c.Dois[0].Number = 7 }, 0, api.OK},
		{"many", func(c *api.Config) { c.Dois = append(c.Dois, make([]api.Doi, 300)...) }, 0, api.OK},
		{"the last of many", func(c *api.Config) {
			c.Dois = append(c.Dois, make([]api.Doi, 300)...)
			c.Dois[301].Cats = []api.Pair{{Here: -1}}
		}, 301, api.ErrForm},
	})
}

func TestP17_1Addresses(t *testing.T) {
	var faults []fault
	for _, a := range []uint32{0, 0x00ffffff, 0x7f000001, 0x7fffffff, 0xe0000000, 0xefffffff, 0xf0000000, math.MaxUint32} {
		faults = append(faults, fault{addr.Text(a), func(c *api.Config) { c.Interfaces[1].Addr = a }, 1, api.ErrArg})
	}
	for _, a := range []uint32{0x01000000, 0x7effffff, 0x80000000, 0xdfffffff, 0x0a0000ff} {
		faults = append(faults, fault{addr.Text(a), func(c *api.Config) { c.Interfaces[1].Addr = a }, 0, api.OK})
	}
	held(t, append(faults,
		fault{"that of the first", func(c *api.Config) { c.Interfaces[2].Addr = 0x0a000001 }, 2, api.ErrTwice},
		fault{"that of the one ahead", func(c *api.Config) { c.Interfaces[2].Addr = 0x0a010001 }, 2, api.ErrTwice},
		fault{"that of the one behind", func(c *api.Config) { c.Interfaces[0].Addr = 0x0a010001 }, 1, api.ErrTwice},
		fault{"nought twice", func(c *api.Config) { c.Interfaces[1].Addr, c.Interfaces[2].Addr = 0, 0 }, 1, api.ErrArg},
	))
}

func TestP17_1Sizes(t *testing.T) {
	var faults []fault
	for _, n := range []int{67, 0, -1, 65536, 1 << 32, 1<<32 + 100, math.MinInt, math.MaxInt} {
		faults = append(faults, fault{"an Mtu that isn't right", func(c *api.Config) { c.Interfaces[2].Mtu = n }, 2, api.ErrArg})
	}
	for _, n := range []int{68, 69, 65534, 65535} {
		faults = append(faults, fault{"an Mtu that is right", func(c *api.Config) { c.Interfaces[2].Mtu = n }, 0, api.OK})
	}
	for _, n := range []int{-1, 3, 256, 1 << 32, math.MinInt, math.MaxInt} {
		faults = append(faults, fault{"a Mode that isn't right", func(c *api.Config) { c.Interfaces[0].Mode = n }, 0, api.ErrArg})
	}
	for _, n := range []int{-1, 2, 1 << 32, math.MinInt, math.MaxInt} {
		faults = append(faults,
			fault{"a Doi that is none", func(c *api.Config) { c.Interfaces[1].Doi = n }, 1, api.ErrArg},
			fault{"a Doi that nobody asks for", func(c *api.Config) { c.Interfaces[0].Doi, c.Interfaces[2].Doi = n, n }, 0, api.OK})
	}
	held(t, append(faults,
		fault{"the first Doi", func(c *api.Config) { c.Interfaces[1].Doi = 0 }, 0, api.OK},
		fault{"no domains", func(c *api.Config) { c.Dois, c.Interfaces[1].Doi = nil, 0 }, 1, api.ErrArg},
		fault{"no domains, no CIPSO", func(c *api.Config) { c.Dois, c.Interfaces[1].Mode = nil, 2 }, 0, api.OK},
	))
}

func TestP17_1Ranges(t *testing.T) {
	set := func(place int, lo, hi, usual api.Label) func(c *api.Config) {
		return func(c *api.Config) {
			f := &c.Interfaces[place]
			f.Lo, f.Hi, f.Default = lo, hi, usual
		}
	}
	held(t, []fault{
		{"Lo that isn't right", set(1, level(-1), level(3), level(1)), 1, api.ErrLabel},
		{"Hi that isn't right", set(2, level(0), level(256), level(1)), 2, api.ErrLabel},
		{"Default that isn't right", set(2, level(0), level(3), level(-1)), 2, api.ErrLabel},
		{"all of a level above", set(0, level(256), level(256), level(256)), 0, api.ErrLabel},
		{"the greatest Hi", set(1, level(0), lab(255, 0, 2, 239), lab(3, 2)), 0, api.OK},
		{"Hi below Lo", set(1, level(2), level(1), level(1)), 1, api.ErrLabel},
		{"Hi beside Lo", set(1, lab(1, 1), lab(2, 2), lab(2, 1)), 1, api.ErrLabel},
		{"Default isn't declared", set(1, level(0), level(3), level(2)), 1, api.ErrLabel},
		{"Default isn't declared, with a category", set(1, level(0), lab(3, 1), lab(1, 1)), 1, api.ErrLabel},
		{"Default below Lo", set(2, level(1), level(3), level(0)), 2, api.ErrLabel},
		{"Default above Hi", set(2, level(0), level(0), level(1)), 2, api.ErrLabel},
		{"Default beside Hi", set(2, level(0), lab(3, 3), lab(3, 2)), 2, api.ErrLabel},
		{"Default without what Lo has", set(1, lab(0, 2), lab(3, 1, 2), lab(2, 1)), 1, api.ErrLabel},
		{"Default is Lo", set(1, level(1), level(2), level(1)), 0, api.OK},
		{"Default is Hi", set(1, level(0), level(1), level(1)), 0, api.OK},
		{"Lo and Hi that aren't declared", set(2, lab(0), lab(250, 2, 7), lab(3, 2)), 0, api.OK},
		{"one label, of mode 2", set(2, lab(3, 2), lab(3, 2), lab(3, 2)), 0, api.OK},
		{"one label, of mode 0", set(0, lab(3, 2), lab(3, 2), lab(3, 2)), 0, api.OK},
		{"two labels, of mode 0", set(0, level(0), level(1), level(0)), 0, api.ErrLabel},
		{"two labels, of mode 0, Default Hi", set(0, level(0), level(1), level(1)), 0, api.ErrLabel},
		{"three labels, of mode 0", set(0, level(0), lab(3, 2), level(1)), 0, api.ErrLabel},
		{"one that isn't declared, of mode 0", set(0, level(2), level(2), level(2)), 0, api.ErrLabel},
	})
}

func TestP17_1Lengths(t *testing.T) {
	held(t, []fault{
		{"64 rules", func(c *api.Config) { c.Rules = laws(64) }, 0, api.OK},
		{"65 rules", func(c *api.Config) { c.Rules = laws(65) }, 0, api.ErrLong},
		{"no rules", func(c *api.Config) { c.Rules = nil }, 0, api.OK},
		{"64 relabelling rules", func(c *api.Config) { c.Relabels = ups(64) }, 0, api.OK},
		{"65 relabelling rules", func(c *api.Config) { c.Relabels = ups(65) }, 0, api.ErrLong},
		{"no relabelling rules", func(c *api.Config) { c.Relabels = nil }, 0, api.OK},
		{"256 routes", func(c *api.Config) { c.Routes = paths(256) }, 0, api.OK},
		{"257 routes", func(c *api.Config) { c.Routes = paths(257) }, 0, api.ErrLong},
		{"no routes", func(c *api.Config) { c.Routes = nil }, 0, api.OK},
		{"a wrong one among too many rules", func(c *api.Config) { c.Rules = make([]api.Rule, 65); c.Rules[3].In = 8 }, 0, api.ErrLong},
		{"a wrong one among too many relabelling rules", func(c *api.Config) { c.Relabels = make([]api.Relabel, 65); c.Relabels[3].In = 8 }, 0, api.ErrLong},
		{"the same among too many routes", func(c *api.Config) { c.Routes = make([]api.Route, 257) }, 0, api.ErrLong},
	})
}

func TestP17_1Rules(t *testing.T) {
	held(t, []fault{
		{"In", func(c *api.Config) { c.Relabels[1].In = 8 }, 1, api.ErrForm},
		{"Label", func(c *api.Config) { c.Relabels[0].Label = 4 }, 0, api.ErrForm},
		{"To", func(c *api.Config) { c.Relabels[1].To = 4 }, 1, api.ErrForm},
		{"To of a fifth label", func(c *api.Config) { c.Labels, c.Relabels[1].To = append(c.Labels, level(9)), 4 }, 0, api.OK},
		{"To of a lost label", func(c *api.Config) { c.Labels, c.Relabels[1].Label = c.Labels[:3], 2 }, 0, api.ErrForm},
		{"To below", func(c *api.Config) { c.Relabels[1].To = -1 }, 1, api.ErrForm},
		{"Proto", func(c *api.Config) { c.Relabels[1].Proto = 256 }, 1, api.ErrForm},
		{"Src", func(c *api.Config) { c.Relabels[1].Src.Bits = 6 }, 1, api.ErrForm},
		{"In that no interface is", func(c *api.Config) { c.Relabels[0].In = 3 }, 0, api.OK},
		{"a rule's In", func(c *api.Config) { c.Rules[1].In = 8 }, 1, api.ErrForm},
		{"a rule's Out", func(c *api.Config) { c.Rules[0].Out = -2 }, 0, api.ErrForm},
		{"a rule's Proto", func(c *api.Config) { c.Rules[1].Proto = 256 }, 1, api.ErrForm},
		{"a rule's Dst", func(c *api.Config) { c.Rules[1].Dst.Bits = 6 }, 1, api.ErrForm},
		{"a rule's ports", func(c *api.Config) { c.Rules[1].SportLo = 2 }, 1, api.ErrForm},
		{"a rule's last port", func(c *api.Config) { c.Rules[0].DportHi = 65536 }, 0, api.ErrForm},
		{"a rule's Out that no interface is", func(c *api.Config) { c.Rules[0].Out = 3 }, 0, api.OK},
		{"the last rule", func(c *api.Config) { c.Rules = laws(64); c.Rules[63].In = 8 }, 63, api.ErrForm},
		{"the last relabelling rule", func(c *api.Config) { c.Relabels = ups(64); c.Relabels[63].In = 8 }, 63, api.ErrForm},
	})
}

func TestP17_1Routes(t *testing.T) {
	var faults []fault
	for _, n := range []int{-1, 3, 7, 1 << 32, math.MinInt, math.MaxInt} {
		faults = append(faults, fault{"an Out that is none", func(c *api.Config) { c.Routes[1].Out = n }, 1, api.ErrArg})
	}
	for _, p := range []api.Prefix{{Addr: 1}, {Addr: 0x0a000001, Bits: 31}, {Bits: 33}, {Bits: -1}, {Bits: math.MinInt}, {Bits: math.MaxInt}, {Bits: 1 << 32}} {
		faults = append(faults, fault{"a prefix that isn't right", func(c *api.Config) { c.Routes[2].To = p }, 2, api.ErrForm})
	}
	held(t, append(faults,
		fault{"the same as the first", func(c *api.Config) { c.Routes[2].To = api.Prefix{} }, 2, api.ErrTwice},
		fault{"the same as the one ahead", func(c *api.Config) { c.Routes[2].To = c.Routes[1].To }, 2, api.ErrTwice},
		fault{"the same, and another Out", func(c *api.Config) { c.Routes[1] = api.Route{Out: 2} }, 1, api.ErrTwice},
		fault{"the same address, other bits", func(c *api.Config) { c.Routes[2].To = addr.Cut(0x0a000000, 17) }, 0, api.OK},
		fault{"the same bits, another address", func(c *api.Config) { c.Routes[2].To = addr.Cut(0x0a010000, 16) }, 0, api.OK},
		fault{"a prefix that isn't right, twice", func(c *api.Config) {
			c.Routes[1].To, c.Routes[2].To = api.Prefix{Addr: 1}, api.Prefix{Addr: 1}
		}, 1, api.ErrForm},
		fault{"an Out of an interface that is lost", func(c *api.Config) { c.Interfaces = c.Interfaces[:2] }, 2, api.ErrArg},
		fault{"the last", func(c *api.Config) { c.Routes = paths(256); c.Routes[255].To = c.Routes[254].To }, 255, api.ErrTwice},
	))
}

// quotas is each of the quotas, and its greatest number.
func quotas(q *api.Quotas) ([]*int, []int) {
	return []*int{&q.Queue, &q.Flows, &q.Bytes, &q.Datagrams, &q.Audit, &q.Tokens, &q.Whole, &q.Idle, &q.Open},
		[]int{1000, 1000, 65535, 1000, 1000, 1000, 1000, 1000, 1000}
}

func TestP17_1Quotas(t *testing.T) {
	var faults []fault
	_, most := quotas(&api.Quotas{})
	for i := range most {
		set := func(n int) func(c *api.Config) {
			return func(c *api.Config) {
				l, _ := quotas(&c.Quotas)
				*l[i] = n
			}
		}
		for _, n := range []int{0, -1, most[i] + 1, 1<<32 + 1, math.MinInt, math.MaxInt} {
			faults = append(faults, fault{"a quota that isn't right", set(n), 0, api.ErrArg})
		}
		for _, n := range []int{1, 2, most[i] - 1, most[i]} {
			faults = append(faults, fault{"a quota that is right", set(n), 0, api.OK})
		}
	}
	held(t, faults)
}

// TestP17_1Order makes everything wrong that a config looks at, and mends it one by one, in order.
func TestP17_1Order(t *testing.T) {
	c := full()
	for range 6 {
		c.Interfaces = append(c.Interfaces, c.Interfaces[2])
	}
	c.Labels[2], c.Labels[3] = level(1), level(-1)
	c.Dois[1].Cats[0].Here = 240
	c.Interfaces[1].Addr, c.Interfaces[1].Mtu, c.Interfaces[1].Lo = 0, 67, level(-1)
	c.Interfaces[2].Addr, c.Interfaces[2].Mtu, c.Interfaces[2].Lo = 0x0a000001, 67, level(-1)
	c.Relabels = append(c.Relabels, make([]api.Relabel, 63)...)
	c.Relabels[1].To, c.Rules[0].In = 9, 9
	c.Routes = append(c.Routes, api.Route{To: api.Prefix{Addr: 1}, Out: 9})
	c.Routes[2] = c.Routes[1]
	c.Routes[2].Out = 3
	c.Quotas.Bytes = 0
	right := full()
	for n, f := range []fault{
		{"too many interfaces", func(c *api.Config) { c.Interfaces = c.Interfaces[:3] }, 0, api.ErrArg},
		{"a label twice", func(c *api.Config) { c.Labels[2] = right.Labels[2] }, 2, api.ErrTwice},
		{"a label that isn't right", func(c *api.Config) { c.Labels[3] = right.Labels[3] }, 3, api.ErrArg},
		{"a domain", func(c *api.Config) { c.Dois[1].Cats[0].Here = 3 }, 1, api.ErrForm},
		{"an address", func(c *api.Config) { c.Interfaces[1].Addr = right.Interfaces[1].Addr }, 1, api.ErrArg},
		{"an Mtu", func(c *api.Config) { c.Interfaces[1].Mtu = 68 }, 1, api.ErrArg},
		{"a range", func(c *api.Config) { c.Interfaces[1].Lo = level(0) }, 1, api.ErrLabel},
		{"an address twice", func(c *api.Config) { c.Interfaces[2].Addr = right.Interfaces[2].Addr }, 2, api.ErrTwice},
		{"an Mtu behind it", func(c *api.Config) { c.Interfaces[2].Mtu = 68 }, 2, api.ErrArg},
		{"a range behind it", func(c *api.Config) { c.Interfaces[2].Lo = level(0) }, 2, api.ErrLabel},
		{"too many relabelling rules", func(c *api.Config) { c.Relabels = c.Relabels[:2] }, 0, api.ErrLong},
		{"a relabelling rule", func(c *api.Config) { c.Relabels[1].To = 0 }, 1, api.ErrForm},
		{"a rule", func(c *api.Config) { c.Rules[0].In = 0 }, 0, api.ErrForm},
		{"an Out", func(c *api.Config) { c.Routes[2].Out = 0 }, 2, api.ErrArg},
		{"a route twice", func(c *api.Config) { c.Routes[2] = right.Routes[2] }, 2, api.ErrTwice},
		{"a prefix", func(c *api.Config) { c.Routes[3].To = addr.Cut(0x0a020000, 16) }, 3, api.ErrForm},
		{"an Out behind it", func(c *api.Config) { c.Routes[3].Out = 1 }, 3, api.ErrArg},
		{"a quota", func(c *api.Config) { c.Quotas.Bytes = 1 }, 0, api.ErrArg},
	} {
		if place, e := config.Check(c); place != f.place || e != f.e || config.Right(c) {
			t.Errorf("%d, %s: Check is %d, %d, not %d, %d", n, f.name, place, e, f.place, f.e)
		}
		f.change(&c)
	}
	if place, e := config.Check(c); place != 0 || e != api.OK || !config.Right(c) {
		t.Errorf("what is mended: Check is %d, %d", place, e)
	}
}

func TestP17_1Clone(t *testing.T) {
	for _, c := range []api.Config{full(), least(), {}, {Labels: []api.Label{level(-1)}, Dois: []api.Doi{{Levels: []api.Pair{{Here: -1, There: 900}}}}}} {
		if got := config.Clone(c); !reflect.DeepEqual(got, c) {
			t.Errorf("Clone of %v is %v", c, got)
		}
	}
}

// spoil changes everything that a config's lists have, and their spare room.
func spoil(c api.Config) {
	for i, d := range c.Dois[:cap(c.Dois)] {
		for k := range d.Levels[:cap(d.Levels)] {
			d.Levels[:cap(d.Levels)][k] = api.Pair{Here: 77, There: 77}
		}
		for k := range d.Cats[:cap(d.Cats)] {
			d.Cats[:cap(d.Cats)][k] = api.Pair{Here: 77, There: 77}
		}
		c.Dois[:cap(c.Dois)][i] = api.Doi{Number: 77}
	}
	for i := range c.Interfaces[:cap(c.Interfaces)] {
		c.Interfaces[:cap(c.Interfaces)][i] = api.Interface{Addr: 77}
	}
	for i := range c.Labels[:cap(c.Labels)] {
		c.Labels[:cap(c.Labels)][i] = level(77)
	}
	for i := range c.Relabels[:cap(c.Relabels)] {
		c.Relabels[:cap(c.Relabels)][i] = api.Relabel{To: 77}
	}
	for i := range c.Rules[:cap(c.Rules)] {
		c.Rules[:cap(c.Rules)][i] = api.Rule{In: 77}
	}
	for i := range c.Routes[:cap(c.Routes)] {
		c.Routes[:cap(c.Routes)][i] = api.Route{Out: 77}
	}
}

func TestP17_1CloneIsApart(t *testing.T) {
	c := full()
	clone := config.Clone(c)
	spoil(c)
	if !reflect.DeepEqual(clone, full()) {
		t.Errorf("what is done to a config is done to its clone: %v", clone)
	}
	c = full()
	spoil(config.Clone(c))
	if !reflect.DeepEqual(c, full()) {
		t.Errorf("what is done to a clone is done to its config: %v", c)
	}
}

// TestP17_1CloneSharesNone clones a config whose lists share what they have.
func TestP17_1CloneSharesNone(t *testing.T) {
	same := []api.Pair{{Here: 1, There: 2}, {Here: 2, There: 1}}
	c := api.Config{Dois: []api.Doi{{Levels: same, Cats: same[:1]}, {Levels: same[1:], Cats: same}}}
	clone := config.Clone(c)
	clone.Dois[0].Levels[0].Here = 9
	clone.Dois[1].Cats[1].Here = 8
	_ = append(clone.Dois[0].Cats, api.Pair{Here: 7})
	if clone.Dois[0].Cats[0].Here != 1 || clone.Dois[1].Levels[0].Here != 2 || clone.Dois[1].Cats[0].Here != 1 || clone.Dois[0].Levels[1].Here != 2 {
		t.Errorf("the lists of a clone share memory: %v", clone)
	}
	if !reflect.DeepEqual(same, []api.Pair{{Here: 1, There: 2}, {Here: 2, There: 1}}) {
		t.Errorf("a clone shares memory with its config: %v", same)
	}
}

func TestP17_2Labels(t *testing.T) {
	for _, one := range []struct {
		i    int
		want []int
	}{
		{0, []int{1}},
		{1, []int{0, 1, 2, 3}},
		{2, []int{1, 2}},
		{3, nil}, {-1, nil}, {8, nil}, {math.MinInt, nil}, {math.MaxInt, nil}, {1 << 32, nil},
	} {
		got := config.Labels(full(), one.i)
		if len(got) != len(one.want) || len(got) > 0 && !reflect.DeepEqual(got, one.want) {
			t.Errorf("Labels of %d: %v, not %v", one.i, got, one.want)
		}
	}
	if got := config.Labels(least(), 0); !reflect.DeepEqual(got, []int{0}) {
		t.Errorf("Labels of the least config: %v", got)
	}
	c := full()
	c.Labels = []api.Label{lab(3, 2), lab(2, 1), level(1), level(0), lab(3, 1, 2), lab(3, 3)}
	if got := config.Labels(c, 1); !reflect.DeepEqual(got, []int{0, 1, 2, 3, 4}) {
		t.Errorf("Labels by other numbers: %v", got)
	}
	for _, wrong := range []func(c *api.Config){
		func(c *api.Config) { c.Quotas.Open = 0 },
		func(c *api.Config) { c.Interfaces[2].Mtu = 67 },
		func(c *api.Config) { c.Labels = append(c.Labels, level(256)) },
		func(c *api.Config) { c.Routes[2].Out = 3 },
		func(c *api.Config) { c.Rules[1].In = 8 },
	} {
		c := full()
		wrong(&c)
		for i := range c.Interfaces {
			if got := config.Labels(c, i); len(got) != 0 {
				t.Errorf("Labels of a config that isn't right: %v", got)
			}
		}
	}
}

func TestP17_2Owns(t *testing.T) {
	twice := api.Config{Interfaces: []api.Interface{{Addr: 5}, {Addr: 7}, {Addr: 5}, {Addr: 0}}}
	for _, one := range []struct {
		c    api.Config
		a    uint32
		want int
	}{
		{full(), 0x0a000001, 0}, {full(), 0x0a010001, 1}, {full(), 0x0a020001, 2},
		{full(), 0x0a000002, -1}, {full(), 0, -1}, {full(), math.MaxUint32, -1},
		{api.Config{}, 0, -1}, {api.Config{}, 0x0a000001, -1},
		{twice, 5, 0}, {twice, 7, 1}, {twice, 0, 3}, {twice, 6, -1},
	} {
		if got := config.Owns(one.c, one.a); got != one.want {
			t.Errorf("Owns of %s: %d, not %d", addr.Text(one.a), got, one.want)
		}
	}
	many := api.Config{Interfaces: faces(20)}
	if got := config.Owns(many, 0x0a000001+19); got != 19 {
		t.Errorf("Owns, behind as many as may be: %d", got)
	}
}

func TestP17_1LeavesItsArguments(t *testing.T) {
	c := full()
	c.Labels = append(make([]api.Label, 0, 9), c.Labels...)
	c.Routes = append(make([]api.Route, 0, 9), c.Routes...)
	before := config.Clone(c)
	config.Check(c)
	config.Right(c)
	config.Owns(c, 5)
	got := config.Labels(c, 1)
	got[0] = 9
	if !reflect.DeepEqual(c, before) || c.Labels[:9][8] != level(0) || c.Routes[:9][8] != (api.Route{}) {
		t.Error("a call has changed what it was given")
	}
	if again := config.Labels(c, 1); again[0] != 0 {
		t.Errorf("an answer is kept: %v", again)
	}
}

// dominates is the document's words, on their own.
func dominates(a, b api.Label) bool {
	for k := range 240 {
		if cats.Has(b.Cats, k) && !cats.Has(a.Cats, k) {
			return false
		}
	}
	return a.Level >= b.Level
}

func okLevel(l api.Label) bool { return l.Level >= 0 && l.Level <= 255 }

func okPrefix(p api.Prefix) bool {
	return p.Bits >= 0 && p.Bits <= 32 && uint64(p.Addr)%(1<<(32-p.Bits)) == 0
}

// modelInterface is what is wrong with an interface, by the document's words.
func modelInterface(c api.Config, place int) api.Errno {
	f := c.Interfaces[place]
	first := f.Addr >> 24
	if first == 0 || first == 127 || first >= 224 {
		return api.ErrArg
	}
	for _, g := range c.Interfaces[:place] {
		if g.Addr == f.Addr {
			return api.ErrTwice
		}
	}
	if f.Mtu < 68 || f.Mtu > 65535 || f.Mode < 0 || f.Mode > 2 || f.Mode == 1 && (f.Doi < 0 || f.Doi >= len(c.Dois)) {
		return api.ErrArg
	}
	declared := 0
	for _, l := range c.Labels {
		if l == f.Default {
			declared++
		}
	}
	if !okLevel(f.Lo) || !okLevel(f.Hi) || !okLevel(f.Default) || !dominates(f.Hi, f.Lo) || declared == 0 || !dominates(f.Hi, f.Default) || !dominates(f.Default, f.Lo) {
		return api.ErrLabel
	}
	if f.Mode == 0 && (f.Lo != f.Hi || f.Lo != f.Default) {
		return api.ErrLabel
	}
	return api.OK
}

func okPairs(l []api.Pair, most int) bool {
	for i, p := range l {
		if p.Here < 0 || p.There < 0 || p.Here > most || p.There > most {
			return false
		}
		for _, q := range l[:i] {
			if p.Here == q.Here || p.There == q.There {
				return false
			}
		}
	}
	return len(l) <= 256
}

func okRelabel(r api.Relabel, labels int) bool {
	return r.In >= -1 && r.In <= 7 && r.Label >= -1 && r.Label < labels && r.Proto >= -1 && r.Proto <= 255 && okPrefix(r.Src) && okPrefix(r.Dst) && r.To >= 0 && r.To < labels
}

func okRule(r api.Rule) bool {
	return r.In >= -1 && r.In <= 7 && r.Out >= -1 && r.Out <= 7 && r.Proto >= -1 && r.Proto <= 255 && okPrefix(r.Src) && okPrefix(r.Dst) &&
		0 <= r.SportLo && r.SportLo <= r.SportHi && r.SportHi <= 65535 && 0 <= r.DportLo && r.DportLo <= r.DportHi && r.DportHi <= 65535
}

// modelHead is what is wrong with interfaces, labels and domains, by the document's words.
func modelHead(c api.Config) (int, api.Errno) {
	if len(c.Interfaces) == 0 || len(c.Interfaces) > 8 {
		return 0, api.ErrArg
	}
	for i, l := range c.Labels {
		if !okLevel(l) {
			return i, api.ErrArg
		}
		if i >= 16 {
			return i, api.ErrLong
		}
		for _, m := range c.Labels[:i] {
			if l == m {
				return i, api.ErrTwice
			}
		}
	}
	if len(c.Labels) == 0 {
		return 0, api.ErrNone
	}
	for i, d := range c.Dois {
		if !okPairs(d.Levels, 255) || !okPairs(d.Cats, 239) {
			return i, api.ErrForm
		}
	}
	for i := range c.Interfaces {
		if e := modelInterface(c, i); e != api.OK {
			return i, e
		}
	}
	return 0, api.OK
}

// model is what is wrong with a config, by the document's words.
func model(c api.Config) (int, api.Errno) {
	if place, e := modelHead(c); e != api.OK {
		return place, e
	}
	if len(c.Rules) > 64 || len(c.Relabels) > 64 || len(c.Routes) > 256 {
		return 0, api.ErrLong
	}
	for i, r := range c.Relabels {
		if !okRelabel(r, len(c.Labels)) {
			return i, api.ErrForm
		}
	}
	for i, r := range c.Rules {
		if !okRule(r) {
			return i, api.ErrForm
		}
	}
	for i, r := range c.Routes {
		if !okPrefix(r.To) {
			return i, api.ErrForm
		}
		if r.Out < 0 || r.Out >= len(c.Interfaces) {
			return i, api.ErrArg
		}
		for _, s := range c.Routes[:i] {
			if s.To == r.To {
				return i, api.ErrTwice
			}
		}
	}
	l, most := quotas(&c.Quotas)
	for i, n := range l {
		if *n < 1 || *n > most[i] {
			return 0, api.ErrArg
		}
	}
	return 0, api.OK
}

// odd is a number about the edges of what may be.
func odd(r *rand.Rand) int {
	edges := []int{-2, -1, 0, 1, 2, 3, 4, 5, 7, 8, 9, 67, 68, 255, 256, 1000, 1001, 65535, 65536, math.MinInt, math.MaxInt}
	return edges[r.Intn(len(edges))]
}

func oddLabel(r *rand.Rand) api.Label {
	l := []api.Label{level(0), level(1), level(2), level(3), lab(1, 1), lab(2, 1), lab(2, 2), lab(3, 1, 2), lab(3, 2), level(-1), level(256), lab(255, 1, 2)}
	return l[r.Intn(len(l))]
}

func oddPrefix(r *rand.Rand) api.Prefix {
	return api.Prefix{Addr: uint32(r.Intn(3)) << (23 + r.Intn(3)), Bits: r.Intn(12)}
}

// disturb changes one thing of a config, that it has or hasn't.
func disturb(r *rand.Rand, c *api.Config) {
	f := &c.Interfaces[r.Intn(len(c.Interfaces))]
	law, up, way := &c.Rules[r.Intn(len(c.Rules))], &c.Relabels[r.Intn(len(c.Relabels))], &c.Routes[r.Intn(len(c.Routes))]
	d := &c.Dois[r.Intn(len(c.Dois))]
	list, _ := quotas(&c.Quotas)
	numbers := append(list, &f.Mtu, &f.Mode, &f.Doi, &law.In, &law.Out, &law.Proto, &law.SportLo, &law.SportHi, &law.DportLo, &law.DportHi,
		&up.In, &up.Label, &up.Proto, &up.To, &way.Out)
	labels := []*api.Label{&f.Lo, &f.Hi, &f.Default, &c.Labels[r.Intn(len(c.Labels))]}
	prefixes := []*api.Prefix{&law.Src, &law.Dst, &up.Src, &up.Dst, &way.To, &way.To}
	switch r.Intn(8) {
	case 0, 1:
		*numbers[r.Intn(len(numbers))] = odd(r)
	case 2, 3:
		*labels[r.Intn(len(labels))] = oddLabel(r)
	case 4:
		*prefixes[r.Intn(len(prefixes))] = oddPrefix(r)
	case 5:
		f.Addr = []uint32{0, 0x0a000001, 0x0a010001, 0x0a020001, 0x7f000001, 0xe0000000, 0xdfffffff}[r.Intn(7)]
	case 6:
		d.Levels = append(d.Levels, api.Pair{Here: odd(r), There: odd(r)})
	case 7:
		d.Cats = append(d.Cats, api.Pair{Here: odd(r), There: odd(r)})
	}
}

// TestP17_1Any holds configs with some disturbances against the model.
func TestP17_1Any(t *testing.T) {
	r := rand.New(rand.NewSource(17))
	met := map[api.Errno]int{}
	for range 60000 {
		c := full()
		for range r.Intn(7) {
			disturb(r, &c)
		}
		place, e := config.Check(c)
		met[e]++
		if p, f := model(c); p != place || f != e {
			t.Fatalf("Check of %+v is %d, %d, not %d, %d", c, place, e, p, f)
		}
		if config.Right(c) != (e == api.OK) {
			t.Fatalf("Right of %+v is %t", c, e != api.OK)
		}
		anyLabels(t, c, e == api.OK)
	}
	for _, e := range []api.Errno{api.OK, api.ErrArg, api.ErrTwice, api.ErrForm, api.ErrLabel} {
		if met[e] < 100 {
			t.Errorf("only %d configs have met %d", met[e], e)
		}
	}
}

// anyLabels holds the labels of each interface against the document's words.
func anyLabels(t *testing.T, c api.Config, right bool) {
	t.Helper()
	for i, f := range c.Interfaces {
		var want []int
		for n, l := range c.Labels {
			if right && dominates(l, f.Lo) && dominates(f.Hi, l) {
				want = append(want, n)
			}
		}
		got := config.Labels(c, i)
		if len(got) != len(want) || len(got) > 0 && !reflect.DeepEqual(got, want) {
			t.Fatalf("Labels(%+v, %d) is %v, not %v", c, i, got, want)
		}
	}
}
