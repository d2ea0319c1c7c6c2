package rule_test

import (
	"math"
	"math/rand"
	"reflect"
	"slices"
	"testing"

	"guerite/addr"
	"guerite/api"
	"guerite/rule"
)

// wide allows all.
func wide() api.Rule {
	return api.Rule{In: -1, Out: -1, Proto: -1, SportHi: 65535, DportHi: 65535, Allow: true}
}

// but is a rule that is like r, but for what change does to it.
func but(r api.Rule, change func(r *api.Rule)) api.Rule {
	change(&r)
	return r
}

// narrow asks for one thing alone in every field.
func narrow() api.Rule {
	return api.Rule{
		In: 2, Out: 3, Proto: 6, Src: addr.Cut(0x0a010203, 32), Dst: addr.Cut(0x0a0b0c0d, 32),
		SportLo: 1024, SportHi: 1024, DportLo: 80, DportHi: 80, Allow: true,
	}
}

// asked is what narrow asks for.
func asked() rule.Ask {
	return rule.Ask{In: 2, Out: 3, Key: api.Key{Src: 0x0a010203, Dst: 0x0a0b0c0d, Proto: 6, Sport: 1024, Dport: 80}}
}

func butAsk(a rule.Ask, change func(a *rule.Ask)) rule.Ask {
	change(&a)
	return a
}

// rightOnes is rules at the edges of what is right.
func rightOnes() []api.Rule {
	var l []api.Rule
	for _, change := range []func(r *api.Rule){
		func(r *api.Rule) {},
		func(r *api.Rule) { r.In = 0 },
		func(r *api.Rule) { r.In = 7 },
		func(r *api.Rule) { r.Out = 0 },
		func(r *api.Rule) { r.Out = 7 },
		func(r *api.Rule) { r.Proto = 0 },
		func(r *api.Rule) { r.Proto = 255 },
		func(r *api.Rule) { r.Src = api.Prefix{Addr: 0x0a000000, Bits: 8} },
		func(r *api.Rule) { r.Src = api.Prefix{Addr: math.MaxUint32, Bits: 32} },
		func(r *api.Rule) { r.Dst = api.Prefix{Addr: 0x80000000, Bits: 1} },
		func(r *api.Rule) { r.Dst = api.Prefix{Addr: 0, Bits: 32} },
		func(r *api.Rule) { r.SportLo = 65535 },
		func(r *api.Rule) { r.SportHi = 0 },
		func(r *api.Rule) { r.SportLo, r.SportHi = 80, 80 },
		func(r *api.Rule) { r.DportLo = 65535 },
		func(r *api.Rule) { r.DportHi = 0 },
		func(r *api.Rule) { r.DportLo, r.DportHi = 80, 81 },
		func(r *api.Rule) { r.Allow = false },
		func(r *api.Rule) { r.Proto, r.DportLo, r.DportHi = 47, 80, 80 }, // ports that count for nothing
	} {
		l = append(l, but(wide(), change))
	}
	return append(l, narrow())
}

// wrongOnes is rules that aren't right, each by one field.
func wrongOnes() []api.Rule {
	var l []api.Rule
	for _, n := range []int{-2, 8, 1 << 32, 1<<32 - 1, math.MinInt, math.MaxInt} {
		l = append(l, but(wide(), func(r *api.Rule) { r.In = n }), but(wide(), func(r *api.Rule) { r.Out = n }))
	}
	for _, n := range []int{-2, 256, 1 << 32, math.MinInt, math.MaxInt} {
		l = append(l, but(wide(), func(r *api.Rule) { r.Proto = n }))
	}
	for _, p := range []api.Prefix{
		{Addr: 1}, {Addr: 0x0a000001, Bits: 8}, {Addr: 0x80000000}, {Addr: math.MaxUint32, Bits: 31},
		{Bits: -1}, {Bits: 33}, {Bits: math.MinInt}, {Bits: math.MaxInt}, {Bits: 1 << 32},
	} {
		l = append(l, but(wide(), func(r *api.Rule) { r.Src = p }), but(wide(), func(r *api.Rule) { r.Dst = p }))
	}
	for _, c := range [][2]int{
		{-1, 65535}, {0, 65536}, {0, -1}, {-1, -1}, {65536, 65536}, {65536, 65535}, {81, 80}, {1, 0}, {65535, 0},
		{math.MinInt, math.MaxInt}, {math.MaxInt, math.MinInt}, {0, math.MaxInt}, {math.MinInt, 0}, {1 << 32, 1 << 32},
	} {
		l = append(l,
			but(wide(), func(r *api.Rule) { r.SportLo, r.SportHi = c[0], c[1] }),
			but(wide(), func(r *api.Rule) { r.DportLo, r.DportHi = c[0], c[1] }))
	}
	return l
}

func TestP15_1Right(t *testing.T) {
	good := rightOnes()
	for _, r := range good {
		if !rule.Right(r) {
			t.Errorf("Right(%+v): false", r)
		}
	}
	if !rule.Right() || !rule.Right(nil...) || !rule.Right(good...) || !rule.Right(wide(), wide()) {
		t.Error("Right of none, or of many right ones: false")
	}
	if !rule.Right(slices.Repeat(good, 50)...) {
		t.Error("Right of more rules than a config may have: false")
	}
}

func TestP15_1RightWrong(t *testing.T) {
	for _, r := range wrongOnes() {
		for _, l := range [][]api.Rule{{r}, {r, wide()}, {wide(), r}, {wide(), r, wide()}, {r, r}} {
			if rule.Right(l...) {
				t.Errorf("Right(%+v): true", l)
			}
		}
	}
	if !rule.Right(api.Rule{}) {
		t.Error("Right of the zero rule: false")
	}
}

func TestP15_1Matches(t *testing.T) {
	if !rule.Matches(narrow(), asked()) {
		t.Error("a rule that asks for just that doesn't match")
	}
	for i, a := range []rule.Ask{
		butAsk(asked(), func(a *rule.Ask) { a.In = 3 }),
		butAsk(asked(), func(a *rule.Ask) { a.In = -1 }),
		butAsk(asked(), func(a *rule.Ask) { a.In = 2 + 1<<32 }),
		butAsk(asked(), func(a *rule.Ask) { a.Out = 2 }),
		butAsk(asked(), func(a *rule.Ask) { a.Out = -1 }),
		butAsk(asked(), func(a *rule.Ask) { a.Key.Proto = 17 }),
		butAsk(asked(), func(a *rule.Ask) { a.Key.Proto = -1 }),
		butAsk(asked(), func(a *rule.Ask) { a.Key.Proto = 6 + 256 }),
		butAsk(asked(), func(a *rule.Ask) { a.Key.Src++ }),
		butAsk(asked(), func(a *rule.Ask) { a.Key.Src, a.Key.Dst = a.Key.Dst, a.Key.Src }),
		butAsk(asked(), func(a *rule.Ask) { a.Key.Dst-- }),
		butAsk(asked(), func(a *rule.Ask) { a.Key.Sport = 1023 }),
		butAsk(asked(), func(a *rule.Ask) { a.Key.Sport = 1025 }),
		butAsk(asked(), func(a *rule.Ask) { a.Key.Sport, a.Key.Dport = 80, 1024 }),
		butAsk(asked(), func(a *rule.Ask) { a.Key.Dport = 79 }),
		butAsk(asked(), func(a *rule.Ask) { a.Key.Dport = 81 }),
		{},
	} {
		if rule.Matches(narrow(), a) {
			t.Errorf("%d: a narrow rule matches %+v", i, a)
		}
		if !rule.Matches(wide(), a) {
			t.Errorf("%d: a wide rule doesn't match %+v", i, a)
		}
	}
	deny := but(narrow(), func(r *api.Rule) { r.Allow = false })
	if !rule.Matches(deny, asked()) {
		t.Error("a rule that denies doesn't match")
	}
}

func TestP15_1MatchesPrefixes(t *testing.T) {
	r := but(wide(), func(r *api.Rule) { r.Src, r.Dst = addr.Cut(0x0a000000, 8), addr.Cut(0xc0a80100, 24) })
	for _, c := range []struct {
		src, dst uint32
		want     bool
	}{
		{0x0a000000, 0xc0a80100, true},
		{0x0affffff, 0xc0a801ff, true},
		{0x09ffffff, 0xc0a80100, false},
		{0x0b000000, 0xc0a80100, false},
		{0x0a000000, 0xc0a800ff, false},
		{0x0a000000, 0xc0a80200, false},
		{0xc0a80100, 0x0a000000, false},
	} {
		if got := rule.Matches(r, rule.Ask{Key: api.Key{Src: c.src, Dst: c.dst}}); got != c.want {
			t.Errorf("Matches(%s to %s): %v", addr.Text(c.src), addr.Text(c.dst), got)
		}
	}
}

func TestP15_1MatchesPorts(t *testing.T) {
	r := but(wide(), func(r *api.Rule) { r.SportLo, r.SportHi, r.DportLo, r.DportHi = 10, 20, 30, 40 })
	for _, c := range []struct {
		sport, dport int
		want         bool
	}{
		{10, 30, true}, {20, 40, true}, {15, 35, true}, {10, 40, true}, {20, 30, true},
		{9, 35, false}, {21, 35, false}, {15, 29, false}, {15, 41, false}, {35, 15, false}, {0, 0, false},
		{-1, 35, false}, {15, 65536, false}, {math.MinInt, 35, false}, {15, math.MaxInt, false}, {15 + 1<<32, 35, false},
	} {
		for _, proto := range []int{6, 17, 1, 0, 2, 5, 7, 16, 18, 47, 255, -1, 256, 6 + 256, 1 + 1<<32, math.MinInt, math.MaxInt} {
			counts := proto == 6 || proto == 17 || proto == 1
			a := rule.Ask{Key: api.Key{Proto: proto, Sport: c.sport, Dport: c.dport}}
			if got := rule.Matches(r, a); got != (c.want || !counts) {
				t.Errorf("Matches(%+v): %v", a, got)
			}
			one := but(r, func(r *api.Rule) { r.Proto = proto })
			if got, want := rule.Matches(one, a), rule.Right(one) && (c.want || !counts); got != want {
				t.Errorf("Matches(%+v) by one protocol: %v", a, got)
			}
		}
	}
	all := rule.Ask{Key: api.Key{Proto: 17, Sport: 65536}}
	if rule.Matches(wide(), all) || rule.Matches(wide(), rule.Ask{Key: api.Key{Proto: 6, Dport: -1}}) {
		t.Error("all ports hold what is no port")
	}
}

func TestP15_1MatchesWrong(t *testing.T) {
	for _, r := range wrongOnes() {
		for _, a := range []rule.Ask{
			{In: r.In, Out: r.Out, Key: api.Key{Src: r.Src.Addr, Dst: r.Dst.Addr, Proto: r.Proto, Sport: r.SportLo, Dport: r.DportLo}},
			{In: r.In, Out: r.Out, Key: api.Key{Src: r.Src.Addr, Dst: r.Dst.Addr, Proto: 6, Sport: r.SportHi, Dport: r.DportHi}},
			{In: r.In, Out: r.Out, Key: api.Key{Src: r.Src.Addr, Dst: r.Dst.Addr, Proto: 47}},
			{Key: api.Key{Proto: 47}},
		} {
			if rule.Matches(r, a) || rule.First([]api.Rule{r}, a) != -1 || rule.Allows([]api.Rule{r}, a) {
				t.Errorf("%+v isn't right, and matches %+v", r, a)
			}
			if rule.First([]api.Rule{r, but(wide(), func(r *api.Rule) { r.Allow = false }), wide()}, rule.Ask{Key: api.Key{Proto: 47}}) != 1 {
				t.Errorf("%+v isn't right, and stands in the way", r)
			}
		}
	}
}

func TestP15_1FirstAndAllows(t *testing.T) {
	web := api.Rule{
		In: -1, Out: -1, Proto: 6, Src: addr.Cut(0x0a000000, 8), SportHi: 65535, DportLo: 80, DportHi: 80, Allow: true, // the chapter's own example
	}
	deny := but(wide(), func(r *api.Rule) { r.Allow = false })
	from := rule.Ask{In: 1, Out: 2, Key: api.Key{Src: 0x0a010101, Dst: 0xc0a80101, Proto: 6, Sport: 5000, Dport: 80}}
	else1 := butAsk(from, func(a *rule.Ask) { a.Key.Dport = 81 })
	else2 := butAsk(from, func(a *rule.Ask) { a.Key.Src = 0x0b000000 })
	else3 := butAsk(from, func(a *rule.Ask) { a.Key.Proto = 17 })
	for _, c := range []struct {
		l      []api.Rule
		a      rule.Ask
		first  int
		allows bool
	}{
		{nil, from, -1, false},
		{[]api.Rule{}, from, -1, false},
		{[]api.Rule{web}, from, 0, true},
		{[]api.Rule{web}, else1, -1, false},
		{[]api.Rule{web}, else2, -1, false},
		{[]api.Rule{web}, else3, -1, false},
		{[]api.Rule{web, deny}, from, 0, true},
		{[]api.Rule{deny, web}, from, 0, false},
		{[]api.Rule{web, deny, wide()}, else1, 1, false},
		{[]api.Rule{web, wide(), deny}, else1, 1, true},
		{[]api.Rule{web, web, web, deny, deny}, else2, 3, false},
		{append(slices.Repeat([]api.Rule{web}, 200), wide()), else3, 200, true},
	} {
		if first, allows := rule.First(c.l, c.a), rule.Allows(c.l, c.a); first != c.first || allows != c.allows {
			t.Errorf("%+v of %+v: %d, %v; want %d, %v", c.a, c.l, first, allows, c.first, c.allows)
		}
	}
}

func TestP15_2Covers(t *testing.T) {
	for i, r := range rightOnes() {
		if !rule.Covers(r, r) || !rule.Covers(wide(), r) {
			t.Errorf("%d: %+v isn't covered by itself, or by a wide one", i, r)
		}
		if !rule.Covers(but(r, func(r *api.Rule) { r.Allow = !r.Allow }), r) {
			t.Errorf("%d: whether it allows counts", i)
		}
		isWide := but(r, func(r *api.Rule) { r.Allow = true }) == wide()
		if !isWide && rule.Covers(r, wide()) {
			t.Errorf("%d: %+v covers a wide one", i, r)
		}
	}
	for i, c := range []struct {
		change func(r *api.Rule)
		covers bool // a narrow one
	}{
		{func(r *api.Rule) {}, true},
		{func(r *api.Rule) { r.In = -1 }, true},
		{func(r *api.Rule) { r.In = 3 }, false},
		{func(r *api.Rule) { r.Out = -1 }, true},
		{func(r *api.Rule) { r.Out = 2 }, false},
		{func(r *api.Rule) { r.Proto = -1 }, true},
		{func(r *api.Rule) { r.Proto = 17 }, false},
		{func(r *api.Rule) { r.Src = addr.Cut(r.Src.Addr, 31) }, true},
		{func(r *api.Rule) { r.Src = addr.Cut(r.Src.Addr, 0) }, true},
		{func(r *api.Rule) { r.Src = addr.Cut(r.Src.Addr^1, 32) }, false},
		{func(r *api.Rule) { r.Src = addr.Cut(r.Src.Addr^2, 31) }, false},
		{func(r *api.Rule) { r.Dst = addr.Cut(r.Dst.Addr, 31) }, true},
		{func(r *api.Rule) { r.Dst = addr.Cut(r.Dst.Addr, 0) }, true},
		{func(r *api.Rule) { r.Dst = addr.Cut(r.Dst.Addr^1, 32) }, false},
		{func(r *api.Rule) { r.Dst = addr.Cut(r.Dst.Addr^2, 31) }, false},
		{func(r *api.Rule) { r.SportLo-- }, true},
		{func(r *api.Rule) { r.SportHi++ }, true},
		{func(r *api.Rule) { r.SportLo, r.SportHi = 1025, 1026 }, false},
		{func(r *api.Rule) { r.SportLo, r.SportHi = 0, 1023 }, false},
		{func(r *api.Rule) { r.DportLo-- }, true},
		{func(r *api.Rule) { r.DportHi++ }, true},
		{func(r *api.Rule) { r.DportLo, r.DportHi = 81, 65535 }, false},
		{func(r *api.Rule) { r.DportLo, r.DportHi = 79, 79 }, false},
	} {
		r := but(narrow(), c.change)
		if rule.Covers(r, narrow()) != c.covers {
			t.Errorf("%d: Covers(%+v, narrow): %v", i, r, !c.covers)
		}
		if i > 0 && rule.Covers(narrow(), r) {
			t.Errorf("%d: Covers(narrow, %+v): true", i, r)
		}
	}
}

func TestP15_2CoversPorts(t *testing.T) {
	ports := func(lo, hi, proto int) api.Rule {
		return but(wide(), func(r *api.Rule) { r.SportLo, r.SportHi, r.Proto = lo, hi, proto })
	}
	for _, c := range []struct {
		r, s   api.Rule
		covers bool
	}{
		{ports(10, 20, 6), ports(10, 20, 6), true},
		{ports(10, 20, 6), ports(11, 19, 6), true},
		{ports(10, 20, 6), ports(9, 20, 6), false},
		{ports(10, 20, 6), ports(10, 21, 6), false},
		{ports(10, 20, 6), ports(20, 21, 6), false},
		{ports(10, 20, 6), ports(30, 40, 6), false},
		{ports(10, 20, 47), ports(30, 40, 47), false}, // even where ports count for nothing
		{ports(10, 20, -1), ports(30, 40, 47), false},
		{ports(10, 20, -1), ports(10, 11, 47), true},
		{ports(10, 20, 6), ports(10, 20, -1), false},
	} {
		if rule.Covers(c.r, c.s) != c.covers {
			t.Errorf("Covers(%+v, %+v): %v", c.r, c.s, !c.covers)
		}
	}
}

func TestP15_2CoversWrong(t *testing.T) {
	for _, r := range wrongOnes() {
		if rule.Covers(r, r) || rule.Covers(wide(), r) || rule.Covers(r, wide()) || rule.Covers(r, narrow()) || rule.Covers(narrow(), r) || rule.Covers(r, api.Rule{}) {
			t.Errorf("%+v isn't right, and covers, or is covered", r)
		}
	}
}

func TestP15_2Shadowed(t *testing.T) {
	bad := but(wide(), func(r *api.Rule) { r.SportHi = 65536 })
	deny := but(wide(), func(r *api.Rule) { r.Allow = false })
	other := but(narrow(), func(r *api.Rule) { r.In = 5 })
	for _, c := range []struct {
		l    []api.Rule
		want []int
	}{
		{nil, nil},
		{[]api.Rule{wide()}, nil},
		{[]api.Rule{narrow(), wide()}, nil},
		{[]api.Rule{wide(), narrow()}, []int{1}},
		{[]api.Rule{deny, narrow()}, []int{1}},
		{[]api.Rule{narrow(), narrow(), narrow()}, []int{1, 2}}, // by a shadowed one, too
		{[]api.Rule{narrow(), other, wide()}, nil},
		{[]api.Rule{narrow(), other, narrow(), other, wide(), deny}, []int{2, 3, 5}},
		{[]api.Rule{bad, narrow(), bad}, nil},
		{[]api.Rule{bad, bad, bad}, nil},
		{[]api.Rule{narrow(), bad, narrow()}, []int{2}},
		{[]api.Rule{wide(), bad, narrow(), bad, other}, []int{2, 4}},
		{[]api.Rule{other, bad, wide(), narrow()}, []int{3}},
	} {
		if got := rule.Shadowed(c.l); !slices.Equal(got, c.want) {
			t.Errorf("Shadowed(%+v): %v; want %v", c.l, got, c.want)
		}
	}
}

// pick is one of some.
func pick[T any](rng *rand.Rand, l ...T) T {
	return l[rng.Intn(len(l))]
}

// anyRule is a rule that is seldom wrong, and has much in common with others.
func anyRule(rng *rand.Rand) api.Rule {
	prefix := func() api.Prefix {
		p := addr.Cut(pick(rng, uint32(0x0a000000), 0x0a000001, 0x0a800000, 0x80000000), pick(rng, 0, 1, 8, 9, 31, 32))
		if rng.Intn(30) == 0 {
			p.Bits = pick(rng, -1, 33, 3)
		}
		return p
	}
	r := api.Rule{
		In: pick(rng, -1, -1, 0, 7), Out: pick(rng, -1, -1, 0, 7), Proto: pick(rng, -1, -1, 6, 17, 1, 47),
		Src: prefix(), Dst: prefix(),
		SportLo: pick(rng, 0, 0, 79, 80), SportHi: pick(rng, 80, 81, 65535, 65535),
		DportLo: pick(rng, 0, 0, 79, 80), DportHi: pick(rng, 80, 81, 65535, 65535),
		Allow: rng.Intn(2) == 0,
	}
	switch rng.Intn(40) {
	case 0:
		r.In, r.Out = pick(rng, -2, 8, 7), pick(rng, -2, 8, 7)
	case 1:
		r.Proto = pick(rng, -2, 255, 256)
	case 2:
		r.SportLo, r.DportHi = pick(rng, -1, 100), pick(rng, 65536, 79)
	}
	return r
}

// near is a rule that is like another one in most fields.
func near(rng *rand.Rand, r api.Rule) api.Rule {
	s := anyRule(rng)
	switch rng.Intn(6) {
	case 0:
		r.In, r.Out = s.In, s.Out
	case 1:
		r.Proto = s.Proto
	case 2:
		r.Src, r.SportLo = s.Src, s.SportLo
	case 3:
		r.Dst, r.DportHi = s.Dst, s.DportHi
	case 4:
		r.DportLo, r.SportHi = s.DportLo, s.SportHi
	}
	return r
}

func anyRules(rng *rand.Rand, most int) []api.Rule {
	var l []api.Rule
	for range rng.Intn(most + 1) {
		l = append(l, anyRule(rng))
	}
	return l
}

func anyAsk(rng *rand.Rand) rule.Ask {
	address := func() uint32 {
		return pick(rng, uint32(0x0a000000), 0x0a000001, 0x0a000002, 0x0a800000, 0x0b000000, 0x80000000, 0)
	}
	port := func() int { return pick(rng, 0, 79, 80, 81, 82, 65535) }
	return rule.Ask{In: pick(rng, 0, 7, 3), Out: pick(rng, 0, 7, 3), Key: api.Key{
		Src: address(), Dst: address(), Proto: pick(rng, 6, 17, 1, 47, 255), Sport: port(), Dport: port(),
	}}
}

// holds is the document's words for a prefix that holds an address: their first bits are the same.
func holds(p api.Prefix, a uint32) bool {
	for bit := range p.Bits {
		if p.Addr>>(31-bit)&1 != a>>(31-bit)&1 {
			return false
		}
	}
	return true
}

func rightPrefix(p api.Prefix) bool {
	if p.Bits < 0 || p.Bits > 32 {
		return false
	}
	for bit := p.Bits; bit < 32; bit++ {
		if p.Addr>>(31-bit)&1 != 0 {
			return false
		}
	}
	return true
}

func rightModel(r api.Rule) bool {
	for _, c := range [][3]int{{-1, r.In, 7}, {-1, r.Out, 7}, {-1, r.Proto, 255}, {0, r.SportLo, 65535}, {0, r.SportHi, 65535}, {0, r.DportLo, r.DportHi}, {r.SportLo, r.SportHi, 65535}, {0, r.DportHi, 65535}} {
		if c[1] < c[0] || c[1] > c[2] {
			return false
		}
	}
	return rightPrefix(r.Src) && rightPrefix(r.Dst)
}

func matchesModel(r api.Rule, a rule.Ask) bool {
	if !rightModel(r) {
		return false
	}
	for _, c := range [][2]int{{r.In, a.In}, {r.Out, a.Out}, {r.Proto, a.Key.Proto}} {
		if c[0] != -1 && c[0] != c[1] {
			return false
		}
	}
	if !holds(r.Src, a.Key.Src) || !holds(r.Dst, a.Key.Dst) {
		return false
	}
	if p := a.Key.Proto; p != 6 && p != 17 && p != 1 {
		return true
	}
	return a.Key.Sport >= r.SportLo && a.Key.Sport <= r.SportHi && a.Key.Dport >= r.DportLo && a.Key.Dport <= r.DportHi
}

func TestP15_1Random(t *testing.T) {
	rng := rand.New(rand.NewSource(151))
	matched, allowed := 0, 0
	for range 30000 {
		l, a := anyRules(rng, 12), anyAsk(rng)
		first, right := -1, true
		for i, r := range l {
			right = right && rightModel(r)
			m := matchesModel(r, a)
			if rule.Matches(r, a) != m || rule.Right(r) != rightModel(r) {
				t.Fatalf("Matches(%+v, %+v): %v, Right: %v", r, a, !m, rule.Right(r))
			}
			if first < 0 && m {
				first = i
			}
		}
		allows := first >= 0 && l[first].Allow
		if got := rule.First(l, a); got != first {
			t.Fatalf("First(%+v, %+v): %d; want %d", l, a, got, first)
		}
		if rule.Allows(l, a) != allows || rule.Right(l...) != right {
			t.Fatalf("Allows(%+v, %+v): %v; Right: %v", l, a, !allows, !right)
		}
		if first > 0 {
			matched++
		}
		if allows {
			allowed++
		}
	}
	if matched < 1000 || allowed < 1000 {
		t.Errorf("too few matched behind the first, or were allowed: %d, %d", matched, allowed)
	}
}

func coversModel(r, s api.Rule) bool {
	return rightModel(r) && rightModel(s) &&
		(r.In == -1 || r.In == s.In) && (r.Out == -1 || r.Out == s.Out) && (r.Proto == -1 || r.Proto == s.Proto) &&
		r.Src.Bits <= s.Src.Bits && holds(r.Src, s.Src.Addr) && r.Dst.Bits <= s.Dst.Bits && holds(r.Dst, s.Dst.Addr) &&
		r.SportLo <= s.SportLo && r.SportHi >= s.SportHi && r.DportLo <= s.DportLo && r.DportHi >= s.DportHi
}

func TestP15_2Random(t *testing.T) {
	rng := rand.New(rand.NewSource(152))
	shadowed := 0
	for range 5000 {
		l := anyRules(rng, 20)
		var want []int
		for i, s := range l {
			behind := false
			for j, r := range l {
				c := coversModel(r, s)
				behind = behind || j < i && c
				if rule.Covers(r, s) != c {
					t.Fatalf("Covers(%+v, %+v): %v", r, s, !c)
				}
			}
			if behind {
				want = append(want, i)
			}
		}
		if got := rule.Shadowed(l); !slices.Equal(got, want) {
			t.Fatalf("Shadowed(%+v): %v; want %v", l, got, want)
		}
		shadowed += len(want)
	}
	if shadowed < 1000 {
		t.Errorf("too few were shadowed: %d", shadowed)
	}
}

func TestP15_3Covered(t *testing.T) {
	rng := rand.New(rand.NewSource(153))
	pairs := 0
	for range 20000 {
		r := anyRule(rng)
		s := near(rng, near(rng, r))
		if !rule.Covers(r, s) {
			continue
		}
		for range 50 {
			a := anyAsk(rng)
			if rule.Matches(s, a) {
				pairs++
				if !rule.Matches(r, a) {
					t.Fatalf("%+v covers %+v, and doesn't match %+v", r, s, a)
				}
			}
		}
	}
	if pairs < 500 {
		t.Errorf("too few matched: %d", pairs)
	}
}

func TestP15_3NeverDecides(t *testing.T) {
	rng := rand.New(rand.NewSource(154))
	for range 2000 {
		l := anyRules(rng, 20)
		places := rule.Shadowed(l)
		var rest []api.Rule
		for i, r := range l {
			if !slices.Contains(places, i) {
				rest = append(rest, r)
			}
		}
		for range 30 {
			a := anyAsk(rng)
			if first := rule.First(l, a); slices.Contains(places, first) {
				t.Fatalf("%d is shadowed, and decides: %+v, %+v", first, l, a)
			}
			if rule.Allows(l, a) != rule.Allows(rest, a) {
				t.Fatalf("without what is shadowed %+v answers otherwise to %+v", l, a)
			}
		}
	}
}

func TestP15LeavesArguments(t *testing.T) {
	rng := rand.New(rand.NewSource(155))
	for range 200 {
		room := make([]api.Rule, 30)
		for i := range room {
			room[i] = anyRule(rng)
		}
		before := slices.Clone(room)
		l := room[:rng.Intn(20)]
		a := anyAsk(rng)
		first := rule.Shadowed(l)
		rule.Right(l...)
		rule.First(l, a)
		rule.Allows(l, a)
		if !reflect.DeepEqual(room, before) {
			t.Fatal("what was handed in is changed")
		}
		second := rule.Shadowed(l)
		for i := range first {
			first[i] = -9
		}
		if len(second) > 0 && slices.Contains(second, -9) {
			t.Fatal("two answers share memory")
		}
	}
}
