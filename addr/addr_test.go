package addr_test

import (
	"math"
	"math/rand"
	"strings"
	"testing"

	"guerite/addr"
	"guerite/api"
)

func TestP3_1Text(t *testing.T) {
	for a, want := range map[uint32]string{
		0:          "0.0.0.0",
		0x0a010203: "10.1.2.3",
		0x01020304: "1.2.3.4",
		0x6409ff00: "100.9.255.0",
		0xffffffff: "255.255.255.255",
	} {
		if got := addr.Text(a); got != want {
			t.Errorf("Text(%x): %q, want %q", a, got, want)
		}
		if got, ok := addr.Parse(want); got != a || !ok {
			t.Errorf("Parse(%q): %x, %v; want %x", want, got, ok, a)
		}
	}
}

func TestP3_1ParseWrong(t *testing.T) {
	for _, s := range []string{
		"", ".", "...", "1", "1.2.3", "1.2.3.", ".1.2.3", "1..2.3", "1.2.3.4.", "1.2.3.4.5", "1.2.3.4 ", " 1.2.3.4",
		"256.0.0.0", "0.0.0.256", "1.2.3.1000", "01.2.3.4", "1.2.3.04", "1.2.3.00", "1.2.3.000", "+1.2.3.4", "1.2.3.-0", "-1.2.3.4",
		"1.2.3.0x4", "1.2.3.1_0", "a.b.c.d", "1.2.3.4/32", "1,2,3,4", "1.2.3.\x00", "1.2.3.\u0664", "1.2.3.99999999999999999999",
		strings.Repeat("1.", 1000), "1.2.3." + strings.Repeat("0", 1000) + "1",
	} {
		if a, ok := addr.Parse(s); a != 0 || ok {
			t.Errorf("Parse(%.40q): %x, %v; want 0, false", s, a, ok)
		}
	}
}

func TestP3_1Mask(t *testing.T) {
	for bits, want := range map[int]uint32{
		math.MinInt: 0, -1: 0, 0: 0, 1: 0x80000000, 8: 0xff000000, 12: 0xfff00000, 31: 0xfffffffe, 32: 0xffffffff, 33: 0xffffffff, 64: 0xffffffff, math.MaxInt: 0xffffffff,
	} {
		if got := addr.Mask(bits); got != want {
			t.Errorf("Mask(%d): %x, want %x", bits, got, want)
		}
	}
}

func TestP3_1Cut(t *testing.T) {
	for _, c := range []struct {
		a    uint32
		bits int
		want api.Prefix
	}{
		{0x0a01ffff, 12, api.Prefix{Addr: 0x0a000000, Bits: 12}},
		{0x0a01ffff, 16, api.Prefix{Addr: 0x0a010000, Bits: 16}},
		{0xffffffff, 0, api.Prefix{}},
		{0xffffffff, -1, api.Prefix{}},
		{0xffffffff, math.MinInt, api.Prefix{}},
		{0xffffffff, 1, api.Prefix{Addr: 0x80000000, Bits: 1}},
		{0xffffffff, 31, api.Prefix{Addr: 0xfffffffe, Bits: 31}},
		{0xffffffff, 32, api.Prefix{Addr: 0xffffffff, Bits: 32}},
		{0xffffffff, 33, api.Prefix{Addr: 0xffffffff, Bits: 32}},
		{0x0a010203, math.MaxInt, api.Prefix{Addr: 0x0a010203, Bits: 32}},
	} {
		if got := addr.Cut(c.a, c.bits); got != c.want {
			t.Errorf("Cut(%x, %d): %v, want %v", c.a, c.bits, got, c.want)
		}
	}
}

// wrong is prefixes that aren't right.
var wrong = []api.Prefix{
	{Addr: 0, Bits: -1}, {Addr: 0, Bits: 33}, {Addr: 0, Bits: math.MinInt}, {Addr: 0, Bits: math.MaxInt}, {Addr: 0xffffffff, Bits: 33},
	{Addr: 1, Bits: 0}, {Addr: 0x80000000, Bits: 0}, {Addr: 1, Bits: 31}, {Addr: 0x0a010000, Bits: 15}, {Addr: 0x0a010203, Bits: 16},
}

func TestP3_1Right(t *testing.T) {
	for _, p := range []api.Prefix{{}, {Addr: 0x80000000, Bits: 1}, {Addr: 0, Bits: 1}, {Addr: 0x0a010000, Bits: 16}, {Addr: 0x0a010000, Bits: 24}, {Addr: 0xfffffffe, Bits: 31}, {Addr: 0xffffffff, Bits: 32}, {Addr: 0, Bits: 32}} {
		if !addr.Right(p) {
			t.Errorf("Right(%v): false", p)
		}
	}
	for _, p := range wrong {
		if addr.Right(p) {
			t.Errorf("Right(%v): true", p)
		}
	}
}

func TestP3_1Holds(t *testing.T) {
	for _, c := range []struct {
		p    api.Prefix
		a    uint32
		want bool
	}{
		{api.Prefix{Addr: 0x0a010000, Bits: 16}, 0x0a010203, true},
		{api.Prefix{Addr: 0x0a010000, Bits: 16}, 0x0a010000, true},
		{api.Prefix{Addr: 0x0a010000, Bits: 16}, 0x0a01ffff, true},
		{api.Prefix{Addr: 0x0a010000, Bits: 16}, 0x0a00ffff, false},
		{api.Prefix{Addr: 0x0a010000, Bits: 16}, 0x0a020000, false},
		{api.Prefix{}, 0, true},
		{api.Prefix{}, 0xffffffff, true},
		{api.Prefix{Addr: 0x80000000, Bits: 1}, 0x80000000, true},
		{api.Prefix{Addr: 0x80000000, Bits: 1}, 0x7fffffff, false},
		{api.Prefix{Addr: 0xffffffff, Bits: 32}, 0xffffffff, true},
		{api.Prefix{Addr: 0xffffffff, Bits: 32}, 0xfffffffe, false},
		{api.Prefix{Addr: 0, Bits: 32}, 0, true},
		{api.Prefix{Addr: 0, Bits: 32}, 1, false},
	} {
		if got := addr.Holds(c.p, c.a); got != c.want {
			t.Errorf("Holds(%v, %x): %v", c.p, c.a, got)
		}
	}
	for _, p := range wrong {
		for _, a := range []uint32{p.Addr, p.Addr & addr.Mask(p.Bits), 0, 0xffffffff} {
			if addr.Holds(p, a) {
				t.Errorf("Holds(%v, %x): true of one that isn't right", p, a)
			}
		}
	}
}

func TestP3_1Within(t *testing.T) {
	all, ten, tenOne, eleven, host := api.Prefix{}, api.Prefix{Addr: 0x0a000000, Bits: 8}, api.Prefix{Addr: 0x0a010000, Bits: 16}, api.Prefix{Addr: 0x0b000000, Bits: 8}, api.Prefix{Addr: 0x0a010203, Bits: 32}
	for _, c := range []struct {
		p, q api.Prefix
		want bool
	}{
		{ten, ten, true}, {all, all, true}, {host, host, true},
		{tenOne, ten, true}, {ten, tenOne, false}, {ten, all, true}, {all, ten, false},
		{host, tenOne, true}, {host, all, true}, {tenOne, host, false},
		{tenOne, eleven, false}, {eleven, ten, false}, {host, eleven, false},
		{api.Prefix{Addr: 0, Bits: 8}, api.Prefix{Addr: 0, Bits: 9}, false},
		{api.Prefix{Addr: 0, Bits: 9}, api.Prefix{Addr: 0, Bits: 8}, true},
	} {
		if got := addr.Within(c.p, c.q); got != c.want {
			t.Errorf("Within(%v, %v): %v", c.p, c.q, got)
		}
	}
	for _, p := range wrong {
		for _, q := range []api.Prefix{all, ten, {Addr: 0, Bits: 32}, p} {
			if addr.Within(p, q) || addr.Within(q, p) {
				t.Errorf("Within(%v, %v) or the other way round: true of one that isn't right", p, q)
			}
		}
	}
}

func TestP3_1WithinByWhatIsHeld(t *testing.T) {
	for i := range 33 {
		for j := range 33 {
			for _, flip := range []uint32{0, 1, 0x8000, 0x80000000} {
				p, q := addr.Cut(0xa5a5a5a5^flip, i), addr.Cut(0xa5a5a5a5, j)
				last := p.Addr | ^addr.Mask(i)
				want := addr.Holds(q, p.Addr) && addr.Holds(q, last)
				if got := addr.Within(p, q); got != want {
					t.Errorf("Within(%v, %v): %v", p, q, got)
				}
			}
		}
	}
}

func TestP3_1PrefixText(t *testing.T) {
	for want, p := range map[string]api.Prefix{
		"0.0.0.0/0":          {},
		"0.0.0.0/32":         {Bits: 32},
		"10.1.0.0/16":        {Addr: 0x0a010000, Bits: 16},
		"128.0.0.0/1":        {Addr: 0x80000000, Bits: 1},
		"255.255.255.254/31": {Addr: 0xfffffffe, Bits: 31},
		"255.255.255.255/32": {Addr: 0xffffffff, Bits: 32},
	} {
		if got := addr.PrefixText(p); got != want {
			t.Errorf("PrefixText(%v): %q, want %q", p, got, want)
		}
		if got, ok := addr.ParsePrefix(want); got != p || !ok {
			t.Errorf("ParsePrefix(%q): %v, %v; want %v", want, got, ok, p)
		}
	}
	for _, p := range wrong {
		if got := addr.PrefixText(p); got != "" {
			t.Errorf("PrefixText(%v): %q, want nothing", p, got)
		}
	}
}

func TestP3_1ParsePrefixWrong(t *testing.T) {
	for _, s := range []string{
		"", "/", "10.0.0.0", "10.0.0.0/", "/8", "10.0.0.0/33", "10.0.0.0/-1", "10.0.0.0/-0", "10.0.0.0/+8", "10.0.0.0/08", "10.0.0.0/00", "0.0.0.0/00",
		"10.0.0.0/8/8", "10.0.0.0/8/", "10.0.0.0//8", "10.0.0.0 /8", "10.0.0.0/8 ", "10.0.0/8", "010.0.0.0/8", "256.0.0.0/8", "10.0.0.0/x", "10.0.0.0/4294967304",
		"10.1.0.0/15", "10.1.2.3/16", "0.0.0.1/0", "255.255.255.255/31", "10.0.0.0/99999999999999999999",
	} {
		if p, ok := addr.ParsePrefix(s); p != (api.Prefix{}) || ok {
			t.Errorf("ParsePrefix(%q): %v, %v; want nothing, false", s, p, ok)
		}
	}
}

func TestP3_1WhatIsToldIsReadAsItWas(t *testing.T) {
	rnd := rand.New(rand.NewSource(5))
	for range 3000 {
		a := rnd.Uint32()
		if got, ok := addr.Parse(addr.Text(a)); got != a || !ok {
			t.Errorf("%x is read as %x, %v", a, got, ok)
		}
		p := addr.Cut(a, rnd.Intn(33))
		if got, ok := addr.ParsePrefix(addr.PrefixText(p)); got != p || !ok {
			t.Errorf("%v is read as %v, %v", p, got, ok)
		}
	}
}

func TestP3_1Kind(t *testing.T) {
	if addr.Zero != 0 || addr.Loop != 1 || addr.Many != 2 || addr.Kept != 3 || addr.One != 4 {
		t.Error("the kinds have other numbers")
	}
	for _, c := range []struct {
		first, last uint32
		want        int
	}{
		{0x00000000, 0x00ffffff, addr.Zero},
		{0x01000000, 0x7effffff, addr.One},
		{0x7f000000, 0x7fffffff, addr.Loop},
		{0x80000000, 0xdfffffff, addr.One},
		{0xe0000000, 0xefffffff, addr.Many},
		{0xf0000000, 0xffffffff, addr.Kept},
	} {
		for _, a := range []uint32{c.first, c.first + 1, c.first/2 + c.last/2, c.last - 1, c.last} {
			if got := addr.Kind(a); got != c.want {
				t.Errorf("Kind(%s): %d, want %d", addr.Text(a), got, c.want)
			}
		}
	}
}
