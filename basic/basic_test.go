package basic_test

import (
	"encoding/hex"
	"math"
	"math/rand"
	"strings"
	"testing"

	"guerite/api"
	"guerite/basic"
)

var levels = []byte{171, 150, 90, 61}

var wrongLevels = []int{-1, 256, -256, 257, 65536, 1 << 32, 1<<32 + 1, math.MinInt, math.MaxInt}

// set is the set of some, made bit by bit as package api says it.
func set(l ...int) api.Cats {
	var c api.Cats
	for _, k := range l {
		c[k/8] |= byte(1 << (7 - k%8))
	}
	return c
}

func of(level int, l ...int) api.Label {
	return api.Label{Level: level, Cats: set(l...)}
}

func span(first, last int) []int {
	var l []int
	for k := first; k <= last; k++ {
		l = append(l, k)
	}
	return l
}

func bytesOf(s string) string {
	b, err := hex.DecodeString(strings.ReplaceAll(s, " ", ""))
	if err != nil {
		panic(err)
	}
	return string(b)
}

// modelData is a label's data as the words of the chapter have it: bits is its categories, 0 the lowest bit.
func modelData(level int, bits uint32) string {
	data := []byte{levels[level]}
	for first := 0; bits>>first != 0; first += 7 {
		b := byte(0)
		for i := range 7 {
			b += byte(bits>>(first+i)&1) << (7 - i)
		}
		if bits>>(first+7) != 0 {
			b++
		}
		data = append(data, b)
	}
	return string(data)
}

func labelOf(level int, bits uint32) api.Label {
	l := of(level)
	for k := range 28 {
		if bits>>k&1 == 1 {
			l.Cats[k/8] |= 0x80 >> (k % 8)
		}
	}
	return l
}

func TestP11_1Level(t *testing.T) {
	for b := range 256 {
		level, ok := basic.Level(byte(b))
		want, is := 0, false
		for i, its := range levels {
			if its == byte(b) {
				want, is = i, true
			}
		}
		if level != want || ok != is {
			t.Errorf("Level(%d): %d, %v; want %d, %v", b, level, ok, want, is)
		}
	}
}

func TestP11_1Fits(t *testing.T) {
	for _, c := range []struct {
		l    api.Label
		want bool
	}{
		{of(0), true},
		{of(1), true},
		{of(2), true},
		{of(3), true},
		{of(4), false},
		{of(5), false},
		{of(61), false},
		{of(171), false},
		{of(255), false},
		{of(0, 27), true},
		{of(3, span(0, 27)...), true},
		{of(0, 28), false},
		{of(0, 31), false},
		{of(0, 32), false},
		{of(0, 239), false},
		{of(3, span(0, 28)...), false},
		{of(4, 1), false},
		{of(4, 28), false},
	} {
		if got := basic.Fits(c.l); got != c.want {
			t.Errorf("Fits(%v): %v", c.l, got)
		}
	}
	for _, level := range wrongLevels {
		if basic.Fits(of(level)) || basic.Fits(of(level, 1)) {
			t.Errorf("Fits: true of level %d", level)
		}
	}
	for k := range 240 {
		if basic.Fits(of(2, k)) != (k < 28) {
			t.Errorf("Fits: %v of category %d", k >= 28, k)
		}
	}
}

func TestP11_1Encode(t *testing.T) {
	for _, c := range []struct {
		l    api.Label
		want string
	}{
		{of(1, 8), "96 01 40"},
		{of(0), "ab"},
		{of(1), "96"},
		{of(2), "5a"},
		{of(3), "3d"},
		{of(0, 0), "ab 80"},
		{of(0, 6), "ab 02"},
		{of(0, 7), "ab 01 80"},
		{of(2, 0, 13), "5a 81 02"},
		{of(2, 14), "5a 01 01 80"},
		{of(2, 20), "5a 01 01 02"},
		{of(2, 21), "5a 01 01 01 80"},
		{of(2, 27), "5a 01 01 01 02"},
		{of(2, 0, 27), "5a 81 01 01 02"},
		{of(3, span(0, 6)...), "3d fe"},
		{of(3, span(0, 27)...), "3d ff ff ff fe"},
	} {
		if got, e := basic.Encode(c.l); got != (api.Option{Kind: 130, Data: bytesOf(c.want)}) || e != api.OK {
			t.Errorf("Encode(%v): %v, %d; want %s", c.l, got, e, c.want)
		}
	}
	if basic.Kind != 130 {
		t.Errorf("Kind: %d", basic.Kind)
	}
}

func TestP11_1EncodeWrong(t *testing.T) {
	fails := func(l api.Label, want api.Errno) {
		if o, e := basic.Encode(l); o != (api.Option{}) || e != want {
			t.Errorf("Encode(%v): %v, %d; want %d", l, o, e, want)
		}
	}
	for _, level := range wrongLevels {
		fails(of(level), api.ErrArg)
		fails(of(level, 28), api.ErrArg) // too long as well: ErrArg stands first
	}
	for level := 4; level <= 255; level++ {
		fails(of(level), api.ErrLong)
		fails(of(level, 1), api.ErrLong)
	}
	for k := 28; k <= 239; k++ {
		for level := range levels {
			fails(of(level, k), api.ErrLong)
			fails(of(level, 3, k), api.ErrLong)
		}
	}
}

func TestP11_1Decode(t *testing.T) {
	for _, c := range []struct {
		data string
		want api.Label
	}{
		{"96 01 40", of(1, 8)},
		{"ab", of(0)},
		{"3d", of(3)},
		{"5a 81 02", of(2, 0, 13)},
		{"5a 01 01 01 02", of(2, 27)},
		{"3d ff ff ff fe", of(3, span(0, 27)...)},
	} {
		if l, e := basic.Decode(api.Option{Kind: 130, Data: bytesOf(c.data)}); l != c.want || e != api.OK {
			t.Errorf("Decode(%s): %v, %d; want %v", c.data, l, e, c.want)
		}
	}
}

func TestP11_1DecodeWrong(t *testing.T) {
	fails := func(o api.Option, want api.Errno) {
		if l, e := basic.Decode(o); l != (api.Label{}) || e != want {
			t.Errorf("Decode(%d, %.40x): %v, %d; want %d", o.Kind, o.Data, l, e, want)
		}
	}
	for _, kind := range []int{0, 1, 129, 131, 133, 134, 2, -130, 130 + 256, 130 - 256, 1<<32 + 130, math.MinInt, math.MaxInt} {
		fails(api.Option{Kind: kind, Data: "\xab"}, api.ErrForm)
		fails(api.Option{Kind: kind}, api.ErrForm) // empty as well: the kind stands first
	}
	fails(api.Option{Kind: 130}, api.ErrShort)
	for _, data := range []string{
		"00", "01", "ff", "aa", "00 80", // no level
		"ab 00", "ab 01", "ab 80 00", "ab 81", "ab 01 00", "ab 81 00", // more bytes, or fewer, than will do
		"ab 80 80", "ab 81 80 80", // another byte that isn't told of
		"ab 81 81", "ab 81 83 81",
		"ab 01 01 01 01 80", "ab 01 01 01 03", "ab 01 01 01 03 80", "ab ff ff ff ff fe", // no category that is told
		"ab 01 01 01 02 00",
	} {
		fails(api.Option{Kind: 130, Data: bytesOf(data)}, api.ErrForm)
	}
	fails(api.Option{Kind: 130, Data: "\xab" + strings.Repeat("\xff", 1<<20)}, api.ErrForm)
}

// TestP11_1DecodeAll holds, of all data of at most three bytes, that it is read just if it is written.
func TestP11_1DecodeAll(t *testing.T) {
	written := map[string]api.Label{}
	for level := range levels {
		for bits := range uint32(1 << 14) {
			written[modelData(level, bits)] = labelOf(level, bits)
		}
	}
	try := func(b ...byte) {
		want, ok := written[string(b)]
		l, e := basic.Decode(api.Option{Kind: 130, Data: string(b)})
		if l != want || (e == api.OK) != ok || !ok && e != api.ErrForm {
			t.Fatalf("Decode(%x): %v, %d; want %v, %v", b, l, e, want, ok)
		}
	}
	for b := range 256 {
		try(byte(b))
	}
	for _, level := range append([]byte{0, 60, 172}, levels...) {
		for more := range 1 << 16 {
			try(level, byte(more>>8), byte(more))
		}
		for more := range 256 {
			try(level, byte(more))
		}
	}
}

func TestP11_2ReadAsItWas(t *testing.T) {
	rnd := rand.New(rand.NewSource(14))
	for range 50000 {
		level := rnd.Intn(4)
		bits := uint32(rnd.Intn(1<<28)) & (1<<rnd.Intn(29) - 1) & (rnd.Uint32() | rnd.Uint32())
		want := labelOf(level, bits)
		o, e := basic.Encode(want)
		if e != api.OK || o != (api.Option{Kind: 130, Data: modelData(level, bits)}) {
			t.Fatalf("Encode(%v): %v, %d", want, o, e)
		}
		if l, e := basic.Decode(o); l != want || e != api.OK {
			t.Fatalf("Decode(%v): %v, %d; want %v", o, l, e, want)
		}
	}
}
