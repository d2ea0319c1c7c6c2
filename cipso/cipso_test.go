package cipso_test

import (
	"encoding/hex"
	"math"
	"math/rand"
	"reflect"
	"strings"
	"testing"

	"guerite/api"
	"guerite/cipso"
)

var types = []int{1, 2, 5}

var wrongLevels = []int{-1, 256, -256, 257, 511, 65536, 1 << 32, math.MinInt, math.MaxInt}

// set is the set of some, made bit by bit as package api says it.
func set(l ...int) api.Cats {
	var c api.Cats
	for _, k := range l {
		c[k/8] |= byte(1 << (7 - k%8))
	}
	return c
}

func of(level int, l ...int) api.Label {
	return api.Label{Level: level, Cats: set(l...)}
}

// span is the numbers from one to another.
func span(first, last int) []int {
	var l []int
	for k := first; k <= last; k++ {
		l = append(l, k)
	}
	return l
}

// apart is so many categories, none beside another one.
func apart(n int) []int {
	var l []int
	for i := range n {
		l = append(l, 3+2*i)
	}
	return l
}

func bytesOf(s string) string {
	b, err := hex.DecodeString(strings.ReplaceAll(s, " ", ""))
	if err != nil {
		panic(err)
	}
	return string(b)
}

func anyLabel(rnd *rand.Rand) api.Label {
	l := api.Label{Level: rnd.Intn(256)}
	for range rnd.Intn(9) {
		first := rnd.Intn(240)
		for k := first; k <= min(239, first+rnd.Intn(4)*rnd.Intn(12)); k++ {
			l.Cats[k/8] |= 0x80 >> (k % 8)
		}
	}
	if rnd.Intn(8) == 0 {
		for i := range l.Cats {
			l.Cats[i] |= byte(rnd.Intn(256))
		}
	}
	return l
}

// A model: tags as the words of the chapter have them, written bit by bit; ok is false, where there is none.

func in(c api.Cats, k int) bool {
	return k >= 0 && k <= 239 && c[k/8]>>(7-k%8)&1 == 1
}

func modelRanges(c api.Cats) [][2]int {
	var l [][2]int
	for least := 239; least >= 0; least-- {
		if !in(c, least) || in(c, least-1) {
			continue
		}
		greatest := least
		for in(c, greatest+1) {
			greatest++
		}
		l = append(l, [2]int{least, greatest})
	}
	return l
}

func short(n int) []byte {
	return []byte{byte(n / 256), byte(n % 256)}
}

func modelTag(kind int, l api.Label) (string, bool) {
	b := []byte{byte(kind), 0, 0, byte(l.Level)}
	many := 0
	switch kind {
	case 1:
		last := -1
		for i, one := range l.Cats {
			if one != 0 {
				last = i
			}
		}
		b = append(b, l.Cats[:last+1]...)
	case 2:
		for k := range 240 {
			if in(l.Cats, k) {
				b = append(b, short(k)...)
				many++
			}
		}
		if many > 15 {
			return "", false
		}
	case 5:
		for _, run := range modelRanges(l.Cats) {
			b = append(append(b, short(run[1])...), short(run[0])...)
			many++
		}
		if many > 7 {
			return "", false
		}
	}
	b[1] = byte(len(b))
	return string(b), true
}

func TestP10_1Ranges(t *testing.T) {
	for _, c := range []struct {
		list []int
		want [][2]int
	}{
		{nil, nil},
		{[]int{0}, [][2]int{{0, 0}}},
		{[]int{239}, [][2]int{{239, 239}}},
		{[]int{0, 239}, [][2]int{{239, 239}, {0, 0}}},
		{[]int{0, 1}, [][2]int{{0, 1}}},
		{[]int{238, 239}, [][2]int{{238, 239}}},
		{[]int{7, 8}, [][2]int{{7, 8}}},
		{[]int{7, 9}, [][2]int{{9, 9}, {7, 7}}},
		{[]int{1, 2, 3, 5, 6, 100}, [][2]int{{100, 100}, {5, 6}, {1, 3}}},
		{span(0, 239), [][2]int{{0, 239}}},
		{append(span(0, 100), 200), [][2]int{{200, 200}, {0, 100}}}, // by where they stand, not by how many they are
	} {
		got := cipso.Ranges(set(c.list...))
		if len(got) != len(c.want) || len(got) > 0 && !reflect.DeepEqual(got, c.want) {
			t.Errorf("Ranges(%v): %v; want %v", c.list, got, c.want)
		}
	}
}

func TestP10_1RangesOfAny(t *testing.T) {
	rnd := rand.New(rand.NewSource(10))
	for range 3000 {
		c := anyLabel(rnd).Cats
		got, want := cipso.Ranges(c), modelRanges(c)
		if len(got) != len(want) || len(got) > 0 && !reflect.DeepEqual(got, want) {
			t.Fatalf("Ranges(%x): %v; want %v", c, got, want)
		}
	}
}

func TestP10_1RangesAreNew(t *testing.T) {
	c := set(1, 2, 9)
	cipso.Ranges(c)[0][0] = 77
	if got := cipso.Ranges(c); !reflect.DeepEqual(got, [][2]int{{9, 9}, {1, 2}}) {
		t.Errorf("Ranges: %v behind a change of what was answered", got)
	}
}

func TestP10_1Tag(t *testing.T) {
	for _, c := range []struct {
		kind int
		l    api.Label
		want string
	}{
		{1, of(3, 0, 9), "01 06 00 03 80 40"},
		{1, of(0), "01 04 00 00"},
		{1, of(255), "01 04 00 ff"},
		{1, of(7, 7), "01 05 00 07 01"},
		{1, of(7, 8), "01 06 00 07 00 80"},
		{1, of(1, 239), "01 22 00 01" + strings.Repeat("00", 29) + "01"},
		{1, of(1, span(0, 239)...), "01 22 00 01" + strings.Repeat("ff", 30)},
		{2, of(3, 0, 9), "02 08 00 03 00 00 00 09"},
		{2, of(3, 9, 0, 239), "02 0a 00 03 00 00 00 09 00 ef"},
		{2, of(0), "02 04 00 00"},
		{2, of(1, span(0, 14)...), "02 22 00 01 0000 0001 0002 0003 0004 0005 0006 0007 0008 0009 000a 000b 000c 000d 000e"},
		{5, of(3, 0, 9), "05 0c 00 03 00 09 00 09 00 00 00 00"},
		{5, of(255), "05 04 00 ff"},
		{5, of(3, 10, 11, 12, 40), "05 0c 00 03 00 28 00 28 00 0c 00 0a"},
		{5, of(2, span(0, 239)...), "05 08 00 02 00 ef 00 00"},
		{5, of(2, apart(7)...), "05 20 00 02 000f 000f 000d 000d 000b 000b 0009 0009 0007 0007 0005 0005 0003 0003"},
	} {
		if got, e := cipso.Tag(c.kind, c.l); got != bytesOf(c.want) || e != api.OK {
			t.Errorf("Tag(%d, %v): %x, %d; want %s", c.kind, c.l, got, e, c.want)
		}
	}
}

func TestP10_1TagLong(t *testing.T) {
	for _, c := range []struct {
		kind int
		l    api.Label
		want api.Errno
	}{
		{2, of(0, apart(15)...), api.OK},
		{2, of(0, apart(16)...), api.ErrLong},
		{2, of(0, span(0, 15)...), api.ErrLong},
		{2, of(255, span(0, 239)...), api.ErrLong},
		{5, of(0, apart(7)...), api.OK},
		{5, of(0, apart(8)...), api.ErrLong},
		{5, of(0, apart(100)...), api.ErrLong},
		{1, of(0, apart(100)...), api.OK},
	} {
		s, e := cipso.Tag(c.kind, c.l)
		o, f := cipso.Encode(c.kind, 1, c.l)
		if e != c.want || f != c.want {
			t.Errorf("type %d, %v: %d, %d; want %d", c.kind, c.l, e, f, c.want)
		}
		if e != api.OK && (s != "" || o != (api.Option{})) {
			t.Errorf("type %d, %v: %x, %v beside an error", c.kind, c.l, s, o)
		}
	}
}

func TestP10_1TagWrong(t *testing.T) {
	wrong := func(kind int, l api.Label) {
		if s, e := cipso.Tag(kind, l); s != "" || e != api.ErrArg {
			t.Errorf("Tag(%d, %v): %x, %d; want ErrArg", kind, l, s, e)
		}
		if o, e := cipso.Encode(kind, 9, l); o != (api.Option{}) || e != api.ErrArg {
			t.Errorf("Encode(%d, %v): %v, %d; want ErrArg", kind, l, o, e)
		}
	}
	for _, level := range wrongLevels {
		for _, kind := range append([]int{0, 3}, types...) {
			wrong(kind, of(level))
			wrong(kind, of(level, apart(100)...)) // too many as well: ErrArg stands first
		}
	}
	for _, kind := range []int{0, 3, 4, 6, 7, 128, 134, 255, 256, 257, 258, 261, -1, -5, 1 << 32, 1<<32 + 1, math.MinInt, math.MaxInt} {
		wrong(kind, of(0))
		wrong(kind, of(3, apart(100)...))
	}
}

func TestP10_1Encode(t *testing.T) {
	for _, c := range []struct {
		kind   int
		domain uint32
		l      api.Label
		want   string
	}{
		{1, 0, of(0), "00000000 01 04 00 00"},
		{1, 1, of(3, 0, 9), "00000001 01 06 00 03 80 40"},
		{2, 0x01020304, of(3, 0, 9), "01020304 02 08 00 03 0000 0009"},
		{5, 0xffffffff, of(3, 0, 9), "ffffffff 05 0c 00 03 0009 0009 0000 0000"},
		{1, 0x80000000, of(255, 239), "80000000 01 22 00 ff" + strings.Repeat("00", 29) + "01"},
	} {
		if got, e := cipso.Encode(c.kind, c.domain, c.l); got != (api.Option{Kind: 134, Data: bytesOf(c.want)}) || e != api.OK {
			t.Errorf("Encode(%d, %d, %v): %v, %d; want %s", c.kind, c.domain, c.l, got, e, c.want)
		}
	}
	if cipso.Kind != 134 {
		t.Errorf("Kind: %d", cipso.Kind)
	}
}

func TestP10_1Best(t *testing.T) {
	for _, c := range []struct {
		l    api.Label
		kind byte
		size int // of the tag
	}{
		{of(0), 1, 4},             // all alike
		{of(3, 0), 1, 5},          // 5, 6, 8
		{of(3, 15), 1, 6},         // 6, 6, 8
		{of(3, 16), 2, 6},         // 7, 6, 8
		{of(3, 16, 17), 1, 7},     // 7, 8, 8
		{of(3, 24, 25), 1, 8},     // all alike
		{of(3, 30, 31), 1, 8},     // all alike
		{of(3, 32, 33), 2, 8},     // 9, 8, 8
		{of(3, 32, 33, 34), 5, 8}, // 9, 10, 8
		{of(3, 100, 200), 2, 8},
		{of(3, span(0, 239)...), 5, 8},
		{of(3, append(span(100, 120), 200)...), 5, 12},
		{of(3, append(apart(20), 239)...), 1, 34},
		{of(255, 239), 2, 6},
	} {
		o, e := cipso.Best(7, c.l)
		if e != api.OK || len(o.Data) != 4+c.size || o.Data[4] != c.kind {
			t.Errorf("Best(%v): %x, %d; want type %d, %d bytes", c.l, o.Data, e, c.kind, c.size)
			continue
		}
		if same, _ := cipso.Encode(int(c.kind), 7, c.l); o != same {
			t.Errorf("Best(%v): %v; want %v", c.l, o, same)
		}
	}
	for _, level := range wrongLevels {
		for _, l := range []api.Label{of(level), of(level, apart(100)...)} {
			if o, e := cipso.Best(7, l); o != (api.Option{}) || e != api.ErrArg {
				t.Errorf("Best(%v): %v, %d; want ErrArg", l, o, e)
			}
		}
	}
}

func TestP10_1OfAny(t *testing.T) {
	rnd := rand.New(rand.NewSource(11))
	for range 5000 {
		l, domain := anyLabel(rnd), rnd.Uint32()
		least := ""
		for _, kind := range types {
			want, ok := modelTag(kind, l)
			got, e := cipso.Tag(kind, l)
			if got != want || (e == api.OK) != ok || e != api.OK && e != api.ErrLong {
				t.Fatalf("Tag(%d, %v): %x, %d; want %x", kind, l, got, e, want)
			}
			if ok && (least == "" || len(want) < len(least)) {
				least = want
			}
		}
		o, e := cipso.Best(domain, l)
		if e != api.OK || o.Kind != 134 || o.Data != string([]byte{byte(domain >> 24), byte(domain >> 16), byte(domain >> 8), byte(domain)})+least {
			t.Fatalf("Best(%d, %v): %x, %d; want %x", domain, l, o.Data, e, least)
		}
	}
}

func TestP10_2Decode(t *testing.T) {
	for _, c := range []struct {
		data   string
		domain uint32
		l      api.Label
	}{
		{"00000001 01 06 00 03 80 40", 1, of(3, 0, 9)},
		{"fffffffe 02 08 00 03 0000 0009", 0xfffffffe, of(3, 0, 9)},
		{"00000000 05 0c 00 ff 0028 0028 000c 000a", 0, of(255, 10, 11, 12, 40)},
		{"01020304 01 04 00 00", 0x01020304, of(0)},
		{"01020304 02 04 00 00", 0x01020304, of(0)},
		{"01020304 05 04 00 00", 0x01020304, of(0)},
		{"80000000 01 22 00 80" + strings.Repeat("ff", 30), 0x80000000, of(128, span(0, 239)...)},
		{"00000009 05 08 00 07 00ef 0000", 9, of(7, span(0, 239)...)},
	} {
		if domain, l, e := cipso.Decode(api.Option{Kind: 134, Data: bytesOf(c.data)}); domain != c.domain || l != c.l || e != api.OK {
			t.Errorf("Decode(%s): %d, %v, %d; want %d, %v", c.data, domain, l, e, c.domain, c.l)
		}
	}
}

func fails(t *testing.T, o api.Option, want api.Errno) {
	t.Helper()
	if domain, l, e := cipso.Decode(o); domain != 0 || l != (api.Label{}) || e != want {
		t.Errorf("Decode(%d, %.60x): %d, %v, %d; want %d", o.Kind, o.Data, domain, l, e, want)
	}
}

func TestP10_2DecodeKind(t *testing.T) {
	good := bytesOf("00000001 01 06 00 03 80 40")
	for _, kind := range []int{0, 1, 130, 133, 135, 6, -134, 134 + 256, 134 - 256, 1<<32 + 134, math.MinInt, math.MaxInt} {
		fails(t, api.Option{Kind: kind, Data: good}, api.ErrForm)
		fails(t, api.Option{Kind: kind, Data: good[:3]}, api.ErrForm) // short as well: the kind stands first
		fails(t, api.Option{Kind: kind}, api.ErrForm)
	}
}

func TestP10_2DecodeShort(t *testing.T) {
	for _, data := range []string{"00000001 01 04 00 03", "00000001 63 63 63 63"} {
		s := bytesOf(data)
		for n := range len(s) {
			fails(t, api.Option{Kind: 134, Data: s[:n]}, api.ErrShort)
		}
	}
}

func TestP10_2DecodeForm(t *testing.T) {
	for _, tag := range []string{
		"00 04 00 00", "03 04 00 00", "04 04 00 00", "06 04 00 00", "ff 04 00 00", // no type
		"01 00 00 00", "01 03 00 00", "01 05 00 00", "01 ff 00 00", // no length of its own
		"02 03 00 00", "05 06 00 00",
		"01 04 01 00", "02 04 80 00", "05 04 ff 00", // no byte 0
		"01 05 00 03 00", "01 06 00 03 80 00", // a 0 at the end
		"01 05 00 03 80 40", "01 07 00 03 80 40", // shorter, longer than it says
		"01 06 00 03 80 40 00", "01 06 00 03 80 40 01 04 00 00", // something behind it
		"01 23 00 01" + strings.Repeat("ff", 31), // more categories than there are
		"01 23 00 01" + strings.Repeat("ff", 30) + "00",
		"01 22 00 01" + strings.Repeat("ff", 30) + "00",
		"02 05 00 03 00", "02 07 00 03 0000 00", // half a short
		"02 08 00 03 0009 0000", "02 08 00 03 0009 0009", // not rising
		"02 06 00 03 00f0", "02 06 00 03 0100", "02 06 00 03 ffff", "02 08 00 03 0001 00f0", // no category
		"02 24 00 01 0000 0001 0002 0003 0004 0005 0006 0007 0008 0009 000a 000b 000c 000d 000e 000f", // too many
		"05 06 00 03 0009", "05 0a 00 03 0009 0009 0000", // half a range: the least one may not be left out
		"05 07 00 03 0009 00",
		"05 08 00 03 0009 000a",           // upside down
		"05 08 00 03 00f0 0000",           // no category
		"05 08 00 03 ffff 0000",           // no category
		"05 08 00 03 00f0 00f0",           // no category
		"05 0c 00 03 0000 0000 0009 0009", // rising
		"05 0c 00 03 0009 0009 0009 0009", // twice
		"05 0c 00 03 0009 0009 0008 0008", // beside another one
		"05 0c 00 03 0009 0005 0007 0002", // over another one
		"05 24 00 02 0011 0011 000f 000f 000d 000d 000b 000b 0009 0009 0007 0007 0005 0005 0003 0003", // too many
	} {
		fails(t, api.Option{Kind: 134, Data: bytesOf("00000001" + tag)}, api.ErrForm)
	}
	for range 2000 { // ranges far above all categories take no longer than others
		fails(t, api.Option{Kind: 134, Data: bytesOf("00000001 05 20 00 02" + strings.Repeat("ffff 0000", 7))}, api.ErrForm)
	}
	for _, kind := range []byte{1, 2, 5, 6} {
		fails(t, api.Option{Kind: 134, Data: "\x00\x00\x00\x01" + string([]byte{kind, 4, 0, 0}) + strings.Repeat("\xff", 1<<20)}, api.ErrForm)
	}
}

// TestP10_2DecodeAll holds, of every tag with at most two bytes of categories among a few, that it is read just if it is written.
func TestP10_2DecodeAll(t *testing.T) {
	written := map[string]api.Label{}
	for _, kind := range types {
		for bits := range 1 << 16 {
			l := api.Label{Level: 2, Cats: api.Cats{byte(bits >> 8), byte(bits)}}
			if tag, ok := modelTag(kind, l); ok && len(tag) <= 6 {
				written[tag] = l
			}
		}
	}
	for k := range 240 {
		tag, _ := modelTag(2, of(2, k))
		written[tag] = of(2, k)
	}
	for _, kind := range []byte{0, 1, 2, 3, 5} {
		for length := range 8 {
			for more := range 1<<16 + 1<<8 + 1 {
				tag := []byte{kind, byte(length), 0, 2}
				switch {
				case more < 1<<16:
					tag = append(tag, byte(more>>8), byte(more))
				case more < 1<<16+1<<8:
					tag = append(tag, byte(more))
				}
				want, ok := written[string(tag)]
				domain, l, e := cipso.Decode(api.Option{Kind: 134, Data: "\x00\x00\x00\x07" + string(tag)})
				if ok && (e != api.OK || l != want || domain != 7) || !ok && (e != api.ErrForm || l != (api.Label{}) || domain != 0) {
					t.Fatalf("Decode(%x): %d, %v, %d; want %v, %v", tag, domain, l, e, want, ok)
				}
			}
		}
	}
}

// TestP10_2DecodeChanged holds, of tags with a byte changed, left out or added, that what is read is what it is written as.
func TestP10_2DecodeChanged(t *testing.T) {
	rnd := rand.New(rand.NewSource(12))
	for range 20000 {
		kind := types[rnd.Intn(3)]
		o, e := cipso.Encode(kind, rnd.Uint32(), anyLabel(rnd))
		if e != api.OK {
			continue
		}
		b := []byte(o.Data)
		at := 4 + rnd.Intn(len(b)-4)
		switch rnd.Intn(3) {
		case 0:
			b[at] = byte(rnd.Intn(256))
		case 1:
			b = append(b[:at], b[at+1:]...)
		default:
			b = append(b, byte(rnd.Intn(2)))
		}
		domain, l, e := cipso.Decode(api.Option{Kind: 134, Data: string(b)})
		if e != api.OK {
			if domain != 0 || l != (api.Label{}) || e != api.ErrForm && (e != api.ErrShort || len(b) >= 8) {
				t.Fatalf("Decode(%x): %d, %v, %d", b, domain, l, e)
			}
			continue
		}
		if tag, ok := modelTag(int(b[4]), l); !ok || tag != string(b[4:]) {
			t.Fatalf("Decode(%x): %v, that is told otherwise", b, l)
		}
	}
}

func TestP10_3ReadAsItWas(t *testing.T) {
	rnd := rand.New(rand.NewSource(13))
	back := func(o api.Option, e api.Errno, domain uint32, want api.Label) {
		if e == api.ErrLong {
			return
		}
		if d, l, f := cipso.Decode(o); e != api.OK || d != domain || l != want || f != api.OK {
			t.Fatalf("%v: %d, %v, %d; want %d, %v", o, d, l, f, domain, want)
		}
	}
	for range 5000 {
		l, domain := anyLabel(rnd), rnd.Uint32()
		for _, kind := range types {
			o, e := cipso.Encode(kind, domain, l)
			back(o, e, domain, l)
		}
		o, e := cipso.Best(domain, l)
		back(o, e, domain, l)
	}
}
