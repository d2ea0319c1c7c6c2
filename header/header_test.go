package header_test

import (
	"math"
	"math/rand"
	"strings"
	"testing"

	"guerite/api"
	"guerite/header"
	"guerite/option"
)

// plain is the document's example.
func plain() api.Packet {
	return api.Packet{Ttl: 64, Proto: 17, Src: 0x0a000001, Dst: 0x0a000002, Data: "ab"}
}

// with is the example, changed.
func with(change func(p *api.Packet)) api.Packet {
	p := plain()
	change(&p)
	return p
}

func bytesOf(n int) string {
	return strings.Repeat("x", n)
}

func of(kind, size int) api.Option {
	return api.Option{Kind: kind, Data: bytesOf(size)}
}

// checkSum is a header's check sum by the document's words, with 0 in its place.
func checkSum(head string) int {
	total := 0
	for i := 0; i < len(head); i += 2 {
		if i != 10 {
			total += int(head[i])*256 + int(head[i+1])
		}
	}
	if total%65535 == 0 && total != 0 {
		return 0
	}
	return 65535 - total%65535
}

// summed is bytes with the check sum of their first so many ones.
func summed(s string, head int) string {
	n := checkSum(s[:head])
	return s[:10] + string([]byte{byte(n >> 8), byte(n)}) + s[12:]
}

// setByte is bytes with another one at a place.
func setByte(s string, at, b int) string {
	return s[:at] + string([]byte{byte(b)}) + s[at+1:]
}

// setShort is bytes with another short at a place.
func setShort(s string, at, n int) string {
	return setByte(setByte(s, at, n>>8), at+1, n)
}

func encoded(t *testing.T, p api.Packet) string {
	t.Helper()
	s, e := header.Encode(p)
	if e != api.OK {
		t.Fatalf("Encode: %d", e)
	}
	return s
}

// rights is packets that are right, at the edges.
func rights() map[string]api.Packet {
	return map[string]api.Packet{
		"the example":        plain(),
		"the zero one":       {},
		"the least":          {Options: []api.Option{}},
		"all numbers most":   {Tos: 255, Id: 65535, Df: true, Mf: true, Offset: 65528, Ttl: 255, Proto: 255, Src: 0xffffffff, Dst: 0xffffffff, Data: bytesOf(7)},
		"the last offset":    with(func(p *api.Packet) { p.Offset = 65528; p.Data = "" }),
		"offset and Data":    with(func(p *api.Packet) { p.Offset = 8; p.Data = bytesOf(65535 - 20) }),
		"the longest":        with(func(p *api.Packet) { p.Data = bytesOf(65515) }),
		"longest of options": with(func(p *api.Packet) { p.Options = []api.Option{of(9, 38)}; p.Data = bytesOf(65475) }),
		"Mf, odd Data":       with(func(p *api.Packet) { p.Mf = true; p.Data = "abc" }),
		"Df, a fragment":     with(func(p *api.Packet) { p.Df = true; p.Mf = true; p.Offset = 16 }),
		"options":            with(func(p *api.Packet) { p.Options = []api.Option{of(1, 0), of(134, 5), of(1, 0)} }),
		"offset, far Data":   with(func(p *api.Packet) { p.Offset = 32768; p.Data = bytesOf(32767) }),
	}
}

// wrongs is packets that aren't right, each by one thing.
func wrongs() map[string]api.Packet {
	l := map[string]api.Packet{
		"offset 4":         with(func(p *api.Packet) { p.Offset = 4 }),
		"offset 1":         with(func(p *api.Packet) { p.Offset = 1 }),
		"offset 65527":     with(func(p *api.Packet) { p.Offset = 65527 }),
		"offset 65536":     with(func(p *api.Packet) { p.Offset = 65536; p.Data = "" }),
		"offset -8":        with(func(p *api.Packet) { p.Offset = -8; p.Data = bytesOf(16) }),
		"offset, Data":     with(func(p *api.Packet) { p.Offset = 65528; p.Data = bytesOf(8) }),
		"offset, far Data": with(func(p *api.Packet) { p.Offset = 32768; p.Data = bytesOf(32768) }),
		"offset 24":        with(func(p *api.Packet) { p.Offset = 24; p.Data = bytesOf(65512) }),
		"too long":         with(func(p *api.Packet) { p.Data = bytesOf(65516) }),
		"far too long":     with(func(p *api.Packet) { p.Data = bytesOf(1 << 20) }),
		"a word too long":  with(func(p *api.Packet) { p.Data = bytesOf(65512); p.Options = []api.Option{of(1, 0)} }),
		"options too long": with(func(p *api.Packet) { p.Options = []api.Option{of(9, 38), of(1, 0)} }),
		"option wrong":     with(func(p *api.Packet) { p.Options = []api.Option{of(1, 0), of(1, 1)} }),
		"option 0":         with(func(p *api.Packet) { p.Options = []api.Option{{}} }),
		"option of 39":     with(func(p *api.Packet) { p.Options = []api.Option{of(7, 39)} }),
	}
	fields := map[string]struct {
		field func(p *api.Packet) *int
		most  int
	}{
		"Tos":    {func(p *api.Packet) *int { return &p.Tos }, 255},
		"Ttl":    {func(p *api.Packet) *int { return &p.Ttl }, 255},
		"Proto":  {func(p *api.Packet) *int { return &p.Proto }, 255},
		"Id":     {func(p *api.Packet) *int { return &p.Id }, 65535},
		"Offset": {func(p *api.Packet) *int { return &p.Offset }, 65528},
	}
	for name, f := range fields {
		for how, n := range map[string]int{"-1": -1, "one more": f.most + 1, "eight more": f.most + 8, "least": math.MinInt, "most": math.MaxInt, "far more": 1 << 40, "eight less than 0": -8} {
			l[name+" "+how] = with(func(p *api.Packet) { *f.field(p) = n })
		}
	}
	return l
}

func TestP5_1Right(t *testing.T) {
	for name, p := range rights() {
		if !header.Right(p) {
			t.Errorf("Right of %s: false", name)
		}
	}
	for name, p := range wrongs() {
		if header.Right(p) {
			t.Errorf("Right of %s: true", name)
		}
	}
}

func TestP5_1EncodeWrong(t *testing.T) {
	for name, p := range wrongs() {
		if s, e := header.Encode(p); s != "" || e != api.ErrArg {
			t.Errorf("Encode of %s: %d bytes, %d; want ErrArg", name, len(s), e)
		}
	}
}

func TestP5_1Encode(t *testing.T) {
	for want, p := range map[string]api.Packet{
		"\x45\x00\x00\x16\x00\x00\x00\x00\x40\x11\x66\xd5\x0a\x00\x00\x01\x0a\x00\x00\x02ab": plain(),
		"\x45\x00\x00\x14\x00\x00\x00\x00\x00\x00\xba\xeb\x00\x00\x00\x00\x00\x00\x00\x00":   {},
		"\x46\x12\x00\x19\x34\x56\x60\x01\x07\x08\x00\x00\x01\x02\x03\x04\x05\x06\x07\x08\x01\x82\x03z!": {
			Tos: 0x12, Id: 0x3456, Df: true, Mf: true, Offset: 8, Ttl: 7, Proto: 8, Src: 0x01020304, Dst: 0x05060708,
			Options: []api.Option{{Kind: 1}, {Kind: 130, Data: "z"}}, Data: "!",
		},
		"\x46\x00\x00\x18\x00\x00\x40\x00\x00\x00\x00\x00\x00\x00\x00\x00\x00\x00\x00\x00\x01\x00\x00\x00": {Df: true, Options: []api.Option{{Kind: 1}}},
		"\x45\x00\x00\x14\x00\x00\x3f\xff\x00\x00\x00\x00\x00\x00\x00\x00\x00\x00\x00\x00":                 {Mf: true, Offset: 65528},
	} {
		want = summed(want, int(want[0]&15)*4)
		if got, e := header.Encode(p); got != want || e != api.OK {
			t.Errorf("Encode: %x, %d; want %x", got, e, want)
		}
	}
	if s := encoded(t, plain()); s[10:12] != "\x66\xd5" || len(s) != 22 {
		t.Errorf("the example: %x", s)
	}
}

func TestP5_1EncodeByPlaces(t *testing.T) {
	for name, p := range rights() {
		s := encoded(t, p)
		options, _ := option.Encode(p.Options...)
		head := 20 + len(options)
		if int(s[0]) != 64+head/4 || int(s[2])*256+int(s[3]) != len(s) || len(s) != head+len(p.Data) {
			t.Errorf("%s: %x of %d bytes", name, s[:4], len(s))
		}
		if s != summed(s, head) {
			t.Errorf("%s: another check sum: %x", name, s[:head])
		}
		if s[20:head] != options || s[head:] != p.Data {
			t.Errorf("%s: other options, or Data", name)
		}
	}
}

func TestP5_1Size(t *testing.T) {
	for name, p := range rights() {
		if n := header.Size(p); n != len(encoded(t, p)) {
			t.Errorf("Size of %s: %d", name, n)
		}
	}
	for _, c := range []struct {
		p    api.Packet
		want int
	}{
		{plain(), 22},
		{api.Packet{}, 20},
		{api.Packet{Tos: -1, Offset: math.MaxInt, Ttl: 1000, Data: bytesOf(70000)}, 70020},
		{api.Packet{Options: []api.Option{of(9, 38), of(1, 0)}, Data: "x"}, 65},
		{api.Packet{Options: []api.Option{of(1, 9), of(-3, 0)}, Data: "xyz"}, 27},
	} {
		if got := header.Size(c.p); got != c.want {
			t.Errorf("Size: %d, want %d", got, c.want)
		}
	}
}

func TestP5_1Whole(t *testing.T) {
	for _, c := range []struct {
		offset int
		mf     bool
		want   bool
	}{
		{0, false, true}, {0, true, false}, {8, false, false}, {8, true, false}, {65528, false, false}, {-8, false, false}, {1, false, false}, {math.MinInt, false, false},
	} {
		for _, df := range []bool{false, true} {
			p := with(func(p *api.Packet) { p.Offset, p.Mf, p.Df = c.offset, c.mf, df })
			if got := header.Whole(p); got != c.want {
				t.Errorf("Whole, Offset %d, Mf %v, Df %v: %v", c.offset, c.mf, df, got)
			}
		}
	}
}

func TestP5_1Same(t *testing.T) {
	base := func() api.Packet {
		return api.Packet{Tos: 1, Id: 2, Df: true, Offset: 8, Ttl: 3, Proto: 4, Src: 5, Dst: 6, Options: []api.Option{of(1, 0), of(7, 2)}, Data: "ab"}
	}
	if !header.Same(base(), base()) || !header.Same(api.Packet{}, api.Packet{Options: []api.Option{}}) {
		t.Error("Same of the same: false")
	}
	for name, change := range map[string]func(p *api.Packet){
		"Tos":          func(p *api.Packet) { p.Tos = 257 },
		"Id":           func(p *api.Packet) { p.Id = 65538 },
		"Df":           func(p *api.Packet) { p.Df = false },
		"Mf":           func(p *api.Packet) { p.Mf = true },
		"Offset":       func(p *api.Packet) { p.Offset = 9 },
		"Ttl":          func(p *api.Packet) { p.Ttl = 2 },
		"Proto":        func(p *api.Packet) { p.Proto = 17 },
		"Src":          func(p *api.Packet) { p.Src = 0 },
		"Dst":          func(p *api.Packet) { p.Dst = 5 },
		"no Options":   func(p *api.Packet) { p.Options = nil },
		"fewer":        func(p *api.Packet) { p.Options = p.Options[:1] },
		"more":         func(p *api.Packet) { p.Options = append(p.Options, of(1, 0)) },
		"another":      func(p *api.Packet) { p.Options[1].Data = "xy" },
		"another kind": func(p *api.Packet) { p.Options[1].Kind = 8 },
		"Data":         func(p *api.Packet) { p.Data = "ac" },
		"no Data":      func(p *api.Packet) { p.Data = "" },
		"longer Data":  func(p *api.Packet) { p.Data = "ab\x00" },
	} {
		p := base()
		change(&p)
		if header.Same(p, base()) || header.Same(base(), p) {
			t.Errorf("Same with another %s: true", name)
		}
	}
}

func TestP5_1WhatIsHandedInStays(t *testing.T) {
	room := append(make([]api.Option, 0, 8), of(7, 2), of(1, 0))
	before := append([]api.Option(nil), room[:8]...)
	p := with(func(p *api.Packet) { p.Options = room })
	header.Right(p)
	header.Encode(p)
	header.Size(p)
	header.Same(p, plain())
	header.Whole(p)
	if !option.Same(room[:8], before) {
		t.Errorf("%v has become %v", before, room[:8])
	}
}

// wantParse holds what Parse answers against what it must be, Lower's error too.
func wantParse(t *testing.T, name, s string, want api.Packet, e api.Errno) {
	t.Helper()
	got, gotE := header.Parse(s)
	if gotE != e || !header.Same(got, want) {
		t.Errorf("%s: Parse(%.60x), %d bytes: %x, %d; want error %d", name, s, len(s), got.Options, gotE, e)
	}
	if e == api.OK {
		return
	}
	if low, lowE := header.Lower(s); low != "" || lowE != e {
		t.Errorf("%s: Lower(%.60x): %d bytes, %d; want error %d", name, s, len(low), lowE, e)
	}
}

func TestP5_2Parse(t *testing.T) {
	for name, p := range rights() {
		wantParse(t, name, encoded(t, p), p, api.OK)
	}
	p, e := header.Parse(summed("\x47\x12\x00\x1e\x34\x56\x60\x01\x07\x08\x00\x00\x01\x02\x03\x04\x05\x06\x07\x08\x01\x82\x03z\x00\x00\x00\x00!?", 28))
	want := api.Packet{Tos: 0x12, Id: 0x3456, Df: true, Mf: true, Offset: 8, Ttl: 7, Proto: 8, Src: 0x01020304, Dst: 0x05060708,
		Options: []api.Option{{Kind: 1}, {Kind: 130, Data: "z"}}, Data: "!?"}
	if e != api.OK || !header.Same(p, want) {
		t.Errorf("Parse: %v, %d; want %v", p, e, want)
	}
}

func TestP5_2ParseErrors(t *testing.T) {
	s := encoded(t, with(func(p *api.Packet) { p.Options = []api.Option{{Kind: 1}, {Kind: 130, Data: "zz"}}; p.Data = "abcdefgh" })) // 28 and 8 bytes
	words := func(n int) int { return 64 + n }
	for name, c := range map[string]struct {
		s string
		e api.Errno
	}{
		"nothing":                      {"", api.ErrShort},
		"19 bytes":                     {s[:19], api.ErrShort},
		"19 bytes of another version":  {setByte(s, 0, 0)[:19], api.ErrShort},
		"19 bytes of noughts":          {strings.Repeat("\x00", 19), api.ErrShort},
		"20 bytes of noughts":          {strings.Repeat("\x00", 20), api.ErrForm},
		"version 5":                    {summed(setByte(s, 0, 0x57), 28), api.ErrForm},
		"version 6":                    {summed(setByte(s, 0, 0x67), 28), api.ErrForm},
		"version 0":                    {summed(setByte(s, 0, 0x07), 28), api.ErrForm},
		"version 12":                   {summed(setByte(s, 0, 0xc7), 28), api.ErrForm},
		"4 words":                      {summed(setByte(s, 0, words(4)), 16), api.ErrForm},
		"no words":                     {setByte(s, 0, words(0)), api.ErrForm},
		"the highest bit":              {summed(setByte(s, 6, 0x80), 28), api.ErrForm},
		"the highest bit, Df, Mf":      {summed(setByte(s, 6, 0xe0), 28), api.ErrForm},
		"version ahead of the header":  {setByte(s, 0, 0x5f)[:30], api.ErrForm},
		"highest bit ahead of it":      {setByte(setByte(s, 0, words(15)), 6, 0x80), api.ErrForm},
		"header of more than there is": {setByte(s, 0, words(10)), api.ErrShort},
		"27 bytes":                     {s[:27], api.ErrShort},
		"27 bytes of too few in all":   {setShort(s, 2, 20)[:27], api.ErrShort},
		"20 in all":                    {summed(setShort(s, 2, 20), 28), api.ErrForm},
		"27 in all":                    {summed(setShort(s, 2, 27), 28), api.ErrForm},
		"0 in all":                     {summed(setShort(s, 2, 0), 28), api.ErrForm},
		"28 in all":                    {summed(setShort(s, 2, 28), 28), api.ErrLong},
		"35 of 36 in all":              {summed(setShort(s, 2, 35), 28), api.ErrLong},
		"37 of 36 in all":              {summed(setShort(s, 2, 37), 28), api.ErrShort},
		"65535 of 36 in all":           {summed(setShort(s, 2, 65535), 28), api.ErrShort},
		"a byte less":                  {s[:35], api.ErrShort},
		"a byte less, a wrong sum":     {setByte(s, 11, int(s[11])+1)[:35], api.ErrShort},
		"a byte more":                  {s + "x", api.ErrLong},
		"a byte more, a wrong sum":     {setByte(s, 11, int(s[11])+1) + "x", api.ErrLong},
		"very many more":               {s + bytesOf(70000), api.ErrLong},
		"a wrong sum":                  {setByte(s, 11, int(s[11])+1), api.ErrSum},
		"a wrong sum, a wrong option":  {setByte(s, 21, 0), api.ErrSum},
		"another byte of an option":    {setByte(s, 23, int(s[23])+1), api.ErrSum},
		"another Ttl":                  {setByte(s, 8, 65), api.ErrSum},
		"an option of length 0":        {summed(setByte(s, 22, 0), 28), api.ErrForm},
		"an option of length 8":        {summed(setByte(s, 22, 8), 28), api.ErrShort},
		"an option behind the end":     {summed(setByte(s, 20, 0), 28), api.ErrForm},
		"a byte behind the 0s":         {summed(setByte(s, 27, 7), 28), api.ErrForm},
		"options ahead of Offset":      {summed(setShort(setByte(s, 22, 8), 6, 8191), 28), api.ErrShort},
		"Offset and Data too much":     {summed(setShort(s, 6, 8191), 28), api.ErrForm},
		"with Mf":                      {summed(setShort(s, 6, 8192+8191), 28), api.ErrForm},
	} {
		wantParse(t, name, c.s, api.Packet{}, c.e)
	}
	wantParse(t, "an option without a length", summed(setByte(encoded(t, with(func(p *api.Packet) { p.Options = []api.Option{of(1, 0), of(1, 0), of(1, 0), of(1, 0)} })), 23, 7), 24), api.Packet{}, api.ErrShort)
}

func TestP5_2OffsetAndData(t *testing.T) {
	for _, c := range []struct {
		units, size int
		e           api.Errno
	}{
		{8191, 7, api.OK}, {8191, 8, api.ErrForm}, {8191, 0, api.OK}, {8190, 15, api.OK}, {8190, 16, api.ErrForm}, {2, 65515, api.OK}, {3, 65511, api.OK}, {3, 65512, api.ErrForm}, {4096, 32767, api.OK}, {4096, 32768, api.ErrForm},
	} {
		s := encoded(t, with(func(p *api.Packet) { p.Data = bytesOf(c.size) }))
		want := api.Packet{}
		if c.e == api.OK {
			want = with(func(p *api.Packet) { p.Data = bytesOf(c.size); p.Offset = 8 * c.units })
		}
		wantParse(t, "Offset and Data", summed(setShort(s, 6, c.units), 20), want, c.e)
	}
}

// modelParse is Parse by the document's words, its options read by layer 4.
func modelParse(s string) (api.Packet, api.Errno) {
	at := func(i int) int { return int(s[i]) }
	short := func(i int) int { return at(i)*256 + at(i+1) }
	word := func(i int) uint32 { return uint32(short(i))*65536 + uint32(short(i+2)) }
	if len(s) < 20 {
		return api.Packet{}, api.ErrShort
	}
	if at(0)/16 != 4 || at(0)%16 < 5 || short(6) >= 32768 {
		return api.Packet{}, api.ErrForm
	}
	head := at(0) % 16 * 4
	if len(s) < head {
		return api.Packet{}, api.ErrShort
	}
	if short(2) < head {
		return api.Packet{}, api.ErrForm
	}
	if len(s) < short(2) {
		return api.Packet{}, api.ErrShort
	}
	if len(s) > short(2) {
		return api.Packet{}, api.ErrLong
	}
	if (checkSum(s[:head])-short(10))%65535 != 0 {
		return api.Packet{}, api.ErrSum
	}
	l, e := option.Parse(s[20:head])
	if e != api.OK {
		return api.Packet{}, e
	}
	if short(6)%8192*8+len(s)-head > 65535 {
		return api.Packet{}, api.ErrForm
	}
	return api.Packet{
		Tos: at(1), Id: short(4), Df: short(6)/16384 == 1, Mf: short(6)/8192%2 == 1, Offset: short(6) % 8192 * 8,
		Ttl: at(8), Proto: at(9), Src: word(12), Dst: word(16), Options: l, Data: s[head:],
	}, api.OK
}

// spoilt is some packet's bytes, or nearly so.
func spoilt(rnd *rand.Rand) string {
	b := make([]byte, rnd.Intn(90))
	rnd.Read(b)
	for i := 20; i < min(len(b), 60); i++ {
		b[i] = byte(rnd.Intn(7))
	}
	if len(b) < 20 {
		return string(b)
	}
	some := func() bool { return rnd.Intn(12) == 0 }
	words := 5 + rnd.Intn(min(11, len(b)/4-4))
	if some() {
		words = rnd.Intn(16)
	}
	b[0], b[2], b[3] = byte(64+words), 0, byte(len(b))
	if some() {
		b[0] ^= 1 << (4 + rnd.Intn(4))
	}
	if some() {
		b[3] = byte(rnd.Intn(90))
	}
	if !some() {
		b[6] &= 127
	}
	if rnd.Intn(4) == 0 {
		b[6], b[7] = b[6]|31, 255
	}
	if head := max(words, 5) * 4; !some() && head <= len(b) {
		return summed(string(b), head)
	}
	return string(b)
}

func TestP5_2ParseAnyBytes(t *testing.T) {
	rnd := rand.New(rand.NewSource(52))
	met := map[api.Errno]int{}
	for range 60000 {
		s := spoilt(rnd)
		p, e := modelParse(s)
		wantParse(t, "any bytes", s, p, e)
		met[e]++
	}
	for _, e := range []api.Errno{api.OK, api.ErrShort, api.ErrForm, api.ErrSum, api.ErrLong} {
		if met[e] < 100 {
			t.Errorf("error %d was met %d times only", e, met[e])
		}
	}
}

func TestP5_2ParseIsNewMemory(t *testing.T) {
	s := encoded(t, with(func(p *api.Packet) { p.Options = []api.Option{of(7, 2), of(1, 0)} }))
	a, _ := header.Parse(s)
	b, _ := header.Parse(s)
	a.Options[0] = of(9, 0)
	if b.Options[0] != of(7, 2) {
		t.Error("two answers share their options")
	}
}

func TestP5_3Lower(t *testing.T) {
	for ttl := 1; ttl <= 255; ttl++ {
		p := with(func(p *api.Packet) { p.Ttl = ttl; p.Options = []api.Option{of(7, 2)}; p.Data = "abc" })
		s := encoded(t, p)
		p.Ttl--
		if got, e := header.Lower(s); e != api.OK || got != encoded(t, p) {
			t.Errorf("Lower with Ttl %d: %x, %d", ttl, got, e)
		}
	}
	for name, p := range rights() {
		s := encoded(t, p)
		got, e := header.Lower(s)
		if p.Ttl == 0 {
			if got != "" || e != api.ErrLive {
				t.Errorf("Lower of %s: %x, %d; want ErrLive", name, got, e)
			}
			continue
		}
		p.Ttl--
		if e != api.OK || got != encoded(t, p) {
			t.Errorf("Lower of %s: %d", name, e)
		}
	}
}

// An error of Parse is told ahead of a Ttl that has come to its end.
func TestP5_3LowerErrors(t *testing.T) {
	s := encoded(t, with(func(p *api.Packet) { p.Ttl = 0; p.Options = []api.Option{of(7, 2)} }))
	for name, c := range map[string]struct {
		s string
		e api.Errno
	}{
		"Ttl 0":         {s, api.ErrLive},
		"nothing":       {"", api.ErrShort},
		"version":       {setByte(s, 0, 0x56), api.ErrForm},
		"a byte less":   {s[:len(s)-1], api.ErrShort},
		"a byte more":   {s + "x", api.ErrLong},
		"a wrong sum":   {setByte(s, 11, int(s[11])+1), api.ErrSum},
		"an option":     {summed(setByte(s, 21, 1), 24), api.ErrForm},
		"a long option": {summed(setByte(s, 21, 5), 24), api.ErrShort},
	} {
		if got, e := header.Lower(c.s); got != "" || e != c.e {
			t.Errorf("Lower, %s: %x, %d; want %d", name, got, e, c.e)
		}
	}
}

// What Encode would write otherwise stays as it is: options that end by more 0s than they need.
func TestP5_3LowerLeavesOtherBytes(t *testing.T) {
	s := summed("\x47\x00\x00\x1e\x00\x00\x00\x00\x05\x11\x00\x00\x0a\x00\x00\x01\x0a\x00\x00\x02\x01\x00\x00\x00\x00\x00\x00\x00ab", 28)
	if got, e := header.Lower(s); e != api.OK || got != summed(setByte(s, 8, 4), 28) {
		t.Errorf("Lower: %x, %d", got, e)
	}
}

// A header whose check sum is 0 is good with 65535 in its place, too.
func TestP5_3LowerOfEitherNought(t *testing.T) {
	s := encoded(t, plain())
	s = setShort(s, 4, checkSum(s[:20])) // the Id takes up what the check sum was
	if checkSum(s[:20]) != 0 {
		t.Fatalf("no check sum of 0: %x", s)
	}
	for _, n := range []int{0, 65535} {
		if got, e := header.Lower(setShort(s, 10, n)); e != api.OK || got != summed(setByte(s, 8, 63), 20) {
			t.Errorf("Lower with the check sum %d: %x, %d", n, got, e)
		}
	}
}

// A header whose check sum gets 0 by it has that, and not 65535.
func TestP5_3LowerToNought(t *testing.T) {
	s := encoded(t, with(func(p *api.Packet) { p.Ttl = 63 }))
	s = summed(setByte(setShort(s, 4, checkSum(s[:20])), 8, 64), 20)
	if got, e := header.Lower(s); e != api.OK || got[10:12] != "\x00\x00" {
		t.Errorf("Lower: %x, %d", got, e)
	}
}

func TestP5_3LowerOfAnyBytes(t *testing.T) {
	rnd := rand.New(rand.NewSource(53))
	lowered := 0
	for range 30000 {
		s := spoilt(rnd)
		p, e := modelParse(s)
		if e != api.OK || p.Ttl == 0 {
			continue
		}
		lowered++
		if got, e := header.Lower(s); e != api.OK || got != summed(setByte(s, 8, p.Ttl-1), int(s[0]&15)*4) {
			t.Errorf("Lower(%x): %x, %d", s, got, e)
		}
	}
	if lowered < 100 {
		t.Errorf("%d were lowered only", lowered)
	}
}

// somePacket is a right one.
func somePacket(rnd *rand.Rand) api.Packet {
	data := make([]byte, rnd.Intn(50))
	rnd.Read(data)
	p := api.Packet{
		Tos: rnd.Intn(256), Id: rnd.Intn(65536), Df: rnd.Intn(2) == 0, Mf: rnd.Intn(2) == 0, Offset: 8 * rnd.Intn(8185),
		Ttl: rnd.Intn(256), Proto: rnd.Intn(256), Src: rnd.Uint32(), Dst: rnd.Uint32(), Data: string(data),
	}
	for range rnd.Intn(4) {
		o := of(2+rnd.Intn(254), rnd.Intn(10))
		if rnd.Intn(3) == 0 {
			o = of(1, 0)
		}
		p.Options = append(p.Options, o)
	}
	return p
}

func TestP5_4WhatIsEncodedIsReadAsItWas(t *testing.T) {
	rnd := rand.New(rand.NewSource(54))
	for range 20000 {
		p := somePacket(rnd)
		s := encoded(t, p)
		if n := header.Size(p); !header.Right(p) || n != len(s) {
			t.Errorf("Right: %v; Size: %d, want %d", header.Right(p), n, len(s))
		}
		wantParse(t, "some", s, p, api.OK)
		low, e := header.Lower(s)
		if p.Ttl == 0 {
			if low != "" || e != api.ErrLive {
				t.Errorf("Lower: %x, %d; want ErrLive", low, e)
			}
			continue
		}
		p.Ttl--
		wantParse(t, "lowered", low, p, api.OK)
	}
}
