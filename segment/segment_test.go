package segment_test

import (
	"math"
	"math/rand"
	"strings"
	"testing"

	"guerite/api"
	"guerite/segment"
)

const (
	src = 0x0a000001
	dst = 0x0a010002
)

func bytesOf(n int) string {
	return strings.Repeat("x", n)
}

// syn is the document's TCP example.
func syn() api.Segment {
	return api.Segment{Sport: 1024, Dport: 80, Seq: 0x01020304, Flags: segment.Syn, Window: 512}
}

// said is the document's UDP example.
func said() api.Segment {
	return api.Segment{Sport: 1024, Dport: 53, Data: "ab"}
}

func with(s api.Segment, change func(s *api.Segment)) api.Segment {
	change(&s)
	return s
}

// folded is the sum of shorts with carries brought round, by layer 2's words.
func folded(s string) int {
	total := 0
	for i := range len(s) {
		if i%2 == 0 {
			total += int(s[i]) * 256
		} else {
			total += int(s[i])
		}
	}
	if total%65535 == 0 && total != 0 {
		return 65535
	}
	return total % 65535
}

func short(n int) string {
	return string([]byte{byte(n >> 8), byte(n)})
}

func word(n uint32) string {
	return short(int(n>>16)) + short(int(n&65535))
}

// pseudo is what stands ahead of a segment of so many bytes, by the document's words.
func pseudo(proto int, src, dst uint32, size int) string {
	return word(src) + word(dst) + "\x00" + string([]byte{byte(proto)}) + short(size)
}

func place(proto int) int {
	if proto == segment.Tcp {
		return 16
	}
	return 6
}

func setByte(s string, at, b int) string {
	return s[:at] + string([]byte{byte(b)}) + s[at+1:]
}

func setShort(s string, at, n int) string {
	return s[:at] + short(n) + s[at+2:]
}

// summed is bytes with their check sum.
func summed(proto int, src, dst uint32, s string) string {
	at := place(proto)
	s = setShort(s, at, 0)
	n := 65535 - folded(pseudo(proto, src, dst, len(s))+s)
	if proto == segment.Udp && n == 0 {
		n = 65535
	}
	return setShort(s, at, n)
}

// modelBytes is a right segment's bytes by the document's words.
func modelBytes(proto int, src, dst uint32, s api.Segment) string {
	b := short(s.Sport) + short(s.Dport)
	if proto == segment.Tcp {
		b += word(s.Seq) + word(s.Ack) + short(20480+s.Flags) + short(s.Window) + short(0) + short(0)
	} else {
		b += short(8+len(s.Data)) + short(0)
	}
	return summed(proto, src, dst, b+s.Data)
}

func encoded(t *testing.T, proto int, s api.Segment) string {
	t.Helper()
	b, e := segment.Encode(proto, src, dst, s)
	if e != api.OK {
		t.Fatalf("Encode: %d", e)
	}
	return b
}

type kase struct {
	proto int
	s     api.Segment
}

func rights() map[string]kase {
	most := api.Segment{Sport: 65535, Dport: 65535, Seq: math.MaxUint32, Ack: math.MaxUint32, Flags: 63, Window: 65535}
	return map[string]kase{
		"TCP example":     {6, syn()},
		"UDP example":     {17, said()},
		"TCP zero":        {6, api.Segment{}},
		"UDP zero":        {17, api.Segment{}},
		"TCP most":        {6, most},
		"TCP longest":     {6, with(most, func(s *api.Segment) { s.Data = bytesOf(65495) })},
		"UDP most":        {17, api.Segment{Sport: 65535, Dport: 65535}},
		"UDP longest":     {17, api.Segment{Data: bytesOf(65507)}},
		"TCP odd Data":    {6, with(syn(), func(s *api.Segment) { s.Data = "abc" })},
		"UDP odd Data":    {17, with(said(), func(s *api.Segment) { s.Data = "abc" })},
		"TCP all flags":   {6, with(syn(), func(s *api.Segment) { s.Flags = 63 })},
		"TCP ports alike": {6, api.Segment{Sport: 7, Dport: 7, Data: "\x00"}},
	}
}

func wrongs() map[string]kase {
	l := map[string]kase{
		"TCP too long":     {6, with(syn(), func(s *api.Segment) { s.Data = bytesOf(65496) })},
		"TCP far too long": {6, with(syn(), func(s *api.Segment) { s.Data = bytesOf(1 << 18) })},
		"UDP too long":     {17, with(said(), func(s *api.Segment) { s.Data = bytesOf(65508) })},
		"UDP Seq":          {17, with(said(), func(s *api.Segment) { s.Seq = 1 })},
		"UDP high Seq":     {17, with(said(), func(s *api.Segment) { s.Seq = 1 << 31 })},
		"UDP Ack":          {17, with(said(), func(s *api.Segment) { s.Ack = 1 })},
		"UDP Flags":        {17, with(said(), func(s *api.Segment) { s.Flags = 1 })},
		"UDP Flags -1":     {17, with(said(), func(s *api.Segment) { s.Flags = -1 })},
		"UDP Window":       {17, with(said(), func(s *api.Segment) { s.Window = 1 })},
		"UDP Window -1":    {17, with(said(), func(s *api.Segment) { s.Window = -1 })},
	}
	fields := map[string]struct {
		field func(s *api.Segment) *int
		most  int
	}{
		"Sport":  {func(s *api.Segment) *int { return &s.Sport }, 65535},
		"Dport":  {func(s *api.Segment) *int { return &s.Dport }, 65535},
		"Flags":  {func(s *api.Segment) *int { return &s.Flags }, 63},
		"Window": {func(s *api.Segment) *int { return &s.Window }, 65535},
	}
	for name, f := range fields {
		for how, n := range map[string]int{" -1": -1, " one more": f.most + 1, " least": math.MinInt, " most": math.MaxInt, " far more": 1 << 40} {
			l["TCP "+name+how] = kase{6, with(syn(), func(s *api.Segment) { *f.field(s) = n })}
			l["UDP "+name+how] = kase{17, with(said(), func(s *api.Segment) { *f.field(s) = n })}
		}
	}
	for _, proto := range others() {
		l["another protocol"+string(rune('A'+len(l)))] = kase{proto, api.Segment{}}
	}
	return l
}

// others is protocols that are neither.
func others() []int {
	return []int{-1, 0, 1, 5, 7, 16, 18, 255, 256 + 6, 256 + 17, 65536 + 6, -6, -17, 1<<32 + 6, 1<<32 + 17, math.MinInt, math.MaxInt}
}

func TestP6_1Flags(t *testing.T) {
	if segment.Tcp != 6 || segment.Udp != 17 {
		t.Error("the protocols")
	}
	for i, f := range []int{segment.Fin, segment.Syn, segment.Rst, segment.Push, segment.Ack, segment.Urgent} {
		if f != 1<<i {
			t.Errorf("flag %d: %d", i, f)
		}
	}
}

func TestP6_1Right(t *testing.T) {
	for name, c := range rights() {
		if !segment.Right(c.proto, c.s) {
			t.Errorf("Right of %s: false", name)
		}
	}
	for name, c := range wrongs() {
		if segment.Right(c.proto, c.s) {
			t.Errorf("Right of %s: true", name)
		}
	}
	for _, proto := range others() {
		if segment.Right(proto, syn()) || segment.Right(proto, said()) {
			t.Errorf("Right of protocol %d: true", proto)
		}
	}
	if segment.Right(segment.Udp, syn()) {
		t.Error("Right of a SYN as UDP: true")
	}
}

func TestP6_1Encode(t *testing.T) {
	for name, c := range rights() {
		got, e := segment.Encode(c.proto, src, dst, c.s)
		if want := modelBytes(c.proto, src, dst, c.s); e != api.OK || got != want {
			t.Errorf("Encode of %s: %d, other bytes", name, e)
		}
	}
	for want, c := range map[string]kase{
		"\x04\x00\x00\x50\x01\x02\x03\x04\x00\x00\x00\x00\x50\x02\x02\x00\x91\x89\x00\x00": {6, syn()},
		"\x04\x00\x00\x35\x00\x0a\x86\x3f" + "ab":                                          {17, said()},
	} {
		if got, e := segment.Encode(c.proto, src, dst, c.s); e != api.OK || got != want {
			t.Errorf("Encode: %x, want %x", got, want)
		}
	}
}

func TestP6_1EncodeWrong(t *testing.T) {
	for name, c := range wrongs() {
		if b, e := segment.Encode(c.proto, src, dst, c.s); b != "" || e != api.ErrArg {
			t.Errorf("Encode of %s: %d bytes, %d; want ErrArg", name, len(b), e)
		}
	}
}

// TestP6_1SumOfZero: the Data is chosen so that the check sum would be 0.
func TestP6_1SumOfZero(t *testing.T) {
	for _, c := range []kase{{17, api.Segment{Sport: 9, Data: "\x00\x00"}}, {6, api.Segment{Sport: 9, Data: "\x00\x00"}}} {
		b := modelBytes(c.proto, src, dst, c.s)
		at := place(c.proto)
		c.s.Data = b[at : at+2]
		got := encoded(t, c.proto, c.s)
		want := "\x00\x00"
		if c.proto == segment.Udp {
			want = "\xff\xff"
		}
		if got[at:at+2] != want {
			t.Errorf("protocol %d: check sum %x, want %x", c.proto, got[at:at+2], want)
		}
		if x, e := segment.Parse(c.proto, src, dst, got); e != api.OK || x != c.s {
			t.Errorf("protocol %d: Parse: %x, %d", c.proto, x, e)
		}
	}
}

func wantParse(t *testing.T, name string, proto int, b string, want api.Segment, e api.Errno) {
	t.Helper()
	if got, f := segment.Parse(proto, src, dst, b); got != want || f != e {
		t.Fatalf("Parse of %s: %x, %d; want %x, %d (protocol %d, %d bytes)", name, got, f, want, e, proto, len(b))
	}
}

func TestP6_2ParseOtherProtocol(t *testing.T) {
	b := encoded(t, 6, syn())
	for _, proto := range others() {
		wantParse(t, "another protocol", proto, b, api.Segment{}, api.ErrArg)
		wantParse(t, "another protocol, no bytes", proto, "", api.Segment{}, api.ErrArg)
	}
}

func TestP6_2ParseTcp(t *testing.T) {
	s := with(syn(), func(s *api.Segment) { s.Ack, s.Data = 0xfffefdfc, "abcdefgh" })
	b := encoded(t, 6, s)
	again := func(b string) string { return summed(6, src, dst, b) }
	data := func(d string) api.Segment { return with(s, func(s *api.Segment) { s.Data = d }) }
	for name, c := range map[string]struct {
		b    string
		want api.Segment
		e    api.Errno
	}{
		"itself":                     {b, s, api.OK},
		"no bytes":                   {"", api.Segment{}, api.ErrShort},
		"19 bytes":                   {b[:19], api.Segment{}, api.ErrShort},
		"19 bytes of 4 words":        {setByte(b, 12, 0x40)[:19], api.Segment{}, api.ErrShort},
		"20 bytes":                   {again(b[:20]), data(""), api.OK},
		"4 words":                    {again(setByte(b, 12, 0x4f)), api.Segment{}, api.ErrForm},
		"0 words":                    {again(setByte(b, 12, 0)), api.Segment{}, api.ErrForm},
		"4 words, a wrong sum":       {setByte(b, 12, 0x40), api.Segment{}, api.ErrForm},
		"6 words":                    {again(setByte(b, 12, 0x60)), data("efgh"), api.OK},
		"7 words, all of them":       {again(setByte(b, 12, 0x70)), data(""), api.OK},
		"8 words":                    {again(setByte(b, 12, 0x80)), api.Segment{}, api.ErrShort},
		"15 words":                   {again(setByte(b, 12, 0xf0)), api.Segment{}, api.ErrShort},
		"8 words, a wrong sum":       {setByte(b, 12, 0x80), api.Segment{}, api.ErrShort},
		"6 words, 23 bytes":          {again(setByte(b[:23], 12, 0x60)), api.Segment{}, api.ErrShort},
		"the bits behind the words":  {again(setByte(b, 12, 0x5f)), s, api.OK},
		"all bits at Flags":          {again(setByte(b, 13, 0xff)), with(s, func(s *api.Segment) { s.Flags = 63 }), api.OK},
		"bits above Flags":           {again(setByte(b, 13, 0xc0)), with(s, func(s *api.Segment) { s.Flags = 0 }), api.OK},
		"urgent":                     {again(setShort(b, 18, 7)), s, api.OK},
		"a wrong sum":                {setByte(b, 17, int(b[17])+1), api.Segment{}, api.ErrSum},
		"a check sum of 0":           {setShort(b, 16, 0), api.Segment{}, api.ErrSum},
		"another byte of Data":       {setByte(b, 27, 'x'), api.Segment{}, api.ErrSum},
		"a byte less":                {b[:27], api.Segment{}, api.ErrSum},
		"a 0 more":                   {b + "\x00", api.Segment{}, api.ErrSum},
		"an option, another of them": {setByte(again(setByte(b, 12, 0x60)), 20, 'x'), api.Segment{}, api.ErrSum},
	} {
		wantParse(t, name, 6, c.b, c.want, c.e)
	}
}

func TestP6_2ParseUdp(t *testing.T) {
	s := with(said(), func(s *api.Segment) { s.Data = "abcdefgh" })
	b := encoded(t, 17, s)
	again := func(b string) string { return summed(17, src, dst, b) }
	for name, c := range map[string]struct {
		b    string
		want api.Segment
		e    api.Errno
	}{
		"itself":                       {b, s, api.OK},
		"no bytes":                     {"", api.Segment{}, api.ErrShort},
		"7 bytes":                      {b[:7], api.Segment{}, api.ErrShort},
		"7 bytes that say 0":           {setShort(b, 4, 0)[:7], api.Segment{}, api.ErrShort},
		"it says 7":                    {again(setShort(b, 4, 7)), api.Segment{}, api.ErrForm},
		"it says 0":                    {again(setShort(b, 4, 0)), api.Segment{}, api.ErrForm},
		"it says 8":                    {again(setShort(b, 4, 8)), api.Segment{}, api.ErrLong},
		"it says 15":                   {again(setShort(b, 4, 15)), api.Segment{}, api.ErrLong},
		"it says 17":                   {again(setShort(b, 4, 17)), api.Segment{}, api.ErrShort},
		"it says 65535":                {again(setShort(b, 4, 65535)), api.Segment{}, api.ErrShort},
		"a byte less, a wrong sum":     {b[:15], api.Segment{}, api.ErrShort},
		"a byte more, a wrong sum":     {b + "x", api.Segment{}, api.ErrLong},
		"very many more":               {b + bytesOf(70000), api.Segment{}, api.ErrLong},
		"65536 more":                   {b + bytesOf(65536), api.Segment{}, api.ErrLong},
		"a byte more, a check sum 0":   {setShort(b, 6, 0) + "x", api.Segment{}, api.ErrLong},
		"no check sum":                 {setShort(b, 6, 0), s, api.OK},
		"no check sum, another Data":   {setByte(setShort(b, 6, 0), 15, 'x'), with(s, func(s *api.Segment) { s.Data = "abcdefgx" }), api.OK},
		"a wrong sum":                  {setByte(b, 7, int(b[7])+1), api.Segment{}, api.ErrSum},
		"a check sum of 1":             {setShort(b, 6, 1), api.Segment{}, api.ErrSum},
		"a check sum whose low byte 1": {setByte(b, 7, 1), api.Segment{}, api.ErrSum},
		"another byte of Data":         {setByte(b, 15, 'x'), api.Segment{}, api.ErrSum},
		"ports change places":          {b[2:4] + b[:2] + b[4:], with(s, func(s *api.Segment) { s.Sport, s.Dport = s.Dport, s.Sport }), api.OK},
		"8 bytes":                      {again("\x00\x01\x00\x02\x00\x08\x00\x00"), api.Segment{Sport: 1, Dport: 2}, api.OK},
		"zeros that say 8, no sum":     {"\x00\x00\x00\x00\x00\x08\x00\x00", api.Segment{}, api.OK},
	} {
		wantParse(t, name, 17, c.b, c.want, c.e)
	}
}

// TestP6_2PseudoBytes: each part of the pseudo bytes is asked for.
func TestP6_2PseudoBytes(t *testing.T) {
	for _, c := range []kase{{6, syn()}, {17, said()}} {
		b := encoded(t, c.proto, c.s)
		for i := range 32 {
			if x, e := segment.Parse(c.proto, src^1<<i, dst, b); e != api.ErrSum || x != (api.Segment{}) {
				t.Errorf("another source: %d", e)
			}
			if x, e := segment.Parse(c.proto, src, dst^1<<i, b); e != api.ErrSum || x != (api.Segment{}) {
				t.Errorf("another destination: %d", e)
			}
		}
	}
}

// TestP6_2ParseVeryLong: no text of the document says that TCP's bytes may be too many; their number is told by its two lowest bytes.
func TestP6_2ParseVeryLong(t *testing.T) {
	s := with(syn(), func(s *api.Segment) { s.Data = bytesOf(65536 + 100) })
	b := modelBytes(6, src, dst, s)
	wantParse(t, "very many bytes", 6, b, s, api.OK)
	wantParse(t, "very many bytes, one more", 6, b+"x", api.Segment{}, api.ErrSum)
}

// modelParse is Parse by the document's words.
func modelParse(proto int, b string) (api.Segment, api.Errno) {
	least := map[int]int{6: 20, 17: 8}[proto]
	none := api.Segment{}
	at := func(i int) int { return int(b[i]) }
	two := func(i int) int { return at(i)*256 + at(i+1) }
	four := func(i int) uint32 { return uint32(two(i))*65536 + uint32(two(i+2)) }
	good := func() bool { return folded(pseudo(proto, src, dst, len(b))+b) == 65535 }
	if least == 0 {
		return none, api.ErrArg
	}
	if len(b) < least {
		return none, api.ErrShort
	}
	if proto == 17 {
		switch {
		case two(4) < 8:
			return none, api.ErrForm
		case len(b) < two(4):
			return none, api.ErrShort
		case len(b) > two(4):
			return none, api.ErrLong
		case two(6) != 0 && !good():
			return none, api.ErrSum
		}
		return api.Segment{Sport: two(0), Dport: two(2), Data: b[8:]}, api.OK
	}
	head := at(12) / 16 * 4
	switch {
	case head < 20:
		return none, api.ErrForm
	case len(b) < head:
		return none, api.ErrShort
	case !good():
		return none, api.ErrSum
	}
	return api.Segment{Sport: two(0), Dport: two(2), Seq: four(4), Ack: four(8), Flags: at(13) % 64, Window: two(14), Data: b[head:]}, api.OK
}

// spoilt is some segment's bytes, or nearly so.
func spoilt(rnd *rand.Rand, proto int) string {
	b := make([]byte, rnd.Intn(70))
	rnd.Read(b)
	some := func() bool { return rnd.Intn(8) == 0 }
	if proto == 17 && len(b) >= 8 && !some() {
		b[4], b[5] = 0, byte(len(b))
	}
	if proto == 17 && len(b) >= 8 && rnd.Intn(4) == 0 {
		b[4], b[5] = 0, byte(rnd.Intn(70))
	}
	if proto == 6 && len(b) >= 20 && !some() {
		b[12] = byte(b[12]&15) | byte(16*(5+rnd.Intn(5)))
	}
	if len(b) >= place(proto)+2 && !some() {
		return summed(proto, src, dst, string(b))
	}
	if len(b) >= 8 && some() {
		b[6], b[7] = 0, 0
	}
	return string(b)
}

func TestP6_2ParseAnyBytes(t *testing.T) {
	rnd := rand.New(rand.NewSource(62))
	met := map[[2]int]int{}
	for range 60000 {
		proto := [...]int{6, 17, 6, 17, 1}[rnd.Intn(5)]
		b := spoilt(rnd, proto)
		s, e := modelParse(proto, b)
		wantParse(t, "any bytes", proto, b, s, e)
		met[[2]int{proto, int(e)}]++
	}
	for _, c := range []struct {
		proto int
		e     api.Errno
	}{{6, api.OK}, {6, api.ErrShort}, {6, api.ErrForm}, {6, api.ErrSum}, {17, api.OK}, {17, api.ErrShort}, {17, api.ErrForm}, {17, api.ErrLong}, {17, api.ErrSum}, {1, api.ErrArg}} {
		if met[[2]int{c.proto, int(c.e)}] < 100 {
			t.Errorf("protocol %d: error %d was met %d times only", c.proto, c.e, met[[2]int{c.proto, int(c.e)}])
		}
	}
}

func TestP6_3Ports(t *testing.T) {
	b := "\xff\xfe\x00\x50\x01\x02\x03\x04\x05"
	for _, proto := range []int{6, 17} {
		for n := range len(b) + 1 {
			x, y, ok := segment.Ports(proto, b[:n])
			if n < 8 && (x != 0 || y != 0 || ok) {
				t.Errorf("Ports of %d bytes: %d, %d, %v", n, x, y, ok)
			}
			if n >= 8 && (x != 65534 || y != 80 || !ok) {
				t.Errorf("Ports of %d bytes: %d, %d, %v", n, x, y, ok)
			}
		}
		if x, y, ok := segment.Ports(proto, bytesOf(70000)); x != 0x7878 || y != 0x7878 || !ok {
			t.Errorf("Ports of very many bytes: %d, %d, %v", x, y, ok)
		}
	}
	for _, proto := range others() {
		if x, y, ok := segment.Ports(proto, b); x != 0 || y != 0 || ok {
			t.Errorf("Ports of protocol %d: %d, %d, %v", proto, x, y, ok)
		}
	}
}

func TestP6_4ReadAsItWas(t *testing.T) {
	for name, c := range rights() {
		wantParse(t, name, c.proto, encoded(t, c.proto, c.s), c.s, api.OK)
	}
	rnd := rand.New(rand.NewSource(64))
	for range 20000 {
		d := make([]byte, rnd.Intn(40))
		rnd.Read(d)
		s := api.Segment{Sport: rnd.Intn(65536), Dport: rnd.Intn(65536), Data: string(d)}
		proto, a, b := 17, rnd.Uint32(), rnd.Uint32()
		if rnd.Intn(2) == 0 {
			proto, s.Seq, s.Ack, s.Flags, s.Window = 6, rnd.Uint32(), rnd.Uint32(), rnd.Intn(64), rnd.Intn(65536)
		}
		all, e := segment.Encode(proto, a, b, s)
		x, f := segment.Parse(proto, a, b, all)
		if e != api.OK || f != api.OK || x != s || all != modelBytes(proto, a, b, s) {
			t.Fatalf("%x of protocol %d: %x, %d, %d", s, proto, x, e, f)
		}
		if p, q, ok := segment.Ports(proto, all); !ok || p != s.Sport || q != s.Dport {
			t.Fatalf("Ports of %x: %d, %d, %v", all, p, q, ok)
		}
	}
}
