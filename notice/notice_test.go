package notice_test

import (
	"math"
	"math/rand"
	"strings"
	"testing"

	"guerite/api"
	"guerite/header"
	"guerite/notice"
	"guerite/segment"
)

// echo is the document's example.
func echo() api.Notice {
	return api.Notice{Type: 8, Word: 0x00050001}
}

func with(change func(n *api.Notice)) api.Notice {
	n := echo()
	change(&n)
	return n
}

func bytesOf(n int) string {
	return strings.Repeat("x", n)
}

// folded is the sum of shorts with carries brought round, by layer 2's words.
func folded(s string) int {
	total := 0
	for i := range len(s) {
		if i%2 == 0 {
			total += int(s[i]) * 256
		} else {
			total += int(s[i])
		}
	}
	if total%65535 == 0 && total != 0 {
		return 65535
	}
	return total % 65535
}

func short(n int) string {
	return string([]byte{byte(n >> 8), byte(n)})
}

// summed is bytes with their check sum.
func summed(s string) string {
	return s[:2] + short(65535-folded(s[:2]+"\x00\x00"+s[4:])) + s[4:]
}

func modelBytes(n api.Notice) string {
	return summed(string([]byte{byte(n.Type), byte(n.Code), 0, 0}) + short(int(n.Word>>16)) + short(int(n.Word&65535)) + n.Data)
}

func encoded(t *testing.T, n api.Notice) string {
	t.Helper()
	b, e := notice.Encode(n)
	if e != api.OK {
		t.Fatalf("Encode: %d", e)
	}
	return b
}

func rights() map[string]api.Notice {
	return map[string]api.Notice{
		"the example":  echo(),
		"the zero one": {},
		"most":         {Type: 255, Code: 255, Word: math.MaxUint32, Data: "\xff\xff"},
		"the longest":  with(func(n *api.Notice) { n.Data = bytesOf(65507) }),
		"odd Data":     with(func(n *api.Notice) { n.Data = "abc" }),
		"zeros":        {Data: "\x00\x00\x00"},
		"a fault":      {Type: 3, Code: 4, Word: 1400, Data: "abcd"},
	}
}

func TestP7_1Encode(t *testing.T) {
	for name, n := range rights() {
		if b, e := notice.Encode(n); e != api.OK || b != modelBytes(n) {
			t.Errorf("Encode of %s: %d bytes, %d", name, len(b), e)
		}
	}
	for want, n := range map[string]api.Notice{
		"\x08\x00\xf7\xf9\x00\x05\x00\x01":             echo(),
		"\x00\x00\xff\xff\x00\x00\x00\x00":             {},
		"\x03\x04\x9a\x99\x00\x00\x00\x00\x61\x62\x01": {Type: 3, Code: 4, Data: "ab\x01"},
	} {
		if b, e := notice.Encode(n); e != api.OK || b != want {
			t.Errorf("Encode: %x, %d; want %x", b, e, want)
		}
	}
}

func TestP7_1EncodeWrong(t *testing.T) {
	for name, n := range map[string]api.Notice{
		"too long":     with(func(n *api.Notice) { n.Data = bytesOf(65508) }),
		"far too long": with(func(n *api.Notice) { n.Data = bytesOf(1 << 18) }),
	} {
		if b, e := notice.Encode(n); b != "" || e != api.ErrArg {
			t.Errorf("Encode of %s: %d bytes, %d", name, len(b), e)
		}
	}
	for _, x := range []int{-1, 256, 264, -248, 1 << 40, math.MinInt, math.MaxInt} {
		for _, n := range []api.Notice{with(func(n *api.Notice) { n.Type = x }), with(func(n *api.Notice) { n.Code = x })} {
			if b, e := notice.Encode(n); b != "" || e != api.ErrArg {
				t.Errorf("Encode of Type %d, Code %d: %x, %d", n.Type, n.Code, b, e)
			}
		}
	}
}

func TestP7_1Parse(t *testing.T) {
	b := encoded(t, with(func(n *api.Notice) { n.Code, n.Data = 7, "abcde" }))
	for name, c := range map[string]struct {
		b    string
		want api.Notice
		e    api.Errno
	}{
		"itself":               {b, with(func(n *api.Notice) { n.Code, n.Data = 7, "abcde" }), api.OK},
		"no bytes":             {"", api.Notice{}, api.ErrShort},
		"one":                  {"\x08", api.Notice{}, api.ErrShort},
		"7 bytes":              {summed(b[:7]), api.Notice{}, api.ErrShort},
		"8 bytes":              {summed(b[:8]), with(func(n *api.Notice) { n.Code = 7 }), api.OK},
		"a byte less":          {b[:12], api.Notice{}, api.ErrSum},
		"a byte more":          {b + "x", api.Notice{}, api.ErrSum},
		"0s":                   {"\x00\x00\x00\x00\x00\x00\x00\x00", api.Notice{}, api.ErrSum},
		"0s and their sum":     {"\x00\x00\xff\xff\x00\x00\x00\x00", api.Notice{}, api.OK},
		"another type":         {"\x00" + b[1:], api.Notice{}, api.ErrSum},
		"a sum one more":       {b[:3] + string([]byte{b[3] + 1}) + b[4:], api.Notice{}, api.ErrSum},
		"very many bytes":      {modelBytes(api.Notice{Type: 3, Data: bytesOf(70000)}), api.Notice{Type: 3, Data: bytesOf(70000)}, api.OK},
		"a type that isn't":    {modelBytes(api.Notice{Type: 77, Code: 78, Word: 1 << 31}), api.Notice{Type: 77, Code: 78, Word: 1 << 31}, api.OK},
		"a sum of 0, all else": {"\xff\xff\x00\x00\x00\x00\x00\x00", api.Notice{Type: 255, Code: 255}, api.OK},
	} {
		if n, e := notice.Parse(c.b); n != c.want || e != c.e {
			t.Errorf("Parse of %s: %x, %d; want error %d", name, n, e, c.e)
		}
	}
}

func TestP7_1ParseAnyBytes(t *testing.T) {
	rnd := rand.New(rand.NewSource(71))
	for range 30000 {
		d := make([]byte, rnd.Intn(24))
		rnd.Read(d)
		b := string(d)
		if len(b) >= 4 && rnd.Intn(2) == 0 {
			b = summed(b)
		}
		want, e := api.Notice{}, api.OK
		switch {
		case len(b) < 8:
			e = api.ErrShort
		case folded(b) != 65535:
			e = api.ErrSum
		default:
			want = api.Notice{Type: int(b[0]), Code: int(b[1]), Word: uint32(b[4])<<24 | uint32(b[5])<<16 | uint32(b[6])<<8 | uint32(b[7]), Data: b[8:]}
		}
		if n, f := notice.Parse(b); n != want || f != e {
			t.Fatalf("Parse of %x: %x, %d; want %x, %d", b, n, f, want, e)
		}
	}
}

func TestP7_1Kind(t *testing.T) {
	if notice.Proto != 1 || notice.Other != 0 || notice.Call != 1 || notice.Reply != 2 || notice.Fault != 3 {
		t.Error("the kinds' numbers")
	}
	kinds := map[int]int{8: notice.Call, 0: notice.Reply, 3: notice.Fault, 4: notice.Fault, 5: notice.Fault, 11: notice.Fault, 12: notice.Fault}
	for n := -300; n < 600; n++ {
		if got := notice.Kind(api.Notice{Type: n, Code: n, Word: uint32(n), Data: "x"}); got != kinds[n] {
			t.Errorf("Kind of type %d: %d", n, got)
		}
	}
	for _, n := range []int{math.MinInt, math.MaxInt, 1<<32 + 8, 1 << 32, 1<<32 + 3} {
		if got := notice.Kind(api.Notice{Type: n}); got != notice.Other {
			t.Errorf("Kind of type %d: %d", n, got)
		}
	}
}

func TestP7_1Echo(t *testing.T) {
	for n := -20; n < 300; n++ {
		call := api.Notice{Type: n, Code: 3, Word: 0x00050001, Data: "abc"}
		want, is := api.Notice{}, n == 8
		if is {
			want = api.Notice{Type: 0, Code: 3, Word: 0x00050001, Data: "abc"}
		}
		if got, ok := notice.Echo(call); got != want || ok != is {
			t.Errorf("Echo of type %d: %x, %v", n, got, ok)
		}
	}
}

// begun is the beginning of a datagram of a protocol, with so many words, and what stands behind them.
func begun(proto, words int, behind string) string {
	h := []byte{byte(0x40 + words), 0x11, 0x22, 0x33, 0x44, 0x55, 0, 0, 0x66, byte(proto), 0x77, 0x88, 10, 0, 0, 1, 10, 1, 0, 2}
	for range max(0, words-5) * 4 {
		h = append(h, 0xee)
	}
	return string(h) + behind
}

func set(s string, at, b int) string {
	return s[:at] + string([]byte{byte(b)}) + s[at+1:]
}

func TestP7_2Inner(t *testing.T) {
	ports, call, reply := "\x04\x00\x00\x50\x01\x02\x03\x04", "\x08\x09\x0a\x0b\x12\x34\x0c\x0d", "\x00\x09\x0a\x0b\x12\x34\x0c\x0d"
	key := func(proto, sport, dport int) api.Key {
		return api.Key{Src: 0x0a000001, Dst: 0x0a010002, Proto: proto, Sport: sport, Dport: dport}
	}
	tcp, udp, icmp, none := key(6, 1024, 80), key(17, 1024, 80), key(1, 0x1234, 0x1234), api.Key{}
	for name, c := range map[string]struct {
		data string
		want api.Key
	}{
		"TCP":                      {begun(6, 5, ports), tcp},
		"UDP":                      {begun(17, 5, ports), udp},
		"an echo":                  {begun(1, 5, call), icmp},
		"a reply":                  {begun(1, 5, reply), icmp},
		"TCP of 6 words":           {begun(6, 6, ports), tcp},
		"UDP of 15 words":          {begun(17, 15, ports), udp},
		"an echo of 15 words":      {begun(1, 15, call), icmp},
		"more behind it":           {begun(17, 5, ports+bytesOf(100)), udp},
		"more behind an echo":      {begun(1, 5, call+bytesOf(100)), icmp},
		"very much more":           {begun(6, 5, ports+bytesOf(70000)), tcp},
		"Mf":                       {set(begun(6, 5, ports), 6, 0x20), tcp},
		"Df":                       {set(begun(6, 5, ports), 6, 0x40), tcp},
		"the bit that nobody has":  {set(begun(6, 5, ports), 6, 0x80), tcp},
		"Offset 8":                 {set(begun(6, 5, ports), 7, 1), none},
		"Offset, high":             {set(begun(6, 5, ports), 6, 0x10), none},
		"Offset and Mf":            {set(begun(17, 5, ports), 6, 0x21), none},
		"version 5":                {set(begun(6, 5, ports), 0, 0x55), none},
		"version 6":                {set(begun(6, 5, ports), 0, 0x65), none},
		"version 0":                {set(begun(6, 5, ports), 0, 0x05), none},
		"version 12":               {set(begun(6, 5, ports), 0, 0xc5), none},
		"4 words":                  {set(begun(6, 5, ports), 0, 0x44), none},
		"no words":                 {set(begun(6, 5, ports), 0, 0x40), none},
		"7 bytes behind it":        {begun(6, 5, ports[:7]), none},
		"7 bytes of an echo":       {begun(1, 5, call[:7]), none},
		"nothing behind it":        {begun(17, 5, ""), none},
		"6 words, 7 bytes":         {begun(17, 6, ports[:7]), none},
		"7 words, not all there":   {set(begun(17, 6, ""), 0, 0x47), none},
		"7 words, 4 of 8 bytes":    {set(begun(17, 5, ports+ports), 0, 0x48), none},
		"19 bytes":                 {begun(6, 5, "")[:19], none},
		"no bytes":                 {"", none},
		"one byte":                 {"\x45", none},
		"protocol 0":               {begun(0, 5, ports), none},
		"protocol 2":               {begun(2, 5, ports), none},
		"protocol 255":             {begun(255, 5, ports), none},
		"a fault":                  {begun(1, 5, set(call, 0, 3)), none},
		"a fault of 11":            {begun(1, 5, set(call, 0, 11)), none},
		"an odd notice":            {begun(1, 5, set(call, 0, 13)), none},
		"an echo with other codes": {begun(1, 5, set(call, 1, 200)), icmp},
	} {
		k, ok := notice.Inner(c.data)
		if k != c.want || ok != (c.want != none) {
			t.Errorf("Inner of %s: %x, %v; want %x", name, k, ok, c.want)
		}
	}
	if k, ok := notice.Inner(begun(6, 5, "\x00\x00\x00\x00\x00\x00\x00\x00")); k != key(6, 0, 0) || !ok {
		t.Errorf("Inner with ports of 0: %x, %v", k, ok)
	}
	if k, ok := notice.Inner("\x45" + strings.Repeat("\x00", 8) + "\x06" + strings.Repeat("\x00", 18)); k != (api.Key{Proto: 6}) || !ok {
		t.Errorf("Inner of 0s: %x, %v", k, ok)
	}
}

// modelInner is Inner by the document's words.
func modelInner(d string) (api.Key, bool) {
	if len(d) < 20 || d[0]/16 != 4 || d[0]%16 < 5 || len(d) < int(d[0]%16)*4+8 || d[6]%32 != 0 || d[7] != 0 {
		return api.Key{}, false
	}
	word := func(s string) uint32 {
		return uint32(s[0])<<24 + uint32(s[1])<<16 + uint32(s[2])<<8 + uint32(s[3])
	}
	k, b := api.Key{Src: word(d[12:]), Dst: word(d[16:]), Proto: int(d[9])}, d[int(d[0]%16)*4:]
	switch {
	case k.Proto == 6 || k.Proto == 17:
		k.Sport, k.Dport = int(b[0])*256+int(b[1]), int(b[2])*256+int(b[3])
	case k.Proto == 1 && (b[0] == 8 || b[0] == 0):
		k.Sport = int(b[4])*256 + int(b[5])
		k.Dport = k.Sport
	default:
		return api.Key{}, false
	}
	return k, true
}

func TestP7_2InnerAnyBytes(t *testing.T) {
	rnd := rand.New(rand.NewSource(72))
	met := map[int]int{}
	for range 60000 {
		d := make([]byte, rnd.Intn(80))
		rnd.Read(d)
		if len(d) > 20 && rnd.Intn(8) > 0 {
			d[0] = byte(0x40 + rnd.Intn(12))
			d[6], d[7], d[9] = d[6]&0xe0, 0, [...]byte{1, 6, 17, 2}[rnd.Intn(4)]
			for i := 20; i < len(d); i += 4 {
				d[i] = byte(rnd.Intn(10))
			}
		}
		want, is := modelInner(string(d))
		if k, ok := notice.Inner(string(d)); k != want || ok != is {
			t.Fatalf("Inner of %x: %x, %v; want %x, %v", d, k, ok, want, is)
		}
		met[want.Proto]++
	}
	for _, proto := range []int{0, 1, 6, 17} {
		if met[proto] < 100 {
			t.Errorf("protocol %d was met %d times only", proto, met[proto])
		}
	}
}

func framed(t *testing.T, p api.Packet) string {
	t.Helper()
	s, e := header.Encode(p)
	if e != api.OK {
		t.Fatalf("header.Encode: %d", e)
	}
	return s
}

func TestP7_2Beginning(t *testing.T) {
	for _, c := range []struct {
		options []api.Option
		size    int
		want    int
	}{
		{nil, 0, 20}, {nil, 1, 21}, {nil, 7, 27}, {nil, 8, 28}, {nil, 9, 28}, {nil, 65515, 28},
		{[]api.Option{{Kind: 1}}, 0, 24}, {[]api.Option{{Kind: 1}}, 7, 31}, {[]api.Option{{Kind: 1}}, 100, 32},
		{[]api.Option{{Kind: 9, Data: bytesOf(38)}}, 3, 63}, {[]api.Option{{Kind: 9, Data: bytesOf(38)}}, 30, 68},
	} {
		s := framed(t, api.Packet{Ttl: 1, Proto: 77, Mf: true, Offset: 16, Options: c.options, Data: bytesOf(c.size)})
		if got := notice.Beginning(s); got != s[:c.want] {
			t.Errorf("Beginning, %d bytes of Data: %x", c.size, got)
		}
	}
}

// TestP7_2BeginningKeepsTheHeader: its options end by more 0s than they need.
func TestP7_2BeginningKeepsTheHeader(t *testing.T) {
	s := framed(t, api.Packet{Proto: 17, Options: []api.Option{{Kind: 9, Data: "123456"}}, Data: "abcdefghij"})
	s = s[:20] + strings.Repeat("\x00", 8) + s[28:]
	s = s[:10] + "\x00\x00" + s[12:]
	s = s[:10] + short(65535-folded(s[:28])) + s[12:]
	if got := notice.Beginning(s); got != s[:36] {
		t.Errorf("Beginning: %x", got)
	}
}

func TestP7_2BeginningOfOthers(t *testing.T) {
	s := framed(t, api.Packet{Ttl: 9, Proto: 17, Data: "abcdefghij"})
	for name, b := range map[string]string{
		"nothing":      "",
		"19 bytes":     s[:19],
		"a byte less":  s[:len(s)-1],
		"a byte more":  s + "x",
		"a wrong sum":  set(s, 8, 10),
		"version 5":    set(s, 0, 0x55),
		"a wrong size": set(s, 3, 29),
		"just a begin": s[:28],
	} {
		if got := notice.Beginning(b); got != "" {
			t.Errorf("Beginning of %s: %x", name, got)
		}
	}
}

func TestP7_3ReadAsItWas(t *testing.T) {
	for name, n := range rights() {
		if got, e := notice.Parse(encoded(t, n)); got != n || e != api.OK {
			t.Errorf("%s isn't read as it was: %d", name, e)
		}
	}
	rnd := rand.New(rand.NewSource(73))
	for range 20000 {
		d := make([]byte, rnd.Intn(30))
		rnd.Read(d)
		n := api.Notice{Type: rnd.Intn(256), Code: rnd.Intn(256), Word: rnd.Uint32(), Data: string(d)}
		b := encoded(t, n)
		if got, e := notice.Parse(b); got != n || e != api.OK || b != modelBytes(n) {
			t.Fatalf("%x is read as %x, %d", n, got, e)
		}
	}
}

func TestP7_3FaultTellsOfThePacket(t *testing.T) {
	rnd := rand.New(rand.NewSource(74))
	for range 5000 {
		k := api.Key{Src: rnd.Uint32(), Dst: rnd.Uint32(), Sport: rnd.Intn(65536), Dport: rnd.Intn(65536)}
		p := api.Packet{Ttl: rnd.Intn(256), Src: k.Src, Dst: k.Dst, Mf: rnd.Intn(2) == 0, Df: rnd.Intn(2) == 0, Id: rnd.Intn(65536)}
		for range rnd.Intn(4) {
			p.Options = append(p.Options, api.Option{Kind: 2 + rnd.Intn(200), Data: bytesOf(rnd.Intn(8))})
		}
		k.Proto = [...]int{6, 17, 1}[rnd.Intn(3)]
		p.Proto = k.Proto
		if k.Proto == 1 {
			k.Dport = k.Sport
			p.Data = encoded(t, api.Notice{Type: rnd.Intn(2) * 8, Word: uint32(k.Sport)<<16 | uint32(rnd.Intn(65536)), Data: bytesOf(rnd.Intn(20))})
		} else {
			p.Data, _ = segment.Encode(p.Proto, p.Src, p.Dst, api.Segment{Sport: k.Sport, Dport: k.Dport, Data: bytesOf(rnd.Intn(20))})
		}
		fault := encoded(t, api.Notice{Type: [...]int{3, 4, 5, 11, 12}[rnd.Intn(5)], Data: notice.Beginning(framed(t, p))})
		n, _ := notice.Parse(fault)
		if got, ok := notice.Inner(n.Data); got != k || !ok || notice.Kind(n) != notice.Fault {
			t.Fatalf("a fault of %x tells of %x, %v; want %x", framed(t, p), got, ok, k)
		}
	}
}
