package option_test

import (
	"math"
	"math/rand"
	"strings"
	"testing"

	"guerite/api"
	"guerite/option"
)

// of is an option of so many bytes.
func of(kind, size int) api.Option {
	return api.Option{Kind: kind, Data: strings.Repeat("x", size)}
}

func list(l ...api.Option) []api.Option {
	return l
}

// wrong is options that aren't right.
var wrong = []api.Option{
	{}, of(0, 1), of(1, 1), of(1, 38), of(-1, 0), of(256, 0), of(257, 0), of(math.MinInt, 0), of(math.MaxInt, 0),
	of(2, 39), of(255, 39), of(7, 253), of(7, 254), of(7, 70000),
}

func TestP4_1Right(t *testing.T) {
	for _, o := range list(of(1, 0), of(2, 0), of(2, 38), of(7, 3), of(134, 0), of(255, 0), of(255, 38)) {
		if !option.Right(o) {
			t.Errorf("Right(kind %d, %d bytes): false", o.Kind, len(o.Data))
		}
	}
	if !option.Right() || !option.Right(nil...) || !option.Right(of(2, 38), of(2, 38), of(1, 0)) {
		t.Error("Right of none, or of many: false")
	}
	for _, o := range wrong {
		if option.Right(o) || option.Right(o, of(1, 0)) || option.Right(of(1, 0), of(7, 2), o) {
			t.Errorf("Right with kind %d, %d bytes: true", o.Kind, len(o.Data))
		}
	}
}

func TestP4_1Encode(t *testing.T) {
	for want, l := range map[string][]api.Option{
		"":                                   nil,
		"\x01\x86\x04\x37\x37\x00\x00\x00":   {{Kind: 1}, {Kind: 134, Data: "77"}},
		"\x01\x00\x00\x00":                   {{Kind: 1}},
		"\x01\x01\x00\x00":                   {{Kind: 1}, {Kind: 1}},
		"\x01\x01\x01\x00":                   {{Kind: 1}, {Kind: 1}, {Kind: 1}},
		"\x01\x01\x01\x01":                   {{Kind: 1}, {Kind: 1}, {Kind: 1}, {Kind: 1}},
		"\x02\x02\x00\x00":                   {{Kind: 2}},
		"\x02\x02\xff\x02":                   {{Kind: 2}, {Kind: 255}},
		"\x07\x03\x00\x00":                   {{Kind: 7, Data: "\x00"}},
		"\x07\x04\x00\x01":                   {{Kind: 7, Data: "\x00\x01"}},
		"\x01\x82\x03\xff":                   {{Kind: 1}, {Kind: 130, Data: "\xff"}},
		"\x82\x03\xff\x01":                   {{Kind: 130, Data: "\xff"}, {Kind: 1}},
		"\x09\x28" + strings.Repeat("x", 38): {of(9, 38)},
		"\x09\x27" + strings.Repeat("x", 37) + "\x00":                               {of(9, 37)},
		"\x09\x27" + strings.Repeat("x", 37) + "\x01":                               {of(9, 37), {Kind: 1}},
		strings.Repeat("\x01", 40):                                                  repeated(of(1, 0), 40),
		strings.Repeat("\x01", 37) + "\x00\x00\x00":                                 repeated(of(1, 0), 37),
		strings.Repeat("\x05\x02", 20):                                              repeated(of(5, 0), 20),
		strings.Repeat("\x05\x02", 19) + "\x00\x00":                                 repeated(of(5, 0), 19),
		"\x05\x12" + strings.Repeat("x", 16) + "\x06\x16" + strings.Repeat("x", 20): {of(5, 16), of(6, 20)},
	} {
		if got, e := option.Encode(l...); got != want || e != api.OK {
			t.Errorf("Encode(%x): %x, %d; want %x", l, got, e, want)
		}
		if got := option.Size(l...); got != len(want) {
			t.Errorf("Size(%v): %d, want %d", l, got, len(want))
		}
	}
}

func repeated(o api.Option, many int) []api.Option {
	l := make([]api.Option, many)
	for i := range l {
		l[i] = o
	}
	return l
}

// wantEncodeError holds what Encode answers of these against an error.
func wantEncodeError(t *testing.T, want api.Errno, l ...api.Option) {
	t.Helper()
	if s, e := option.Encode(l...); s != "" || e != want {
		t.Errorf("Encode of %d options: %x, %d; want %d", len(l), s, e, want)
	}
}

func TestP4_1EncodeErrors(t *testing.T) {
	for _, o := range wrong {
		wantEncodeError(t, api.ErrArg, o)
		wantEncodeError(t, api.ErrArg, of(1, 0), o)
		wantEncodeError(t, api.ErrArg, append(repeated(of(2, 38), 100), o)...)
		wantEncodeError(t, api.ErrArg, append(list(o), repeated(of(2, 38), 100)...)...)
	}
	wantEncodeError(t, api.ErrLong, of(9, 38), of(1, 0))
	wantEncodeError(t, api.ErrLong, of(1, 0), of(9, 38))
	wantEncodeError(t, api.ErrLong, of(9, 37), of(1, 0), of(1, 0))
	wantEncodeError(t, api.ErrLong, repeated(of(1, 0), 41)...)
	wantEncodeError(t, api.ErrLong, repeated(of(1, 0), 70000)...)
	wantEncodeError(t, api.ErrLong, repeated(of(2, 0), 21)...)
	wantEncodeError(t, api.ErrLong, repeated(of(255, 38), 3000)...)
}

func TestP4_1SizeOfAnyOnes(t *testing.T) {
	for _, c := range []struct {
		l    []api.Option
		want int
	}{
		{nil, 0},
		{list(of(1, 0)), 4},
		{list(of(1, 5)), 4}, // of kind 1 its bytes don't count
		{list(of(1, 5), of(1, 70000), of(1, 0), of(1, 1)), 4},
		{repeated(of(1, 0), 5), 8},
		{list(api.Option{}), 4},
		{list(of(0, 3)), 8},
		{list(of(7, 2)), 4},
		{list(of(7, 3)), 8},
		{list(of(-1, 4)), 8},
		{list(of(math.MinInt, 0), of(math.MaxInt, 1)), 8},
		{list(of(2, 39)), 44},
		{list(of(2, 70000)), 70004},
		{list(of(2, 1), of(3, 1), of(4, 1)), 12},
		{list(of(2, 1), of(3, 1), of(1, 1)), 8},
		{repeated(of(9, 38), 100), 4000},
	} {
		if got := option.Size(c.l...); got != c.want {
			t.Errorf("Size of %d options: %d, want %d", len(c.l), got, c.want)
		}
	}
}

// wantParse holds what Parse answers against what it must be.
func wantParse(t *testing.T, s string, e api.Errno, l ...api.Option) {
	t.Helper()
	got, gotE := option.Parse(s)
	if gotE != e || !option.Same(got, l) {
		t.Errorf("Parse(%x): %x, %d; want %x, %d", s, got, gotE, l, e)
	}
}

func TestP4_1Parse(t *testing.T) {
	wantParse(t, "", api.OK)
	wantParse(t, "\x00\x00\x00\x00", api.OK)
	wantParse(t, strings.Repeat("\x00", 40), api.OK)
	wantParse(t, "\x01\x86\x04\x37\x37\x00\x00\x00", api.OK, of(1, 0), api.Option{Kind: 134, Data: "77"})
	wantParse(t, "\x01\x01\x01\x01", api.OK, repeated(of(1, 0), 4)...)
	wantParse(t, "\x01\x00\x00\x00", api.OK, of(1, 0))
	wantParse(t, "\x02\x02\x00\x00\x00\x00\x00\x00", api.OK, of(2, 0))
	wantParse(t, "\x02\x02\xff\x02", api.OK, of(2, 0), of(255, 0))
	wantParse(t, "\x02\x04\x00\x01", api.OK, api.Option{Kind: 2, Data: "\x00\x01"})
	wantParse(t, "\x09\x28"+strings.Repeat("x", 38), api.OK, of(9, 38))
	wantParse(t, strings.Repeat("\x01", 40), api.OK, repeated(of(1, 0), 40)...)
	wantParse(t, strings.Repeat("\x05\x02", 20), api.OK, repeated(of(5, 0), 20)...)
	wantParse(t, "\x07\x03y\x07\x03y\x00\x00", api.OK, api.Option{Kind: 7, Data: "y"}, api.Option{Kind: 7, Data: "y"})
}

func TestP4_1ParseErrors(t *testing.T) {
	for s, e := range map[string]api.Errno{
		strings.Repeat("\x00", 41):           api.ErrLong,
		strings.Repeat("\x00", 44):           api.ErrLong,
		strings.Repeat("\x01", 70000):        api.ErrLong,
		"\x02":                               api.ErrForm, // the number of bytes ahead of what they are
		"\x00\x00":                           api.ErrForm,
		"\x01\x01\x01":                       api.ErrForm,
		"\x01\x01\x01\x01\x01":               api.ErrForm,
		strings.Repeat("\x01", 39):           api.ErrForm,
		"\x00\x00\x01\x00":                   api.ErrForm,
		"\x00\x00\x00\x01":                   api.ErrForm,
		"\x00\x01\x01\x01":                   api.ErrForm,
		"\x00\x82\x02\x00":                   api.ErrForm,
		"\x01\x00\x00\xff":                   api.ErrForm,
		"\x02\x02\x00\x00\x00\x00\x00\x30":   api.ErrForm,
		strings.Repeat("\x00", 39) + "\x01":  api.ErrForm,
		"\x01\x01\x01\x02":                   api.ErrShort,
		"\x02\x02\x01\xff":                   api.ErrShort,
		"\x02\x05\x00\x00":                   api.ErrShort,
		"\x02\xff\x00\x00":                   api.ErrShort,
		"\x01\x02\x04\x00":                   api.ErrShort,
		"\x01\x01\x02\x03":                   api.ErrShort,
		"\x02\x00\x00\x00":                   api.ErrForm,
		"\x02\x01\x00\x00":                   api.ErrForm,
		"\x01\x01\x02\x00":                   api.ErrForm,
		"\x01\x01\x02\x01":                   api.ErrForm,
		"\xff\x02\xff\x01":                   api.ErrForm,
		"\x02\x29" + strings.Repeat("x", 38): api.ErrShort,
		"\x02\x01\x02\x05":                   api.ErrForm, // the first one tells
		"\x02\x05\x02\x01":                   api.ErrShort,
	} {
		wantParse(t, s, e)
	}
}

// modelParse is Parse by the document's words.
func modelParse(s string) ([]api.Option, api.Errno) {
	if len(s) > 40 {
		return nil, api.ErrLong
	}
	if len(s)%4 != 0 {
		return nil, api.ErrForm
	}
	var l []api.Option
	for i := 0; i < len(s); {
		if s[i] == 0 {
			if s[i:] != strings.Repeat("\x00", len(s)-i) {
				return nil, api.ErrForm
			}
			return l, api.OK
		}
		if s[i] == 1 {
			l = append(l, api.Option{Kind: 1})
			i++
			continue
		}
		if i+1 == len(s) || int(s[i+1]) > len(s)-i {
			return nil, api.ErrShort
		}
		if s[i+1] < 2 {
			return nil, api.ErrForm
		}
		l = append(l, api.Option{Kind: int(s[i]), Data: s[i+2 : i+int(s[i+1])]})
		i += int(s[i+1])
	}
	return l, api.OK
}

func TestP4_1ParseAnyBytes(t *testing.T) {
	rnd := rand.New(rand.NewSource(4))
	few := "\x00\x00\x01\x01\x02\x03\x04\x05\x06\x08\x82\xff"
	met := map[api.Errno]int{}
	for range 50000 {
		b := make([]byte, rnd.Intn(13))
		if rnd.Intn(2) == 0 {
			b = make([]byte, 4*rnd.Intn(11))
		}
		for i := range b {
			b[i] = few[rnd.Intn(len(few))]
		}
		l, e := modelParse(string(b))
		wantParse(t, string(b), e, l...)
		met[e]++
	}
	for _, e := range []api.Errno{api.OK, api.ErrShort, api.ErrForm} {
		if met[e] < 100 {
			t.Errorf("error %d was met %d times only", e, met[e])
		}
	}
}

func TestP4_1WhatIsHandedInStays(t *testing.T) {
	room := append(make([]api.Option, 0, 8), of(7, 1), of(1, 0))
	before := append([]api.Option(nil), room[:8]...)
	option.Right(room...)
	option.Encode(room...)
	option.Size(room...)
	option.Find(room, 7)
	option.Same(room, room[:1])
	option.Without(room, 7)
	option.Without(room, 1)
	if !option.Same(room[:8], before) {
		t.Errorf("%v has become %v", before, room[:8])
	}
}

func TestP4_2Find(t *testing.T) {
	l := list(of(1, 0), of(7, 2), of(130, 1), of(7, 3), of(-5, 0), of(0, 0), of(7, 2), of(1000, 9), of(1, 4))
	for _, c := range []struct{ kind, at, many int }{
		{1, 0, 2}, {7, 1, 3}, {130, 2, 1}, {-5, 4, 1}, {0, 5, 1}, {1000, 7, 1}, {2, -1, 0}, {134, -1, 0}, {-1, -1, 0}, {1000 - 256*3, -1, 0}, {math.MinInt, -1, 0}, {math.MaxInt, -1, 0},
	} {
		if at, many := option.Find(l, c.kind); at != c.at || many != c.many {
			t.Errorf("Find(%d): %d, %d; want %d, %d", c.kind, at, many, c.at, c.many)
		}
		if at, many := option.Find(nil, c.kind); at != -1 || many != 0 {
			t.Errorf("Find(nil, %d): %d, %d", c.kind, at, many)
		}
	}
	if at, many := option.Find(repeated(of(3, 0), 1000), 3); at != 0 || many != 1000 {
		t.Errorf("Find among many: %d, %d", at, many)
	}
}

func TestP4_2Without(t *testing.T) {
	l := list(of(1, 0), of(7, 2), of(130, 1), of(7, 3), of(-5, 0), of(0, 0))
	for _, c := range []struct {
		kinds []int
		want  []api.Option
	}{
		{nil, l},
		{[]int{2, 134}, l},
		{[]int{7}, list(l[0], l[2], l[4], l[5])},
		{[]int{7, 7}, list(l[0], l[2], l[4], l[5])},
		{[]int{1}, l[1:]},
		{[]int{0}, l[:5]},
		{[]int{130, 1}, list(l[1], l[3], l[4], l[5])},
		{[]int{-5, 7, 0}, list(l[0], l[2])},
		{[]int{0, 1, 7, 130, -5}, nil},
	} {
		if got := option.Without(l, c.kinds...); !option.Same(got, c.want) {
			t.Errorf("Without(%v): %v, want %v", c.kinds, got, c.want)
		}
	}
	if got := option.Without(nil, 1); len(got) != 0 {
		t.Errorf("Without of none: %v", got)
	}
}

func TestP4_2WithoutIsNewMemory(t *testing.T) {
	l := list(of(1, 0), of(7, 2), of(130, 1))
	kinds := []int{7, 1}
	for _, got := range [][]api.Option{option.Without(l), option.Without(l, 130), option.Without(l, kinds...)} {
		for i := range got {
			got[i] = of(9, 9)
		}
		_ = append(got, of(9, 9))
	}
	if !option.Same(l, list(of(1, 0), of(7, 2), of(130, 1))) || kinds[0] != 7 || kinds[1] != 1 {
		t.Errorf("what was handed in has changed: %v, %v", l, kinds)
	}
}

func TestP4_2Same(t *testing.T) {
	l := list(of(1, 0), of(7, 2), of(130, 1))
	for _, c := range []struct {
		a, b []api.Option
		want bool
	}{
		{nil, nil, true},
		{nil, list(), true},
		{l, list(of(1, 0), of(7, 2), of(130, 1)), true},
		{l, l[:2], false},
		{l, nil, false},
		{l, append(list(l...), of(1, 0)), false},
		{l, list(l[1], l[0], l[2]), false},
		{l, list(l[0], l[1], of(131, 1)), false},
		{l, list(l[0], l[1], of(130, 2)), false},
		{l, list(l[0], l[1], api.Option{Kind: 130, Data: "y"}), false},
		{list(of(1, 0)), list(of(257, 0)), false},
		{list(of(1, 1)), list(of(1, 0)), false},
		{wrong, append(list(), wrong...), true},
	} {
		if got := option.Same(c.a, c.b); got != c.want {
			t.Errorf("Same(%v, %v): %v", c.a, c.b, got)
		}
		if got := option.Same(c.b, c.a); got != c.want {
			t.Errorf("Same(%v, %v): %v", c.b, c.a, got)
		}
	}
}

func TestP4_3WhatIsEncodedIsReadAsItWas(t *testing.T) {
	rnd := rand.New(rand.NewSource(43))
	long, read := 0, 0
	for range 20000 {
		l := make([]api.Option, rnd.Intn(8))
		for i := range l {
			b := make([]byte, rnd.Intn(1+[]int{2, 8, 38}[rnd.Intn(3)]))
			rnd.Read(b)
			l[i] = api.Option{Kind: 2 + rnd.Intn(254), Data: string(b)}
			if rnd.Intn(3) == 0 {
				l[i] = of(1, 0)
			}
		}
		s, e := option.Encode(l...)
		if size := option.Size(l...); (size > 40) != (e == api.ErrLong) || e == api.OK && size != len(s) {
			t.Fatalf("Size(%x): %d; Encode: %x, %d", l, size, s, e)
		}
		if e != api.OK {
			long++
			continue
		}
		read++
		wantParse(t, s, api.OK, l...)
	}
	if long < 100 || read < 100 {
		t.Errorf("%d were too long, %d were read", long, read)
	}
}
