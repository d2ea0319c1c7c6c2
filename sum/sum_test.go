package sum_test

import (
	"math"
	"math/rand"
	"strings"
	"testing"

	"guerite/api"
	"guerite/sum"
)

// wantOf is the check sum by the document's words.
func wantOf(l ...string) int {
	s := strings.Join(l, "")
	if len(s)%2 != 0 {
		s += "\x00"
	}
	total := 0
	for i := 0; i < len(s); i += 2 {
		total += int(s[i])*256 + int(s[i+1])
	}
	if total != 0 && total%65535 == 0 {
		return 0
	}
	return 65535 - total%65535
}

func someBytes(rnd *rand.Rand, most int) string {
	b := make([]byte, rnd.Intn(most+1))
	rnd.Read(b)
	return string(b)
}

func TestP2_1OfExamples(t *testing.T) {
	for _, c := range []struct {
		l    []string
		want int
	}{
		{[]string{"\x00\x01\xf2\x03\xf4\xf5\xf6\xf7"}, 0x220d},
		{nil, 65535},
		{[]string{""}, 65535},
		{[]string{"", "", ""}, 65535},
		{[]string{"\x00"}, 65535},
		{[]string{"\x00\x00\x00\x00"}, 65535},
		{[]string{"\xff\xff"}, 0},
		{[]string{"\xff\xff\xff\xff"}, 0},
		{[]string{"\x80\x00\x7f\xff"}, 0},
		{[]string{"\x12"}, 65535 - 0x1200},
		{[]string{"\x00\x01\x02"}, 65535 - 0x0201},
		{[]string{"\x12", "\x34"}, 65535 - 0x1234},
		{[]string{"\x12", "", "\x34\x56"}, 65535 - 0x1234 - 0x5600},
		{[]string{"\x12\x34", "\x56\x78"}, 65535 - 0x1234 - 0x5678},
		{[]string{"\xff\xff\x00\x01"}, 65534},
	} {
		if got := sum.Of(c.l...); got != c.want {
			t.Errorf("Of(%q): %x, want %x", c.l, got, c.want)
		}
	}
}

func TestP2_1OfLongTexts(t *testing.T) {
	for _, s := range []string{strings.Repeat("\xff", 1<<20), strings.Repeat("\xff\xfe", 1<<20), strings.Repeat("\xff", 1<<20+1), strings.Repeat("\x00", 1<<20) + "\x01"} {
		if got := sum.Of(s); got != wantOf(s) {
			t.Errorf("Of %d bytes: %x, want %x", len(s), got, wantOf(s))
		}
	}
}

func TestP2_1OfAnyTexts(t *testing.T) {
	rnd := rand.New(rand.NewSource(2))
	for range 3000 {
		l := make([]string, rnd.Intn(5))
		for i := range l {
			l[i] = someBytes(rnd, 7)
		}
		if got := sum.Of(l...); got != wantOf(l...) {
			t.Errorf("Of(%q): %x, want %x", l, got, wantOf(l...))
		}
		if got := sum.Good(l...); got != (wantOf(l...) == 0) {
			t.Errorf("Good(%q): %v", l, got)
		}
	}
}

func TestP2_1Good(t *testing.T) {
	for _, c := range []struct {
		l    []string
		want bool
	}{
		{nil, false},
		{[]string{"\x00\x00"}, false},
		{[]string{"\xff\xff"}, true},
		{[]string{"\xff", "\xff"}, true},
		{[]string{"\xff", "\x00", "\xff"}, false},
		{[]string{"\xff\xfe"}, false},
		{[]string{"\x00\x01\xf2\x03\xf4\xf5\xf6\xf7", "\x22\x0d"}, true},
		{[]string{"\x00\x01\xf2\x03\xf4\xf5\xf6\xf7", "\x22\x0e"}, false},
	} {
		if got := sum.Good(c.l...); got != c.want {
			t.Errorf("Good(%q): %v", c.l, got)
		}
	}
}

func TestP2_1Put(t *testing.T) {
	for _, c := range []struct {
		s    string
		at   int
		want string
	}{
		{"ab", 0, "\xff\xff"},
		{"\x00\x01\xf2\x03\xf4\xf5\xf6\xf7\xaa\xbb", 8, "\x00\x01\xf2\x03\xf4\xf5\xf6\xf7\x22\x0d"},
		{"\xaa\xbb\x00\x01\xf2\x03\xf4\xf5\xf6\xf7", 0, "\x22\x0d\x00\x01\xf2\x03\xf4\xf5\xf6\xf7"},
		{"\x00\x01\xf2\x03\xaa\xbb\xf4\xf5\xf6\xf7", 4, "\x00\x01\xf2\x03\x22\x0d\xf4\xf5\xf6\xf7"},
		{"\x01\x02\x03\x04\x05", 2, "\x01\x02\xf9\xfd\x05"},
		{"\xff\xff\x12\x34", 2, "\xff\xff\x00\x00"},
	} {
		if got, e := sum.Put(c.s, c.at); got != c.want || e != api.OK {
			t.Errorf("Put(%q, %d): %q, %d; want %q", c.s, c.at, got, e, c.want)
		}
	}
}

func TestP2_1PutOutOfPlace(t *testing.T) {
	for _, c := range []struct {
		s  string
		at int
	}{
		{"", 0}, {"a", 0}, {"ab", 1}, {"abc", 1}, {"ab", 2}, {"abc", 2}, {"abcd", 3}, {"abcd", 4}, {"abcd", -1}, {"abcd", -2},
		{"abcd", math.MaxInt}, {"abcd", math.MaxInt - 1}, {"abcd", math.MinInt}, {"abcd", math.MinInt + 1}, {"", math.MinInt}, {"", -2},
	} {
		if got, e := sum.Put(c.s, c.at); got != "" || e != api.ErrArg {
			t.Errorf("Put(%q, %d): %q, %d; want ErrArg", c.s, c.at, got, e)
		}
	}
}

func TestP2_1Pseudo(t *testing.T) {
	for _, c := range []struct {
		src, dst    uint32
		proto, size int
		want        string
	}{
		{0x0a000001, 0x0b020304, 17, 258, "\x0a\x00\x00\x01\x0b\x02\x03\x04\x00\x11\x01\x02"},
		{0, 0, 0, 0, strings.Repeat("\x00", 12)},
		{0xffffffff, 0xfffffffe, 255, 65535, "\xff\xff\xff\xff\xff\xff\xff\xfe\x00\xff\xff\xff"},
		{1, 2, 256 + 6, 65536 + 7, "\x00\x00\x00\x01\x00\x00\x00\x02\x00\x06\x00\x07"},
		{1, 2, -1, -2, "\x00\x00\x00\x01\x00\x00\x00\x02\x00\xff\xff\xfe"},
		{1, 2, math.MinInt, math.MaxInt, "\x00\x00\x00\x01\x00\x00\x00\x02\x00\x00\xff\xff"},
	} {
		if got := sum.Pseudo(c.src, c.dst, c.proto, c.size); got != c.want {
			t.Errorf("Pseudo(%x, %x, %d, %d): %x, want %x", c.src, c.dst, c.proto, c.size, got, c.want)
		}
	}
}

func TestP2_1KeepsItsArguments(t *testing.T) {
	l := []string{"\x01", "\x02\x03", "\x04"}
	sum.Of(l[:2]...)
	sum.Good(l[:2]...)
	if l[0] != "\x01" || l[1] != "\x02\x03" || l[2] != "\x04" {
		t.Errorf("what was handed in has changed: %q", l)
	}
}

// shorts is the bytes of shorts.
func shorts(l ...int) string {
	var b []byte
	for _, n := range l {
		b = append(b, byte(n>>8), byte(n))
	}
	return string(b)
}

func TestP2_2UpdateAtTheEdges(t *testing.T) {
	edges := []int{0, 1, 2, 255, 256, 0x7fff, 0x8000, 0xfffd, 0xfffe, 0xffff}
	for _, was := range edges {
		for _, now := range edges {
			for _, a := range edges {
				for _, b := range edges {
					if now == 0 && a == 0 && b == 0 {
						continue // all shorts are 0 behind it: nothing is promised
					}
					got, want := sum.Update(wantOf(shorts(a, was, b)), was, now), wantOf(shorts(a, now, b))
					if got != want {
						t.Fatalf("Update of %x %x %x to %x: %x, want %x", a, was, b, now, got, want)
					}
				}
			}
		}
	}
}

func TestP2_2UpdateOfAnyBytes(t *testing.T) {
	rnd := rand.New(rand.NewSource(3))
	for range 3000 {
		l := make([]int, 1+rnd.Intn(6))
		for i := range l {
			l[i] = rnd.Intn(65536)
		}
		at, old := rnd.Intn(len(l)), wantOf(shorts(l...))
		was, now := l[at], 1+rnd.Intn(65535)
		l[at] = now
		if got, want := sum.Update(old, was, now), wantOf(shorts(l...)); got != want {
			t.Errorf("Update(%x, %x, %x): %x, want %x", old, was, now, got, want)
		}
	}
}

func TestP2_2UpdateOfNoShorts(t *testing.T) {
	for _, n := range []int{-1, 65536, math.MinInt, math.MaxInt, 1 << 32} {
		for _, l := range [][3]int{{n, 1, 2}, {1, n, 2}, {1, 2, n}, {n, n, n}} {
			if got := sum.Update(l[0], l[1], l[2]); got != 0 {
				t.Errorf("Update(%v): %d, want 0", l, got)
			}
		}
	}
}

func TestP2_3WhatIsPutIsGood(t *testing.T) {
	rnd := rand.New(rand.NewSource(4))
	for range 3000 {
		s := someBytes(rnd, 40) + "ab"
		at := rnd.Intn(len(s)/2) * 2
		got, e := sum.Put(s, at)
		if e != api.OK || !sum.Good(got) {
			t.Errorf("Put(%q, %d): %q, %d isn't good", s, at, got, e)
		}
		if len(got) != len(s) || got[:at] != s[:at] || got[at+2:] != s[at+2:] {
			t.Errorf("Put(%q, %d): %q: other bytes have changed", s, at, got)
		}
	}
	for _, s := range []string{strings.Repeat("\x00", 20), strings.Repeat("\xff", 20), strings.Repeat("\xff", 70001)} {
		if got, e := sum.Put(s, 10); e != api.OK || !sum.Good(got) {
			t.Errorf("Put of %d bytes isn't good: %d", len(s), e)
		}
	}
}
