package cursor_test

import (
	"math"
	"math/rand"
	"strings"
	"testing"

	"guerite/api"
	"guerite/cursor"
)

// wantReader holds a reader's state against what it must be.
func wantReader(t *testing.T, r *cursor.Reader, left int, ok bool) {
	t.Helper()
	if r.Left() != left || r.Ok() != ok {
		t.Errorf("Left %d, Ok %v; want %d, %v", r.Left(), r.Ok(), left, ok)
	}
}

// wantNothing holds a reader of which nothing is to be had, against it: each call answers so, again and again.
func wantNothing(t *testing.T, r *cursor.Reader) {
	t.Helper()
	for range 2 {
		b, s, w := r.Byte(), r.Short(), r.Word()
		if b != 0 || s != 0 || w != 0 {
			t.Errorf("Byte %d, Short %d, Word %d; want 0", b, s, w)
		}
		for _, n := range []int{math.MinInt, -1, 0, 1, math.MaxInt} {
			if x := r.Take(n); x != "" {
				t.Errorf("Take(%d): %q", n, x)
			}
		}
		if x := r.Rest(); x != "" {
			t.Errorf("Rest: %q", x)
		}
		wantReader(t, r, 0, false)
	}
}

func TestP1_1ReadsInOrder(t *testing.T) {
	r := cursor.Read("\x01\x02\x03\x04\x05\x06\x07abc\xff\x00")
	wantReader(t, r, 12, true)
	if b := r.Byte(); b != 1 {
		t.Errorf("Byte: %d", b)
	}
	wantReader(t, r, 11, true)
	if n := r.Short(); n != 0x0203 {
		t.Errorf("Short: %x", n)
	}
	wantReader(t, r, 9, true)
	if n := r.Word(); n != 0x04050607 {
		t.Errorf("Word: %x", n)
	}
	wantReader(t, r, 5, true)
	if s := r.Take(2); s != "ab" {
		t.Errorf("Take: %q", s)
	}
	wantReader(t, r, 3, true)
	if s := r.Rest(); s != "c\xff\x00" {
		t.Errorf("Rest: %q", s)
	}
	wantReader(t, r, 0, true)
}

func TestP1_1HighestNumbers(t *testing.T) {
	r := cursor.Read(strings.Repeat("\xff", 7))
	if b, s, w := r.Byte(), r.Short(), r.Word(); b != 255 || s != 65535 || w != 0xffffffff {
		t.Errorf("%d, %d, %d", b, s, w)
	}
	wantReader(t, r, 0, true)
}

func TestP1_1NothingLeftIsNoFailure(t *testing.T) {
	for _, s := range []string{"", "a"} {
		r := cursor.Read(s)
		if x := r.Rest(); x != s {
			t.Errorf("Rest: %q, want %q", x, s)
		}
		if x := r.Take(0) + r.Rest(); x != "" {
			t.Errorf("Take(0), Rest at the end: %q", x)
		}
		wantReader(t, r, 0, true)
	}
}

func TestP1_1Fails(t *testing.T) {
	for name, c := range map[string]struct {
		s    string
		read func(r *cursor.Reader)
	}{
		"Byte of nothing":         {"", func(r *cursor.Reader) { r.Byte() }},
		"Short of nothing":        {"", func(r *cursor.Reader) { r.Short() }},
		"Short of one":            {"\xff", func(r *cursor.Reader) { r.Short() }},
		"Word of three":           {"\xff\xff\xff", func(r *cursor.Reader) { r.Word() }},
		"Take of one too many":    {"abc", func(r *cursor.Reader) { r.Take(4) }},
		"Take of very many":       {"abc", func(r *cursor.Reader) { r.Take(math.MaxInt) }},
		"Take of fewer than none": {"abc", func(r *cursor.Reader) { r.Take(-1) }},
		"Take of the fewest":      {"abc", func(r *cursor.Reader) { r.Take(math.MinInt) }},
		"Take of -1 of nothing":   {"", func(r *cursor.Reader) { r.Take(-1) }},
	} {
		t.Run(name, func(t *testing.T) {
			r := cursor.Read(c.s)
			c.read(r)
			wantReader(t, r, 0, false)
			wantNothing(t, r)
		})
	}
}

func TestP1_1FailureAnswersNothing(t *testing.T) {
	if n := cursor.Read("\xff").Short(); n != 0 {
		t.Errorf("Short of one byte: %d", n)
	}
	if n := cursor.Read("\xff\xff\xff").Word(); n != 0 {
		t.Errorf("Word of three bytes: %d", n)
	}
	if s := cursor.Read("abc").Take(4); s != "" {
		t.Errorf("Take(4) of three bytes: %q", s)
	}
	r := cursor.Read("abc")
	r.Word()
	if s := r.Rest(); s != "" {
		t.Errorf("Rest behind a failure: %q", s)
	}
}

func TestP1_1NilReader(t *testing.T) {
	wantNothing(t, nil)
}

func TestP1_1ZeroReaderDoesNotPanic(t *testing.T) {
	r := &cursor.Reader{}
	r.Take(1)
	r.Rest()
}

func TestP1_1ReadersOfOneText(t *testing.T) {
	s := "ab"
	a, b := cursor.Read(s), cursor.Read(s)
	a.Word()
	if x := b.Rest(); x != "ab" {
		t.Errorf("a reader hangs on another one: %q", x)
	}
}

// wantDone holds what a writer answers against what it must be, twice, as Done changes nothing.
func wantDone(t *testing.T, w *cursor.Writer, s string, e api.Errno) {
	t.Helper()
	for range 2 {
		if gotS, gotE := w.Done(); gotS != s || gotE != e {
			t.Errorf("Done: %d bytes %.40q, %d; want %d bytes %.40q, %d", len(gotS), gotS, gotE, len(s), s, e)
		}
	}
}

func TestP1_2Writes(t *testing.T) {
	wantDone(t, new(cursor.Writer).Byte(1).Short(258), "\x01\x01\x02", api.OK)
	w := &cursor.Writer{}
	w.Byte(0, 255).Short(0, 65535, 258).Word(0, 0xffffffff, 0x01020304).Text("", "ab", "\x00\xff")
	wantDone(t, w, "\x00\xff"+"\x00\x00\xff\xff\x01\x02"+"\x00\x00\x00\x00\xff\xff\xff\xff\x01\x02\x03\x04"+"ab\x00\xff", api.OK)
}

func TestP1_2AnswersItself(t *testing.T) {
	w := &cursor.Writer{}
	if w.Byte(1) != w || w.Short(1) != w || w.Word(1) != w || w.Text("a") != w {
		t.Error("another writer is answered")
	}
	if w.Byte(-1) != w || w.Byte(1) != w || w.Short(-1) != w || w.Word(1) != w || w.Text("a") != w {
		t.Error("another writer is answered behind a mistake")
	}
}

func TestP1_2ZeroWriterIsEmpty(t *testing.T) {
	wantDone(t, new(cursor.Writer), "", api.OK)
	wantDone(t, new(cursor.Writer).Byte().Short().Word().Text(), "", api.OK)
}

func TestP1_2GoesOnBehindDone(t *testing.T) {
	w := new(cursor.Writer).Byte(1)
	first, _ := w.Done()
	wantDone(t, w.Byte(2), "\x01\x02", api.OK)
	if first != "\x01" {
		t.Errorf("what was answered has changed: %q", first)
	}
}

func TestP1_2Mistakes(t *testing.T) {
	for name, w := range map[string]*cursor.Writer{
		"Byte below 0":          new(cursor.Writer).Byte(-1),
		"Byte above 255":        new(cursor.Writer).Byte(256),
		"Byte, the least":       new(cursor.Writer).Byte(math.MinInt),
		"Byte, the most":        new(cursor.Writer).Byte(math.MaxInt),
		"Short below 0":         new(cursor.Writer).Short(-1),
		"Short above 65535":     new(cursor.Writer).Short(65536),
		"Short, the least":      new(cursor.Writer).Short(math.MinInt),
		"Short, the most":       new(cursor.Writer).Short(math.MaxInt),
		"one of several":        new(cursor.Writer).Byte(1, 300, 2),
		"the last one":          new(cursor.Writer).Short(1, 2, -3),
		"behind what was right": new(cursor.Writer).Text("abc").Byte(-1),
	} {
		t.Run(name, func(t *testing.T) {
			wantDone(t, w, "", api.ErrArg)
			w.Byte(1).Short(2).Word(3).Text("x")
			wantDone(t, w, "", api.ErrArg)
		})
	}
}

func TestP1_2Long(t *testing.T) {
	full := strings.Repeat("x", 65535)
	wantDone(t, new(cursor.Writer).Text(full), full, api.OK)
	wantDone(t, new(cursor.Writer).Text(full, ""), full, api.OK)
	wantDone(t, new(cursor.Writer).Text(full[:65533]).Short(0x7878), full, api.OK)
	wantDone(t, new(cursor.Writer).Text(full[:65531]).Word(0x78787878), full, api.OK)
	wantDone(t, new(cursor.Writer).Text(full+"x"), "", api.ErrLong)
	wantDone(t, new(cursor.Writer).Text(full, "x"), "", api.ErrLong)
	wantDone(t, new(cursor.Writer).Text(full).Byte(0), "", api.ErrLong)
	wantDone(t, new(cursor.Writer).Text(full[:65534]).Short(0), "", api.ErrLong)
	wantDone(t, new(cursor.Writer).Text(full[:65532]).Word(0), "", api.ErrLong)
	wantDone(t, new(cursor.Writer).Text(full, full, full).Byte(1).Short(1).Word(1).Text(""), "", api.ErrLong)
}

func TestP1_2MistakeIsToldAheadOfLength(t *testing.T) {
	long := strings.Repeat("x", 65536)
	wantDone(t, new(cursor.Writer).Text(long).Byte(256), "", api.ErrArg)
	wantDone(t, new(cursor.Writer).Text(long).Short(1, -1), "", api.ErrArg)
	wantDone(t, new(cursor.Writer).Byte(-1).Text(long), "", api.ErrArg)
}

func TestP1_2NilWriter(t *testing.T) {
	var w *cursor.Writer
	if w.Byte(1) != nil || w.Byte(-1) != nil || w.Short(1) != nil || w.Short(-1) != nil || w.Word(1) != nil || w.Text("a") != nil {
		t.Error("a nil writer answers a writer")
	}
	wantDone(t, w, "", api.ErrArg)
	wantDone(t, w.Byte(1).Text("a"), "", api.ErrArg)
}

func TestP1_2KeepsNoListThatIsHandedIn(t *testing.T) {
	l := []int{1, 2, 3}
	w := new(cursor.Writer).Byte(l[:2]...)
	l[0], l[1] = 9, 9
	wantDone(t, w, "\x01\x02", api.OK)
	if l[2] != 3 {
		t.Error("spare room is changed")
	}
}

// field is one thing that is written, and read again.
type field struct {
	kind, number int
	text         string
}

func TestP1_3WhatIsWrittenIsReadAsItWas(t *testing.T) {
	rnd := rand.New(rand.NewSource(1))
	for range 2000 {
		var l []field
		w := &cursor.Writer{}
		for range rnd.Intn(12) {
			f := field{kind: rnd.Intn(4)}
			switch f.kind {
			case 0:
				f.number = rnd.Intn(256)
				w.Byte(f.number)
			case 1:
				f.number = rnd.Intn(65536)
				w.Short(f.number)
			case 2:
				f.number = int(rnd.Uint32())
				w.Word(uint32(f.number))
			case 3:
				b := make([]byte, rnd.Intn(9))
				rnd.Read(b)
				f.text = string(b)
				w.Text(f.text)
			}
			l = append(l, f)
		}
		s, e := w.Done()
		if e != api.OK {
			t.Fatalf("Done: %d", e)
		}
		wantFields(t, s, l)
	}
}

// wantFields holds what is read from a text against what was written into it.
func wantFields(t *testing.T, s string, l []field) {
	t.Helper()
	r := cursor.Read(s)
	for _, f := range l {
		got := field{kind: f.kind}
		switch f.kind {
		case 0:
			got.number = r.Byte()
		case 1:
			got.number = r.Short()
		case 2:
			got.number = int(r.Word())
		case 3:
			got.text = r.Take(len(f.text))
		}
		if got != f {
			t.Errorf("%v is read as %v", f, got)
		}
	}
	wantReader(t, r, 0, true)
}
