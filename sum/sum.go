// Package sum is layer 2: check sums of internet datagrams.
package sum

import (
	"guerite/api"
	"guerite/cursor"
)

// most is the greatest short; sums of shorts are taken modulo it.
const most = 65535

// fold brings the carries round: 0 stays 0, all else ends from 1 to 65535.
func fold(n uint64) int {
	for n > most {
		n = n>>16 + n&most
	}
	return int(n)
}

// adder is a sum that goes on from text to text: it remembers which half of a short is next, as a text of odd length ends within one.
func adder() func(s string) int {
	total, high := uint64(0), true
	return func(s string) int {
		for i := range len(s) {
			half := uint64(s[i])
			if high {
				half <<= 8
			}
			total += half
			high = !high
		}
		return fold(total)
	}
}

// Of is the check sum of texts.
func Of(l ...string) int {
	add, n := adder(), 0
	for _, s := range l {
		n = add(s)
	}
	return most - n
}

// Good tells whether texts are good.
func Good(l ...string) bool {
	return Of(l...) == 0
}

func isShort(n int) bool {
	return n >= 0 && n <= most
}

// Update is the check sum behind a change of a short.
func Update(sum, was, now int) int {
	if !isShort(sum) || !isShort(was) || !isShort(now) {
		return 0
	}
	// To add most - was is to take was away: they are the same modulo most, and nothing gets below 0.
	return most - fold(uint64(most-sum)+uint64(most-was)+uint64(now))
}

// Put puts the check sum of a text into it.
func Put(s string, at int) (string, api.Errno) {
	if at < 0 || at%2 != 0 || at > len(s)-2 {
		return "", api.ErrArg
	}
	ahead, behind := s[:at], s[at+2:]
	w := &cursor.Writer{}
	short, _ := w.Short(Of(ahead, "\x00\x00", behind)).Done() // a check sum is always a short
	return ahead + short + behind, api.OK
}

// Pseudo is what stands ahead of a segment in its check sum.
func Pseudo(src, dst uint32, proto, size int) string {
	w := &cursor.Writer{}
	s, _ := w.Word(src, dst).Byte(0, proto&255).Short(size & most).Done()
	return s
}
