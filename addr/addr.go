// Package addr is layer 3: addresses.
package addr

import (
	"strconv"
	"strings"

	"guerite/api"
)

// The kinds of addresses.
const (
	Zero = iota
	Loop
	Many
	Kept
	One
)

// split is an address's bytes, the highest first.
func split(a uint32) [4]byte {
	return [4]byte{byte(a >> 24), byte(a >> 16), byte(a >> 8), byte(a)}
}

// number reads a number from 0 to most, and only as it is told: without a sign, or a nought ahead.
func number(s string, most int) (int, bool) {
	n, err := strconv.Atoi(s)
	if err != nil || n < 0 || n > most || strconv.Itoa(n) != s {
		return 0, false
	}
	return n, true
}

// Text is an address, told.
func Text(a uint32) string {
	var told [4]string
	for i, b := range split(a) {
		told[i] = strconv.Itoa(int(b))
	}
	return strings.Join(told[:], ".")
}

// Parse is the address that is told so.
func Parse(s string) (uint32, bool) {
	parts := strings.SplitN(s, ".", 5) // a fifth part is one too many already
	if len(parts) != 4 {
		return 0, false
	}
	a := uint32(0)
	for _, part := range parts {
		n, ok := number(part, 255)
		if !ok {
			return 0, false
		}
		a = a<<8 | uint32(n)
	}
	return a, true
}

func within32(bits int) int {
	return min(max(bits, 0), 32)
}

// Mask is so many bits.
func Mask(bits int) uint32 {
	return ^uint32(0) << (32 - within32(bits))
}

// Cut is the prefix of an address.
func Cut(a uint32, bits int) api.Prefix {
	return api.Prefix{Addr: a & Mask(bits), Bits: within32(bits)}
}

// Right tells whether a prefix is right.
func Right(p api.Prefix) bool {
	return Holds(p, p.Addr)
}

// Holds tells whether a prefix holds an address. A prefix that isn't right is never what Cut answers.
func Holds(p api.Prefix, a uint32) bool {
	return Cut(a, p.Bits) == p
}

// Within tells whether a prefix lies within another one.
func Within(p, q api.Prefix) bool {
	return Right(p) && p.Bits >= q.Bits && Holds(q, p.Addr)
}

// PrefixText is a prefix, told.
func PrefixText(p api.Prefix) string {
	if !Right(p) {
		return ""
	}
	return Text(p.Addr) + "/" + strconv.Itoa(p.Bits)
}

// ParsePrefix is the prefix that is told so.
func ParsePrefix(s string) (api.Prefix, bool) {
	first, second, _ := strings.Cut(s, "/")
	a, aOk := Parse(first)
	bits, bitsOk := number(second, 32)
	p := api.Prefix{Addr: a, Bits: bits}
	if !aOk || !bitsOk || !Right(p) {
		return api.Prefix{}, false
	}
	return p, true
}

// Kind is an address's kind.
func Kind(a uint32) int {
	switch first := split(a)[0]; {
	case first == 0:
		return Zero
	case first == 127:
		return Loop
	case first >= 240:
		return Kept
	case first >= 224:
		return Many
	}
	return One
}
