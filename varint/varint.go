// Package varint is layer 1, numbers and texts in bytes: see shared/doc/01-varint.md.
package varint

import (
	"strings"

	"flotsam/api"
)

// longest is how many bytes of seven bits 64 bits need.
const longest = 10

// Put writes a number, Get reads one from a place on.
func Put(n int) string {
	code := codeOf(n)
	var room [longest]byte
	used := 0
more:
	if code > 0x7f {
		room[used] = byte(code) | 0x80
		used++
		code >>= 7
		goto more
	}
	room[used] = byte(code)
	return string(room[:used+1])
}

func Get(s string, at int) (int, int, api.Errno) {
	if !within(s, at) {
		return 0, 0, api.ErrArg
	}
	var code uint64
	i := 0
next:
	if i == longest {
		return 0, 0, api.ErrForm
	}
	if i == len(s)-at {
		return 0, 0, api.ErrCut
	}
	b := s[at+i]
	code |= uint64(b&0x7f) << (7 * i)
	i++
	if b > 0x7f {
		goto next
	}
	if !shortest(b, i) {
		return 0, 0, api.ErrForm
	}
	return numberOf(code), at + i, api.OK
}

// Fixed writes a number in eight bytes or fewer, Read reads one.
func Fixed(n int, width int) (string, api.Errno) {
	if !wide(width) || n < 0 || n>>(8*width) != 0 {
		return "", api.ErrArg
	}
	var room [8]byte
	for i := width - 1; i >= 0; i-- {
		room[i] = byte(n)
		n >>= 8
	}
	return string(room[:width]), api.OK
}

func Read(s string, at int, width int) (int, int, api.Errno) {
	if !within(s, at) || !wide(width) {
		return 0, 0, api.ErrArg
	}
	if len(s)-at < width {
		return 0, 0, api.ErrCut
	}
	var n uint64
	for i := range width {
		n = n<<8 | uint64(s[at+i])
	}
	if n>>63 != 0 {
		return 0, 0, api.ErrForm
	}
	return int(n), at + width, api.OK
}

// Text writes a text behind its length, Take reads one.
func Text(s string) string { return Put(len(s)) + s }

func Take(s string, at int, most int) (string, int, api.Errno) {
	n, place, e := Get(s, at)
	if e != api.OK {
		return "", 0, e
	}
	if n < 0 || n > most {
		return "", 0, api.ErrForm
	}
	if len(s)-place < n {
		return "", 0, api.ErrCut
	}
	// A piece of s would keep all of s alive as long as it lives itself.
	return strings.Clone(s[place : place+n]), place + n, api.OK
}

func codeOf(n int) uint64 {
	if n < 0 {
		// -(n+1), since -n has no room in an int where n is the least one.
		return 2*uint64(-(n+1)) + 1
	}
	return 2 * uint64(n)
}

func numberOf(code uint64) int {
	if code%2 == 1 {
		return -int(code/2) - 1
	}
	return int(code / 2)
}

// shortest tells whether n bytes, of which b is the last one, are a code that could not do with fewer of them.
func shortest(b byte, n int) bool {
	if n == longest {
		// Nine bytes hold 63 bits: the tenth has just one more to give.
		return b == 1
	}
	return n == 1 || b != 0
}

func within(s string, at int) bool { return at >= 0 && at <= len(s) }

func wide(width int) bool { return width >= 1 && width <= 8 }
