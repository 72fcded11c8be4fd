// Package fcs is layer 1: the check sum of frames: see shared/doc/01-fcs.md.
package fcs

import (
	"strings"

	"squelch/api"
)

const (
	poly   = 0x8408 // where the register is turned when a bit is unlike its own
	start  = 0xFFFF // the register at first
	sumLen = 2      // bytes of a sum
	maxFix = 340    // bytes of a text up to which a turned bit is looked for
)

// Table is what eight steps make of each byte.
type Table [256]uint16

// New is the table.
func New() *Table {
	var t Table
	for b := range 256 {
		t[b] = eightSteps(uint16(b))
	}
	return &t
}

// eightSteps is what a register becomes by eight bits that are 0.
func eightSteps(r uint16) uint16 {
	for range 8 {
		unlike := r&1 == 1
		r >>= 1
		if unlike {
			r ^= poly
		}
	}
	return r
}

// Sum is the sum of texts.
func (t *Table) Sum(l ...string) uint16 {
	if t == nil {
		return 0
	}
	r := uint16(start)
	for _, s := range l {
		for i := range len(s) {
			r = t.step(r ^ uint16(s[i]))
		}
	}
	return ^r
}

// step does what eightSteps does: the high byte only moves down, so that the low one alone decides where bits are turned.
func (t *Table) step(r uint16) uint16 {
	return r>>8 ^ t[byte(r)]
}

// Seal is texts with their sum.
func (t *Table) Seal(l ...string) string {
	if t == nil {
		return ""
	}
	sum := t.Sum(l...)
	return strings.Join(l, "") + string([]byte{byte(sum), byte(sum >> 8)})
}

// Open is what was sealed.
func (t *Table) Open(s string) (string, api.Errno) {
	switch {
	case t == nil:
		return "", api.ErrArg
	case len(s) < sumLen:
		return "", api.ErrShort
	case t.wrong(s) != 0:
		return "", api.ErrSum
	}
	return inside(s), api.OK
}

// wrong has ones where the sum at the end of s isn't that of the rest.
func (t *Table) wrong(s string) uint16 {
	n := len(s) - sumLen
	return t.Sum(s[:n]) ^ uint16(s[n]) ^ uint16(s[n+1])<<8
}

// inside is s without its sum: a copy, for what is answered shares no memory with an argument.
func inside(s string) string {
	return strings.Clone(s[:len(s)-sumLen])
}

// Fix is what was sealed, if at most one bit was turned.
func (t *Table) Fix(s string) (string, int, api.Errno) {
	text, e := t.Open(s)
	if e != api.ErrSum || len(s) > maxFix {
		return text, -1, e
	}
	k := t.turnedBit(len(s), t.wrong(s))
	if k < 0 {
		return "", -1, e
	}
	return inside(turn(s, k)), k, api.OK
}

// turnedBit is which bit of n bytes makes the sum wrong in just those places; -1, if none does.
// What a turned bit makes wrong hangs on its place alone, not on the other bits. So it is carried back from the last byte to the first, a step a byte, and no text is summed anew.
func (t *Table) turnedBit(n int, wrong uint16) int {
	var makes [8]uint16
	for b := range makes {
		makes[b] = 1 << (8 + b)
	}
	for i := n - 1; i >= 0; i-- {
		for b, w := range makes {
			if w == wrong {
				return 8*i + b
			}
			makes[b] = t.step(w)
		}
	}
	return -1
}

// turn is s with its k-th bit turned.
func turn(s string, k int) string {
	b := []byte(s)
	b[k/8] ^= 1 << (k % 8)
	return string(b)
}
