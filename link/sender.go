package link

import (
	"squelch/api"
	"squelch/buf"
	"squelch/seg"
	"squelch/seq"
	"squelch/xid"
)

// The moduli of numbers.
const (
	narrowModulus = 8
	wideModulus   = 128
)

// modulus is below what the numbers of a link go round.
func modulus(wide bool) int {
	if wide {
		return wideModulus
	}
	return narrowModulus
}

// sender is what a link sends while it is up.
type sender struct {
	box     *buf.Box
	outs    *seq.Out
	open    map[int]seg.Piece // what wasn't acknowledged, by its number
	busy    bool              // the other side is
	polling bool              // a poll wasn't answered
}

func newSender(p xid.Params) sender {
	box, _ := buf.New(p.N1)
	outs, _ := seq.NewOut(modulus(p.Wide), p.K)
	return sender{box: box, outs: outs, open: map[int]seg.Piece{}}
}

// next opens the next piece, if one may go: its number.
func (s *sender) next() (int, bool) {
	if s.busy || s.polling || s.box.Len() == 0 {
		return 0, false
	}
	ns, e := s.outs.Next()
	if e != api.OK {
		return 0, false
	}
	s.open[ns], _ = s.box.Next()
	return ns, true
}

// acknowledge closes all that is ahead of a number: how many these are, and whether the number may be.
func (s *sender) acknowledge(nr int) (int, bool) {
	open := s.outs.Open()
	n, e := s.outs.Acks(nr)
	for _, ns := range open[:n] {
		delete(s.open, ns)
	}
	return n, e == api.OK
}

// awaits tells whether the other side is to answer something.
func (s *sender) awaits() bool { return s.polling || len(s.open) > 0 }

// waiting is how many messages wait: all that is open counts as one.
func (s *sender) waiting() int {
	n := s.box.Len()
	if len(s.open) > 0 {
		n++
	}
	return n
}
