package link

import (
	"squelch/api"
	"squelch/seg"
	"squelch/seq"
	"squelch/xid"
)

// How far ahead of the one that is awaited numbers may be, and come.
const (
	narrowAhead = 1
	wideAhead   = 64
)

// taker is what a link takes while it is up.
type taker struct {
	ins      *seq.In
	kept     map[int]seg.Piece // what came ahead of its time, by its number
	asked    map[int]struct{}  // what was asked for by SREJ, and didn't come
	rejected bool              // REJ was told, and the one that is awaited didn't come
	gatherer *seg.Gatherer
	held     bool // whether the link is up or not
}

func newTaker(p xid.Params, held bool) taker {
	ahead := narrowAhead
	if p.Wide {
		ahead = wideAhead
	}
	ins, _ := seq.NewIn(modulus(p.Wide), ahead)
	return taker{ins: ins, kept: map[int]seg.Piece{}, asked: map[int]struct{}{}, gatherer: seg.New(), held: held}
}

// accept takes a piece: those that come in order by it, and whether it isn't dropped.
func (t *taker) accept(ns int, p seg.Piece) ([]seg.Piece, bool) {
	numbers, e := t.ins.Take(ns)
	if e != api.OK {
		return nil, false
	}
	t.kept[ns] = p
	delete(t.asked, ns)
	var l []seg.Piece
	for _, n := range numbers {
		l = append(l, t.kept[n])
		delete(t.kept, n)
		t.rejected = false
	}
	return l, true
}

// unasked is the numbers that are missing, and weren't asked for: from now on they were.
func (t *taker) unasked() []int {
	var l []int
	for _, n := range t.ins.Missing() {
		if _, ok := t.asked[n]; !ok {
			t.asked[n] = struct{}{}
			l = append(l, n)
		}
	}
	return l
}
