package csma

import (
	"math"
	"math/rand"
	"testing"

	"squelch/tnc"
)

// outside are numbers that no parameter may be.
var outside = []int{math.MinInt, math.MinInt + 1, -1 << 32, -1<<32 + 1, -256, -255, -2, -1, 256, 257, 511, 512, 1 << 16, 1 << 32, 1<<32 + 1, math.MaxInt - 1, math.MaxInt}

// draws are draws about the ends of a byte, of two, and of int.
var draws = []int{math.MinInt, math.MinInt + 1, -1 << 32, -512, -257, -256, -255, -128, -2, -1, 0, 1, 2, 62, 63, 64, 127, 128, 129, 254, 255, 256, 257, 319, 320, 511, 512, 1 << 32, 1<<32 + 63, 1<<32 + 64, math.MaxInt - 1, math.MaxInt}

// asked is what a gate is asked with.
type asked struct {
	p           tnc.Params
	waits, busy bool
	draw        int
}

// wins is a draw that wins in the words of layer 3: its rest by 256, from 0 on, is at most Persist.
func (a asked) wins() bool {
	rest := a.draw % 256
	if rest < 0 {
		rest += 256
	}
	return rest <= a.p.Persist
}

// right says whether parameters are right in the words of layer 3.
func right(p tnc.Params) bool {
	for _, n := range []int{p.TxDelay, p.Persist, p.Slot, p.Tail} {
		if n < 0 || n > 255 {
			return false
		}
	}
	return true
}

// model is a gate in the document's words, point by point.
type model struct{ count int }

func (m *model) step(a asked) bool {
	if !right(a.p) {
		return false
	}
	if !a.waits { // 1
		m.count = 0
		return false
	}
	if a.p.Full { // 2
		return true
	}
	if m.count > 0 { // 3
		m.count = m.count - 1
		return false
	}
	if a.busy { // 4
		return false
	}
	if a.wins() { // 5
		return true
	}
	m.count = a.p.Slot
	return false
}

// twin is a gate, and the model of it.
type twin struct {
	g *Gate
	m *model
}

func newTwin(t *testing.T) twin {
	t.Helper()
	g := New()
	if g == nil || g.Count() != 0 {
		t.Fatal("New: it doesn't count 0")
	}
	return twin{g, &model{}}
}

func (w twin) step(t *testing.T, a asked) bool {
	t.Helper()
	was := w.m.count
	now, want := w.g.Step(a.p, a.waits, a.busy, a.draw), w.m.step(a)
	if now != want || w.g.Count() != w.m.count {
		t.Fatalf("Step(%+v) at %d: %v, Count %d; want %v, %d", a, was, now, w.g.Count(), want, w.m.count)
	}
	if now && (!a.waits || a.busy && !a.p.Full) {
		t.Fatalf("Step(%+v): now, though it may not be", a)
	}
	return now
}

func (w twin) reset(t *testing.T) {
	t.Helper()
	w.g.Reset()
	w.m.count = 0
	if w.g.Count() != 0 {
		t.Fatalf("Reset: Count %d", w.g.Count())
	}
}

// at is a twin that counts n, from 0 to 255.
func at(t *testing.T, n int) twin {
	t.Helper()
	w := newTwin(t)
	w.step(t, asked{p: tnc.Params{Slot: n}, waits: true, draw: 1})
	if w.m.count != n {
		t.Fatalf("the model counts %d; want %d", w.m.count, n)
	}
	return w
}

// P17.1: the example.
func TestP171Example(t *testing.T) {
	p := tnc.Usual()
	p.Persist = 255
	for draw := range 256 {
		if !New().Step(p, true, false, draw) {
			t.Errorf("draw %d: not now", draw)
		}
	}
}

// P17.1: each of the five points by itself, with numbers written out.
func TestP171Points(t *testing.T) {
	p := tnc.Params{Persist: 63, Slot: 3}
	full := p
	full.Full = true
	g := New()
	for i, c := range []struct {
		p           tnc.Params
		waits, busy bool
		draw        int
		now         bool
		count       int
	}{
		{p, false, false, 0, false, 0},
		{p, false, true, 0, false, 0},
		{p, true, true, 0, false, 0},
		{p, true, true, 64, false, 0}, // busy: the draw isn't asked
		{p, true, false, 0, true, 0},
		{p, true, false, 63, true, 0},
		{p, true, false, 64, false, 3},
		{p, true, false, 0, false, 2},
		{p, true, true, 0, false, 1}, // counts while busy, too
		{full, true, true, 255, true, 1},
		{full, true, false, 255, true, 1},
		{p, true, false, 255, false, 0},
		{p, true, false, 255, false, 3}, // loses anew
		{p, false, true, 255, false, 0}, // nothing waits any more
		{p, true, false, 63, true, 0},
		{p, true, false, 64, false, 3},
		{full, false, false, 0, false, 0}, // Full, but nothing waits
	} {
		if now := g.Step(c.p, c.waits, c.busy, c.draw); now != c.now || g.Count() != c.count {
			t.Errorf("step %d: %v, Count %d; want %v, %d", i, now, g.Count(), c.now, c.count)
		}
	}
}

// P17.1: a gate at each count, asked with all of waits, busy and Full, and a draw that wins or doesn't.
func TestP171AllCounts(t *testing.T) {
	for count := range 256 {
		for bits := range 16 {
			for _, slot := range []int{0, 1, 2, 7, 254, 255} {
				w := at(t, count)
				p := tnc.Params{Persist: 10, Slot: slot, Full: bits&1 != 0}
				a := asked{p: p, waits: bits&2 != 0, busy: bits&4 != 0, draw: 10 + bits>>3}
				for range 3 {
					w.step(t, a)
				}
			}
		}
	}
}

// P17.1: each Persist with each draw of a byte, and draws beyond it.
func TestP171Draws(t *testing.T) {
	for persist := range 256 {
		p := tnc.Params{Persist: persist, Slot: 5}
		for draw := -300; draw < 600; draw++ {
			newTwin(t).step(t, asked{p: p, waits: true, draw: draw})
		}
		for _, draw := range draws {
			newTwin(t).step(t, asked{p: p, waits: true, draw: draw})
		}
	}
}

// P17.1: each Slot is counted down to 0, busy or not, whatever Slot is told meanwhile.
func TestP171Slots(t *testing.T) {
	for slot := range 256 {
		w := at(t, slot)
		for i := range slot {
			other := tnc.Params{Persist: 255, Slot: (i * 7) % 256}
			if w.step(t, asked{p: other, waits: true, busy: i%3 == 1, draw: i}) {
				t.Fatalf("Slot %d: now at step %d", slot, i)
			}
			if n := w.g.Count(); n != slot-i-1 {
				t.Fatalf("Slot %d: Count %d at step %d; want %d", slot, n, i, slot-i-1)
			}
		}
		if !w.step(t, asked{p: tnc.Params{Persist: 255}, waits: true}) {
			t.Fatalf("Slot %d: not now when all are waited", slot)
		}
	}
}

// P17.1: TxDelay and Tail, as long as they are right, decide nothing.
func TestP171Others(t *testing.T) {
	for n := range 256 {
		for _, l := range [][2]int{{n, 0}, {0, n}, {n, 255}, {255, n}} {
			p := tnc.Params{TxDelay: l[0], Persist: 63, Slot: 4, Tail: l[1]}
			if !New().Step(p, true, false, 63) {
				t.Errorf("%+v: not now", p)
			}
			g := New()
			if g.Step(p, true, false, 64) || g.Count() != 4 {
				t.Errorf("%+v: Count %d", p, g.Count())
			}
		}
	}
}

// P17.1: of parameters that aren't right it is not now, and nothing is done: the count stays, even if nothing waits, or Full.
func TestP171Wrong(t *testing.T) {
	for _, n := range outside {
		for place := range 4 {
			l := [4]int{2, 255, 1, 1}
			l[place] = n
			for bits := range 8 {
				p := tnc.Params{TxDelay: l[0], Persist: l[1], Slot: l[2], Tail: l[3], Full: bits&1 != 0}
				for _, count := range []int{0, 1, 2, 255} {
					w := at(t, count)
					for _, draw := range []int{0, 255, -1} {
						now := w.step(t, asked{p: p, waits: bits&2 != 0, busy: bits&4 != 0, draw: draw})
						if now || w.g.Count() != count {
							t.Fatalf("%+v: %v, Count %d; want %d", p, now, w.g.Count(), count)
						}
					}
				}
			}
		}
	}
}

// P17.1: the ends of each number are right.
func TestP171Ends(t *testing.T) {
	for bits := range 16 {
		p := tnc.Params{TxDelay: 255 * (bits & 1), Persist: 255 * (bits >> 1 & 1), Slot: 255 * (bits >> 2 & 1), Tail: 255 * (bits >> 3 & 1)}
		if !New().Step(p, true, false, 0) {
			t.Errorf("%+v: not now", p)
		}
		w := newTwin(t)
		w.step(t, asked{p: p, waits: true, draw: 255})
	}
}

// P17.1: Reset at each count, and what is asked behind it.
func TestP171Reset(t *testing.T) {
	for count := range 256 {
		w := at(t, count)
		w.reset(t)
		w.reset(t)
		if !w.step(t, asked{p: tnc.Params{Slot: 9}, waits: true, draw: 0}) {
			t.Fatalf("Reset at %d: not now", count)
		}
	}
}

// P17.1: all orders of four steps out of those that differ.
func TestP171Orders(t *testing.T) {
	var steps []func(*testing.T, twin)
	for bits := range 32 {
		p := tnc.Params{Persist: 100, Slot: 1 + bits>>4, Full: bits&1 != 0}
		a := asked{p: p, waits: bits&2 != 0, busy: bits&4 != 0, draw: 100 + bits>>3&1}
		steps = append(steps, func(t *testing.T, w twin) { w.step(t, a) })
	}
	wrong := asked{p: tnc.Params{Persist: 256}, waits: true}
	steps = append(steps, func(t *testing.T, w twin) { w.step(t, wrong) }, func(t *testing.T, w twin) { w.reset(t) })
	all := len(steps) * len(steps) * len(steps) * len(steps)
	for order := range all {
		w := newTwin(t)
		for n := order; n > 0; n /= len(steps) {
			steps[n%len(steps)](t, w)
		}
	}
}

// P17.1: random orders of all that can be asked.
func TestP171Random(t *testing.T) {
	r := rand.New(rand.NewSource(17))
	for range 2000 {
		w := newTwin(t)
		for range 100 {
			switch p := (tnc.Params{TxDelay: r.Intn(256), Persist: r.Intn(256), Slot: r.Intn(4), Tail: r.Intn(256), Full: r.Intn(8) == 0}); r.Intn(20) {
			case 0:
				w.reset(t)
			case 1:
				p.Slot = outside[r.Intn(len(outside))]
				w.step(t, asked{p: p, waits: r.Intn(2) == 0, busy: r.Intn(2) == 0, draw: r.Intn(256)})
			default:
				w.step(t, asked{p: p, waits: r.Intn(10) != 0, busy: r.Intn(3) == 0, draw: r.Int() - r.Int()})
			}
		}
	}
}

// P17.1: the nil gate.
func TestP171Nil(t *testing.T) {
	var g *Gate
	for bits := range 8 {
		p := tnc.Params{Persist: 255, Full: bits&1 != 0}
		if g.Step(p, bits&2 != 0, bits&4 != 0, 0) {
			t.Errorf("Step of the nil gate: now, %d", bits)
		}
	}
	g.Reset()
	if n := g.Count(); n != 0 {
		t.Errorf("Count of the nil gate: %d", n)
	}
}

// P17.1: two gates have nothing in common.
func TestP171Apart(t *testing.T) {
	a, b := at(t, 5), at(t, 9)
	a.step(t, asked{p: tnc.Params{}, waits: true})
	b.reset(t)
	if a.g.Count() != 4 || b.g.Count() != 0 {
		t.Errorf("Counts %d, %d; want 4, 0", a.g.Count(), b.g.Count())
	}
}

// P17.2: from each count, whatever went on ahead, it is now within the greatest Slot and two, if all draws win.
func TestP172Slots(t *testing.T) {
	for slot := range 256 {
		for count := 0; count <= slot; count++ {
			w := at(t, count)
			steps := 1
			for !w.step(t, asked{p: tnc.Params{Persist: 255, Slot: slot}, waits: true, draw: steps * 37}) {
				steps++
				if steps > slot+2 {
					t.Fatalf("Slot %d, count %d: not now within %d", slot, count, slot+2)
				}
			}
			if steps != count+1 {
				t.Fatalf("Slot %d, count %d: now at step %d", slot, count, steps)
			}
		}
	}
}

// P17.2: the same behind random steps, with Slots that change.
func TestP172Random(t *testing.T) {
	r := rand.New(rand.NewSource(172))
	for range 3000 {
		w, greatest := newTwin(t), 0
		slot := func() int {
			n := r.Intn(1 << r.Intn(9))
			greatest = max(greatest, n)
			return n
		}
		for range r.Intn(40) {
			w.step(t, asked{p: tnc.Params{Persist: r.Intn(256), Slot: slot()}, waits: r.Intn(5) != 0, busy: r.Intn(2) == 0, draw: r.Intn(256)})
		}
		steps := 1
		for {
			persist := r.Intn(256)
			if w.step(t, asked{p: tnc.Params{Persist: persist, Slot: slot()}, waits: true, draw: r.Intn(persist + 1)}) {
				break
			}
			steps++
			if steps > greatest+2 {
				t.Fatalf("not now within %d", greatest+2)
			}
		}
	}
}
