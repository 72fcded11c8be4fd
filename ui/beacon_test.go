package ui

import (
	"math"
	"math/rand"
	"slices"
	"strings"
	"testing"
	"unsafe"

	"squelch/api"
)

// outside are numbers of ticks to which no beacon is set.
var outside = []int{math.MinInt, -1 << 32, -1<<32 + 1, -10001, -10000, -2, -1, 10001, 10002, 20000, 1 << 16, 1<<16 + 1, 1 << 32, 1<<32 + 1, 1<<32 + 10000, math.MaxInt}

// wrongGrams can't go, and why.
var wrongGrams = []struct {
	g Gram
	e api.Errno
}{
	{Gram{}, api.ErrPath},
	{Gram{To: c("b"), Text: "hi"}, api.ErrPath},
	{Gram{To: n("B", 16)}, api.ErrPath},
	{Gram{To: c("B"), Digis: []api.Call{c("D"), c("e")}}, api.ErrPath},
	{Gram{To: c("B"), Digis: many(9)}, api.ErrPath},
	{Gram{To: c("B"), Digis: many(9), Text: strings.Repeat("x", 257)}, api.ErrPath},
	{Gram{To: c("B"), Text: strings.Repeat("x", 257)}, api.ErrLong},
	{Gram{To: c("B"), Pid: -1, Text: strings.Repeat("x", 600)}, api.ErrLong},
}

// P22.1: a new beacon is off, and stays off.
func TestP221New(t *testing.T) {
	for _, x := range rightCalls {
		w := newTwin(t, x)
		for range 20 {
			w.tick(t)
		}
	}
	for _, x := range wrongCalls {
		if b, e := New(x); b != nil || e != api.ErrCall {
			t.Errorf("New(%v): %v, %v", x, b, e)
		}
	}
}

// P22.1: what is due is a datagram of the beacon's call, with Pid 240, whatever the given one says of these.
func TestP221Goes(t *testing.T) {
	for _, own := range rightCalls {
		for _, from := range append([]api.Call{{}, own, c("Q"), n("AB", 9)}, wrongCalls...) {
			for _, pid := range append([]int{0, 1, 239, 240, 241, 255}, wrongPids...) {
				w := newTwin(t, own)
				if e := w.set(t, 2, Gram{From: from, To: c("QST"), Digis: []api.Call{c("D"), n("E", 2)}, Pid: pid, Text: "I am here"}); e != api.OK {
					t.Fatalf("from %v, Pid %d: %v", from, pid, e)
				}
				w.tick(t)
				s, due := w.tick(t)
				want := Gram{From: own, To: c("QST"), Digis: []api.Call{c("D"), n("E", 2)}, Pid: 240, Text: "I am here"}
				if g, e := Get(s); !due || e != api.OK || !same(g, want) {
					t.Fatalf("from %v, Pid %d: %v, %v, %v", from, pid, g, e, due)
				}
			}
		}
	}
}

// P22.1: texts, and paths, of each length.
func TestP221BeaconTexts(t *testing.T) {
	w := newTwin(t, n("N0CALL", 7))
	for length := range 257 {
		if e := w.set(t, 1, gram(strings.Repeat("x", length), many(length%9)...)); e != api.OK {
			t.Fatalf("%d bytes: %v", length, e)
		}
		if s, due := w.tick(t); !due || len(s) != 14+7*(length%9)+2+length {
			t.Fatalf("%d bytes: %q, %v", length, s, due)
		}
	}
}

// P22.1: it is due just each every ticks, for each number of them at the ends, and between.
func TestP221Due(t *testing.T) {
	for _, every := range []int{1, 2, 3, 4, 5, 7, 16, 60, 255, 256, 257, 600, 1000, 9999, 10000} {
		w := newTwin(t, c("A"))
		if e := w.set(t, every, gram("hi")); e != api.OK || w.b.Left() != every {
			t.Fatalf("%d: %v, Left %d", every, e, w.b.Left())
		}
		for i := range 4*every + 3 {
			s, due := w.tick(t)
			if due != ((i+1)%every == 0) || due == (s == "") {
				t.Fatalf("every %d, tick %d: %q, %v", every, i+1, s, due)
			}
		}
	}
}

// P22.1: each number of ticks may be.
func TestP221Every(t *testing.T) {
	w := newTwin(t, c("A"))
	for every := range 10001 {
		if e := w.set(t, every, gram("hi")); e != api.OK || w.b.Every() != every || w.b.Left() != every {
			t.Fatalf("%d: %v, Every %d, Left %d", every, e, w.b.Every(), w.b.Left())
		}
	}
}

// P22.1: numbers outside are refused, whatever the datagram is, and all stays as it was.
func TestP221Outside(t *testing.T) {
	for _, every := range outside {
		for _, g := range []Gram{gram("hi"), gram("other", c("D")), {}, wrongGrams[6].g} {
			w := newTwin(t, c("A"))
			if e := w.set(t, every, g); e != api.ErrArg {
				t.Errorf("Set(%d) of one that is off: %v", every, e)
			}
			for range 5 {
				w.tick(t)
			}
			w.set(t, 3, gram("hello"))
			w.tick(t)
			if e := w.set(t, every, g); e != api.ErrArg || w.b.Every() != 3 || w.b.Left() != 2 {
				t.Errorf("Set(%d): %v, Every %d, Left %d", every, e, w.b.Every(), w.b.Left())
			}
			for range 7 {
				w.tick(t)
			}
		}
	}
}

// P22.1: what can't go is refused, and all stays as it was, at each tick of the way.
func TestP221WrongGrams(t *testing.T) {
	for _, x := range wrongGrams {
		for _, every := range []int{1, 2, 3, 10000} {
			w := newTwin(t, c("A"))
			if e := w.set(t, every, x.g); e != x.e {
				t.Errorf("Set(%d, %v): %v; want %v", every, x.g, e, x.e)
			}
			w.tick(t)
			w.set(t, 3, gram("hello", c("D")))
			for range 8 {
				if e := w.set(t, every, x.g); e != x.e || w.b.Every() != 3 {
					t.Errorf("Set(%d, %v): %v, Every %d", every, x.g, e, w.b.Every())
				}
				w.tick(t)
			}
		}
	}
}

// P22.1: it goes off, whatever the datagram is.
func TestP221Off(t *testing.T) {
	grams := []Gram{gram("hi")}
	for _, x := range wrongGrams {
		grams = append(grams, x.g)
	}
	for _, g := range grams {
		for ticks := range 5 {
			w := newTwin(t, c("A"))
			w.set(t, 2, gram("hello"))
			for range ticks {
				w.tick(t)
			}
			if e := w.set(t, 0, g); e != api.OK || w.b.Every() != 0 || w.b.Left() != 0 {
				t.Errorf("Set(0, %v): %v, Every %d, Left %d", g, e, w.b.Every(), w.b.Left())
			}
			for range 5 {
				if s, due := w.tick(t); due || s != "" {
					t.Errorf("one that is off: %q, %v", s, due)
				}
			}
			w.set(t, 2, gram("again"))
			for range 5 {
				w.tick(t)
			}
		}
	}
	w := newTwin(t, c("A"))
	if e := w.set(t, 0, Gram{}); e != api.OK {
		t.Errorf("Set(0) of one that is off: %v", e)
	}
}

// P22.1: it is set anew at each tick of the way, to the same number and to others, and begins anew.
func TestP221Anew(t *testing.T) {
	for every := 1; every < 6; every++ {
		for next := 1; next < 6; next++ {
			for ticks := range 2*every + 1 {
				w := newTwin(t, c("A"))
				w.set(t, every, gram("one"))
				for range ticks {
					w.tick(t)
				}
				if w.set(t, next, gram("two", c("D"))); w.b.Left() != next {
					t.Fatalf("%d, then %d: Left %d", every, next, w.b.Left())
				}
				for range 3 * next {
					w.tick(t)
				}
			}
		}
	}
}

// P22.1: all orders of six steps.
func TestP221Orders(t *testing.T) {
	steps := []func(*testing.T, twin){
		func(t *testing.T, w twin) { w.tick(t) },
		func(t *testing.T, w twin) { w.set(t, 1, gram("one")) },
		func(t *testing.T, w twin) { w.set(t, 2, gram("two", c("D"))) },
		func(t *testing.T, w twin) { w.set(t, 0, Gram{}) },
		func(t *testing.T, w twin) { w.set(t, 10001, gram("three")) },
		func(t *testing.T, w twin) { w.set(t, 3, Gram{}) },
	}
	const count = 6
	for order := range 46656 { // count to the sixth
		w := newTwin(t, c("A"))
		for x := order; x > 0; x /= count {
			steps[x%count](t, w)
		}
		for range 3 {
			w.tick(t)
		}
	}
}

// P22.1: random orders.
func TestP221RandomBeacon(t *testing.T) {
	r := rand.New(rand.NewSource(223))
	everies := slices.Concat([]int{0, 0, 1, 2, 3, 5, 8, 13, 100, 10000}, outside[6:8])
	for range 200 {
		w := newTwin(t, rightCalls[r.Intn(len(rightCalls))])
		for range 400 {
			switch r.Intn(20) {
			case 0:
				w.set(t, everies[r.Intn(len(everies))], wrongGrams[r.Intn(len(wrongGrams))].g)
			case 1, 2:
				g := gram(strings.Repeat("x", r.Intn(20)), many(r.Intn(9))...)
				g.From, g.Pid = many(3)[r.Intn(3)], r.Intn(400)-50
				w.set(t, everies[r.Intn(len(everies))], g)
			default:
				w.tick(t)
			}
		}
		if w.m.right == 0 || w.m.wrong == 0 {
			t.Errorf("%d settings were taken, %d refused", w.m.right, w.m.wrong)
		}
	}
}

// P22.1: the nil beacon.
func TestP221Nil(t *testing.T) {
	var b *Beacon
	for _, every := range []int{-1, 0, 1, 10000, 10001} {
		for _, g := range []Gram{{}, gram("hi")} {
			if e := b.Set(every, g); e != api.ErrArg {
				t.Errorf("Set(%d) of the nil beacon: %v", every, e)
			}
		}
	}
	if s, due := b.Tick(); s != "" || due || b.Every() != 0 || b.Left() != 0 {
		t.Errorf("the nil beacon: %q, %v, %d, %d", s, due, b.Every(), b.Left())
	}
}

// P22.1: a beacon keeps nothing of an argument's memory, and hands out nothing of its own.
func TestP221BeaconMemory(t *testing.T) {
	letters := []byte("ABDhello")
	text := unsafe.String(&letters[0], len(letters))
	w := newTwin(t, api.Call{Base: text[:1]})
	w.m.from = c("A")
	room := make([]api.Call, 1, 8)
	room[0] = api.Call{Base: text[2:3]}
	if e := w.b.Set(1, Gram{To: api.Call{Base: text[1:2]}, Digis: room, Text: text[3:]}); e != api.OK {
		t.Fatal(e)
	}
	w.m.set(1, Gram{To: c("B"), Digis: []api.Call{c("D")}, Text: "hello"})
	if string(letters) != "ABDhello" || room[0] != c("D") || room[:2][1] != (api.Call{}) {
		t.Errorf("Set wrote into its argument: %q, %v", letters, room[:2])
	}
	room[0] = c("E")
	copy(letters, "XXXXXXXX")
	first, _ := w.tick(t)
	if second, _ := w.tick(t); within(second, first) {
		t.Error("two answers share their memory")
	}
	if e := w.set(t, 1, gram("more")); e != api.OK {
		t.Error(e)
	}
	w.tick(t)
}

// P22.1: two beacons have nothing in common.
func TestP221Apart(t *testing.T) {
	a, b, off := newTwin(t, c("A")), newTwin(t, c("B")), newTwin(t, c("A"))
	a.set(t, 2, gram("one"))
	a.tick(t)
	b.set(t, 3, gram("two"))
	for range 12 {
		a.tick(t)
		b.tick(t)
		off.tick(t)
	}
	a.set(t, 0, Gram{})
	b.tick(t)
}
