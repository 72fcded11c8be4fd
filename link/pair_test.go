package link

import (
	"fmt"
	"math/rand"
	"slices"
	"testing"

	"squelch/api"
	"squelch/ctl"
	"squelch/frame"
	"squelch/path"
	"squelch/xid"
)

// side is one link of two, and what is on its way from it.
type side struct {
	l          *Link
	way        []frame.Frame
	sent, came []Event // since it came up last
	ups        int
	wides      int
	asksFor    int // how many frames were told that ask for something again
}

// pair is both.
type pair [2]*side

func newPair(t *testing.T, can, other xid.Params) pair {
	t.Helper()
	a, e := New(from(callA, callB, true, callC), can)
	b, f := New(from(callB, callA, true, callC), other)
	if e != api.OK || f != api.OK {
		t.Fatal(e, f)
	}
	return pair{{l: a}, {l: b}}
}

// told is what a side told: its frames go on their way.
func (w pair) told(t *testing.T, i int, o Out) {
	t.Helper()
	s := w[i]
	if o.Fresh {
		s.way = nil
	}
	for _, f := range o.Frames {
		w.check(t, s.l, f)
		if f.Kind == ctl.REJ || f.Kind == ctl.SREJ {
			s.asksFor++
		}
	}
	s.way = append(s.way, o.Frames...)
	for _, e := range o.Events {
		switch e.Kind {
		case Up, Again:
			s.sent, s.came = nil, nil
			s.ups++
			if s.l.Wide() {
				s.wides++
			}
		case Data:
			s.came = append(s.came, e)
		}
	}
	w.inOrder(t)
}

// check is P20.3.
func (w pair) check(t *testing.T, l *Link, f frame.Frame) {
	t.Helper()
	if !frame.Right(f, l.Wide()) {
		t.Fatalf("%s isn't right", frame.Text(f))
	}
	if path.Text(f.Path) != path.Text(l.Path()) || path.Command(f.Path) == path.Response(f.Path) {
		t.Fatalf("%s doesn't go along %s", frame.Text(f), path.Text(l.Path()))
	}
	if len(l.outs.Open()) > l.Params().K {
		t.Fatalf("%v are open; K is %d", l.outs.Open(), l.Params().K)
	}
}

// inOrder is P20.1.
func (w pair) inOrder(t *testing.T) {
	t.Helper()
	if !w.up() {
		return
	}
	for i, s := range w {
		n := len(s.came)
		if sent := w[1-i].sent; n > len(sent) || !slices.Equal(s.came, sent[:n]) {
			t.Fatalf("%v came; %v were sent", s.came, sent)
		}
	}
}

func (w pair) up() bool { return w[0].l.State() == IsUp && w[1].l.State() == IsUp }

func (w pair) connect(i int) {
	if o, e := w[i].l.Connect(); e == api.OK {
		w[i].way = o.Frames
	}
}

func (w pair) send(t *testing.T, i, pid int, text string) {
	t.Helper()
	o, e := w[i].l.Send(pid, text)
	if e == api.OK {
		w[i].sent = append(w[i].sent, Event{Data, pid, text})
	}
	w.told(t, i, o)
}

// pass lets the first frame of a side come, or be lost.
func (w pair) pass(t *testing.T, i int, lost bool) {
	t.Helper()
	s := w[i]
	if len(s.way) == 0 {
		return
	}
	f := s.way[0]
	s.way = s.way[1:]
	if !lost {
		for j := range f.Digis {
			f.Digis[j].Has = true
		}
		w.told(t, 1-i, w[1-i].l.Take(f))
	}
}

func (w pair) tick(t *testing.T) {
	t.Helper()
	for i, s := range w {
		w.told(t, i, s.l.Tick())
	}
}

// settle lets ticks go by in which all comes that is on its way.
func (w pair) settle(t *testing.T, ticks int) {
	t.Helper()
	for range ticks {
		for len(w[0].way)+len(w[1].way) > 0 {
			w.pass(t, 0, false)
			w.pass(t, 1, false)
		}
		w.tick(t)
	}
}

// all says whether all that was sent came.
func (w pair) all() bool {
	return len(w[0].came) == len(w[1].sent) && len(w[1].came) == len(w[0].sent) && w[0].l.Waits()+w[1].l.Waits() == 0
}

// quiet says whether nothing is on its way by which a side would go down, or begin anew, and both may poll once more.
func (w pair) quiet() bool {
	for _, s := range w {
		for _, f := range s.way {
			if f.Kind >= ctl.SABM {
				return false
			}
		}
		if s.l.tries >= s.l.Params().N2 {
			return false
		}
	}
	return w.up()
}

// step lets something happen, of which one part of 100 is that a side opens or closes the link, or less; loss: of 100 frames.
func (w pair) step(t *testing.T, r *rand.Rand, n *int, loss int, closes bool) {
	t.Helper()
	i := r.Intn(2)
	l := w[i].l
	switch x := r.Intn(1000); {
	case x < 5 && closes:
		o, _ := l.Disconnect()
		w.told(t, i, o)
	case x < 25:
		w.connect(i)
	case x < 35:
		w.told(t, i, l.Hold(r.Intn(3) == 0))
	case x < 235:
		*n++
		w.send(t, i, 240, fmt.Sprintf("%d %0*d", *n, r.Intn(100), *n))
	case x < 385:
		w.tick(t)
	case x < 425:
		w.told(t, i, l.Tick())
	default:
		w.pass(t, i, r.Intn(100) < loss)
	}
}

// P20.1, P20.3: two links, random steps, frames that are lost: what comes is what was sent, in order, each once.
func TestP201Pairs(t *testing.T) {
	r := rand.New(rand.NewSource(201))
	for i, can := range cans {
		for j, other := range cans {
			ups, wides, came, asksFor := 0, 0, 0, 0
			for k := range 12 {
				w, n := newPair(t, can, other), 0
				for range 1200 {
					w.step(t, r, &n, []int{0, 5, 20, 50}[k%4], true)
				}
				ups += w[0].ups + w[1].ups
				wides += w[0].wides + w[1].wides
				came += w[0].l.Stats().Came + w[1].l.Stats().Came
				asksFor += w[0].asksFor + w[1].asksFor
			}
			if ups < 10 || came < 20 || asksFor == 0 && can.K > 1 && other.K > 1 || can.Wide && other.Wide && wides == 0 {
				t.Errorf("%d and %d: too little happened: %d %d %d %d", i, j, ups, wides, came, asksFor)
			}
		}
	}
}

// P20.2: when nothing is lost any more, and nobody closes or holds, all that was sent comes.
func TestP202Pairs(t *testing.T) {
	r := rand.New(rand.NewSource(202))
	for i, can := range cans {
		for j, other := range cans {
			times := 0
			for k := range 40 {
				w, n := newPair(t, can, other), 0
				for range 300 + r.Intn(200) {
					w.step(t, r, &n, []int{0, 10, 30, 100}[k%4]*r.Intn(2), false)
				}
				if !w.quiet() {
					w.connect(0)
					w.settle(t, 20)
				}
				for range 40 {
					w.step(t, r, &n, 30, false)
				}
				if !w.quiet() {
					continue
				}
				times++
				ups := w[0].ups + w[1].ups
				w.told(t, 0, w[0].l.Hold(false))
				w.told(t, 1, w[1].l.Hold(false))
				for range 2000 {
					if w.settle(t, 1); w.all() {
						break
					}
				}
				if !w.up() || !w.all() || w[0].ups+w[1].ups != ups {
					t.Fatalf("%+v and %+v: up %v; %d of %d, %d of %d", can, other, w.up(), len(w[0].came), len(w[1].sent), len(w[1].came), len(w[0].sent))
				}
			}
			if times < 5 {
				t.Errorf("%d and %d: %d times", i, j, times)
			}
		}
	}
}

// P20.2: one frame of a talk is lost, whichever it is: all comes, all the same.
func TestP202EachLost(t *testing.T) {
	for _, can := range cans {
		for lost := range 60 {
			w := newPair(t, can, can)
			w.connect(0)
			w.settle(t, 1)
			if !w.up() {
				t.Fatal("it isn't up")
			}
			for i := range 8 {
				w.send(t, 0, 240, fmt.Sprintf("%0*d", 9*i, i))
				w.send(t, 1, 8, fmt.Sprintf("%0*d", 7*i, i))
			}
			for i := range 60 {
				for j := range w {
					w.pass(t, j, i*2+j == lost)
				}
			}
			w.settle(t, 1200)
			if !w.up() || !w.all() || len(w[0].came) != 8 || len(w[1].came) != 8 {
				t.Fatalf("%+v: without %d: %d and %d", can, lost, len(w[0].came), len(w[1].came))
			}
		}
	}
}

// P20.2: RR that tells that a side isn't held any more is lost: the other one polls, by T3 at the latest.
func TestP202HoldLost(t *testing.T) {
	for _, can := range cans {
		for _, open := range []bool{false, true} {
			w := newPair(t, can, can)
			w.connect(0)
			w.settle(t, 1)
			if open {
				w.send(t, 0, 240, "first")
			}
			w.told(t, 1, w[1].l.Hold(true))
			w.settle(t, 2)
			w.send(t, 0, 240, "second")
			w.settle(t, 1000)
			if !w.up() || len(w[1].came) != 0 || !w[0].l.Busy() {
				t.Fatalf("%+v: %v came", can, w[1].came)
			}
			w.told(t, 1, w[1].l.Hold(false))
			w[1].way = nil
			w.settle(t, 1000)
			if !w.up() || !w.all() || len(w[1].came) == 0 {
				t.Fatalf("%+v: %v came", can, w[1].came)
			}
		}
	}
}

// P20.1: both call at the same time: both come up.
func TestP201Crossing(t *testing.T) {
	for _, can := range cans {
		for _, other := range cans {
			w := newPair(t, can, other)
			w.connect(0)
			w.connect(1)
			w.settle(t, 400)
			if !w.up() || w[0].l.Wide() != w[1].l.Wide() || w[0].l.Wide() != (can.Wide && other.Wide) {
				t.Fatalf("%+v and %+v: %d and %d", can, other, w[0].l.State(), w[1].l.State())
			}
			w.send(t, 0, 240, "x")
			w.send(t, 1, 240, "y")
			w.settle(t, 400)
			if !w.all() {
				t.Fatalf("%+v and %+v", can, other)
			}
		}
	}
}
