package clock

import (
	"cmp"
	"maps"
	"math"
	"math/rand"
	"slices"
	"testing"

	"squelch/api"
)

// outside are numbers of ticks to which no timer is set.
var outside = []int{math.MinInt, math.MinInt + 1, -1 << 32, -1<<32 + 1, -10001, -10000, -2, -1, 0, 10001, 10002, 20000, 1 << 16, 1<<16 + 1, 1 << 32, 1<<32 + 1, 1<<32 + 10000, math.MaxInt - 1, math.MaxInt}

// inside are numbers of ticks about the ends, and between.
var inside = []int{1, 2, 3, 255, 256, 257, 5000, 9998, 9999, 10000}

// name is the name of a kind, and a number.
func name(kind, number int) Name { return Name{Kind: kind, Number: number} }

// names are so many names, no two alike, in which kinds and numbers come more than once.
func names(n int) []Name {
	var l []Name
	for i := range n {
		l = append(l, name(i%5, i/5))
	}
	return l
}

// entry is what a model keeps of a timer: with which tick it is told, and the how-many-th setting was its last one.
type entry struct{ due, nth int }

// model is a clock in the document's words: a timer is told by the time that it is then, not counted down.
type model struct {
	now, sets int
	kept      map[Name]entry
}

func newModel() *model { return &model{kept: map[Name]entry{}} }

func (m *model) all() []Name {
	return slices.SortedFunc(maps.Keys(m.kept), func(a, b Name) int {
		return cmp.Compare(m.kept[a].nth, m.kept[b].nth)
	})
}

func (m *model) left(n Name) int {
	if e, ok := m.kept[n]; ok {
		return e.due - m.now
	}
	return 0
}

func (m *model) set(n Name, ticks int) api.Errno {
	if !(ticks >= 1 && ticks <= 10000) {
		return api.ErrArg
	}
	if _, ok := m.kept[n]; !ok && len(m.kept) == 32 {
		return api.ErrFull
	}
	m.sets++
	m.kept[n] = entry{due: m.now + ticks, nth: m.sets}
	return api.OK
}

// those lets timers be no more, and tells them in order.
func (m *model) those(is func(Name) bool) []Name {
	var l []Name
	for _, n := range m.all() {
		if is(n) {
			l = append(l, n)
		}
	}
	for _, n := range l {
		delete(m.kept, n)
	}
	return l
}

func (m *model) stop(l ...Name) int {
	return len(m.those(func(n Name) bool { return slices.Index(l, n) >= 0 }))
}

func (m *model) tick() []Name {
	m.now++
	return m.those(func(n Name) bool { return m.kept[n].due == m.now })
}

func (m *model) only(number int) int {
	return len(m.those(func(n Name) bool { return n.Number == number }))
}

// clone is a model of its own.
func (m *model) clone() *model {
	return &model{now: m.now, sets: m.sets, kept: maps.Clone(m.kept)}
}

// want says whether a clock keeps what the model does; more are names of which some may not be there.
func (m *model) want(t *testing.T, c *Clock, more ...Name) {
	t.Helper()
	all := m.all()
	if l := c.All(); !slices.Equal(l, all) {
		t.Fatalf("All: %v; want %v", l, all)
	}
	for _, n := range append(all, more...) {
		if got := c.Left(n); got != m.left(n) {
			t.Fatalf("Left(%v): %d; want %d", n, got, m.left(n))
		}
	}
}

// twin is a clock, and the model of it.
type twin struct {
	c *Clock
	m *model
}

func newTwin() twin { return twin{c: New(), m: newModel()} }

func (w twin) set(t *testing.T, n Name, ticks int) {
	t.Helper()
	if got, want := w.c.Set(n, ticks), w.m.set(n, ticks); got != want {
		t.Fatalf("Set(%v, %d): %d; want %d", n, ticks, got, want)
	}
	w.m.want(t, w.c, n)
}

func (w twin) stop(t *testing.T, l ...Name) {
	t.Helper()
	if got, want := w.c.Stop(l...), w.m.stop(l...); got != want {
		t.Fatalf("Stop(%v): %d; want %d", l, got, want)
	}
	w.m.want(t, w.c, l...)
}

func (w twin) tick(t *testing.T) {
	t.Helper()
	was := w.m.all()
	if got, want := w.c.Tick(), w.m.tick(); !slices.Equal(got, want) {
		t.Fatalf("Tick: %v; want %v", got, want)
	}
	w.m.want(t, w.c, was...)
}

func (w twin) only(t *testing.T, number int) {
	t.Helper()
	was := w.m.all()
	if got, want := w.c.Only(number), w.m.only(number); got != want {
		t.Fatalf("Only(%d): %d; want %d", number, got, want)
	}
	w.m.want(t, w.c, was...)
}

// full is a clock of as many timers as there may be, some three told with each of the ticks from 1 to 10, and their names.
func full(t *testing.T) (twin, []Name) {
	t.Helper()
	w, l := newTwin(), names(32)
	for i, n := range l {
		w.set(t, n, 1+i*7%10)
	}
	return w, l
}

// P13.1: the limit is the one that the document names.
func TestP131Limit(t *testing.T) {
	if MaxTimers != 32 {
		t.Error(MaxTimers)
	}
}

// P13.1: the document's example.
func TestP131Example(t *testing.T) {
	a, b, c := name(1, 1), name(1, 2), New()
	if c.Set(a, 2) != api.OK || c.Set(b, 1) != api.OK {
		t.Error("Set")
	}
	for _, want := range [][]Name{{b}, {a}, nil} {
		if l := c.Tick(); !slices.Equal(l, want) {
			t.Errorf("%v; want %v", l, want)
		}
	}
}

// P13.1: a clock begins without timers, and nothing comes of that.
func TestP131New(t *testing.T) {
	for _, c := range []*Clock{New(), {}} {
		if c == nil {
			t.Fatal("no clock")
		}
		if c.Stop() != 0 || c.Stop(Name{}, name(1, 2)) != 0 || c.Only(0) != 0 || c.Left(Name{}) != 0 || len(c.All()) != 0 {
			t.Error("timers in a new clock")
		}
		for range 3 {
			if l := c.Tick(); len(l) != 0 {
				t.Error(l)
			}
		}
		if c.Set(Name{}, 1) != api.OK || c.Left(Name{}) != 1 {
			t.Error("Set")
		}
	}
}

// P13.1: each number of ticks that there may be: the timer is told with just the Tick that it says, once.
func TestP131Ticks(t *testing.T) {
	const together = 32
	for first := 1; first <= 10000; first += together {
		c := New()
		last := min(first+together-1, 10000)
		for ticks := last; ticks >= first; ticks-- {
			if e := c.Set(name(7, ticks), ticks); e != api.OK {
				t.Fatalf("Set to %d: %d", ticks, e)
			}
		}
		for now := 1; now <= last+1; now++ {
			var want []Name
			if now >= first && now <= last {
				want = []Name{name(7, now)}
				if n := c.Left(want[0]); n != 1 {
					t.Fatalf("%d: Left %d", now, n)
				}
			}
			if l := c.Tick(); !slices.Equal(l, want) {
				t.Fatalf("%d: %v; want %v", now, l, want)
			}
		}
		if len(c.All()) != 0 {
			t.Fatal(c.All())
		}
	}
}

// P13.1: a timer set in between is told by the ticks from then on.
func TestP131Late(t *testing.T) {
	for _, ticks := range inside {
		for _, late := range []int{1, 2, 100} {
			w := newTwin()
			w.set(t, name(0, 0), 10000)
			for range late {
				w.tick(t)
			}
			w.set(t, name(0, 1), ticks)
			for range max(ticks, 10000-late) + 1 {
				w.tick(t)
			}
			if len(w.c.All()) != 0 {
				t.Fatal(w.c.All())
			}
		}
	}
}

// P13.1: ticks outside of 1 .. 10000 are refused, of timers that are there and of those that aren't, and nothing is changed.
func TestP131SetWrong(t *testing.T) {
	some := newTwin()
	for i, n := range names(5) {
		some.set(t, n, i+1)
	}
	whole, l := full(t)
	for _, w := range []twin{newTwin(), some, whole} {
		for _, ticks := range outside {
			for _, n := range append(slices.Clone(l), name(99, 99)) {
				w.set(t, n, ticks)
				if e := w.c.Set(n, ticks); e != api.ErrArg {
					t.Fatalf("Set(%v, %d): %d", n, ticks, e)
				}
			}
		}
		for range 12 {
			w.tick(t)
		}
	}
}

// P13.1: a timer too many is refused, and nothing is changed; one that is there is set again.
func TestP131SetFull(t *testing.T) {
	w, l := full(t)
	for _, n := range []Name{name(99, 99), name(0, 99), name(99, 0), name(-1, -1), name(0, -1)} {
		for _, ticks := range inside {
			w.set(t, n, ticks)
			if e := w.c.Set(n, ticks); e != api.ErrFull {
				t.Fatalf("Set(%v, %d): %d", n, ticks, e)
			}
		}
		if e := w.c.Set(n, 0); e != api.ErrArg { // it is asked first
			t.Error(e)
		}
	}
	for _, n := range l {
		w.set(t, n, 9)
		if e := w.c.Set(n, 10); e != api.OK {
			t.Fatalf("Set(%v): %d", n, e)
		}
		w.m.set(n, 10)
		w.m.want(t, w.c, l...)
	}
}

// P13.1: there is room again for as many as are no more, in each of the ways to be no more.
func TestP131Room(t *testing.T) {
	for way := range 3 {
		w, l := full(t)
		switch way {
		case 0:
			w.stop(t, l[3], l[31], l[0])
		case 1:
			w.only(t, l[11].Number)
		case 2:
			w.tick(t)
		}
		room := 32 - len(w.c.All())
		if room == 0 {
			t.Fatal("nothing is no more")
		}
		for i := range 40 {
			n := name(50, i)
			w.set(t, n, 5)
			if (w.c.Left(n) == 5) != (i < room) {
				t.Fatalf("way %d: room for %d, %d set, Left %d", way, room, i, w.c.Left(n))
			}
		}
	}
}

// P13.1: setting again takes the new ticks, whatever they were, and the last place.
func TestP131SetAgain(t *testing.T) {
	for _, was := range inside {
		for _, now := range inside {
			for _, gone := range []int{0, 1, was - 1} {
				setAgain(t, was, min(gone, was-1), now)
			}
		}
	}
}

// setAgain sets the first, the middle and the last one of three, each again behind some ticks of those that it had.
func setAgain(t *testing.T, was, gone, now int) {
	t.Helper()
	for again := range 3 {
		c, l := New(), names(3)
		for _, n := range l {
			c.Set(n, was)
		}
		for range gone {
			c.Tick()
		}
		if e := c.Set(l[again], now); e != api.OK || c.Left(l[again]) != now {
			t.Fatalf("%d, Left %d; want %d", e, c.Left(l[again]), now)
		}
		order := append(slices.Delete(slices.Clone(l), again, again+1), l[again])
		if got := c.All(); !slices.Equal(got, order) {
			t.Fatalf("%v; want %v", got, order)
		}
		for tick := 1; tick <= max(was-gone, now)+1; tick++ {
			var want []Name
			if tick == was-gone {
				want = append(want, order[:2]...)
			}
			if tick == now {
				want = append(want, order[2])
			}
			if got := c.Tick(); !slices.Equal(got, want) {
				t.Fatalf("set to %d, %d later to %d: tick %d tells %v; want %v", was, gone, now, tick, got, want)
			}
		}
	}
}

// P13.1: names are alike in both their kind and their number alone, whatever these are.
func TestP131Names(t *testing.T) {
	var l []Name
	numbers := []int{math.MinInt, -1 << 32, -1, 0, 1, 1 << 32, math.MaxInt}
	for _, kind := range []int{math.MinInt, -1, 1 << 32, math.MaxInt} {
		for _, number := range numbers {
			l = append(l, name(kind, number))
		}
	}
	w := newTwin()
	for i, n := range l {
		w.set(t, n, 10+i%3)
		w.m.want(t, w.c, l...)
	}
	for _, n := range l {
		for _, other := range []Name{name(n.Number, n.Kind), name(n.Kind+2, n.Number), name(n.Kind, n.Number+2)} {
			if want := w.m.left(other); w.c.Left(other) != want {
				t.Fatalf("Left(%v): %d; want %d", other, w.c.Left(other), want)
			}
		}
	}
	w.stop(t, l[3], l[9])
	w.tick(t)
	for _, number := range numbers {
		w.only(t, number)
	}
	if len(w.c.All()) != 0 {
		t.Error(w.c.All())
	}
}

// P13.1: those that are due with one tick are told in the order in which they were set last, and the others stay in theirs.
func TestP131TickOrder(t *testing.T) {
	for again := range 32 {
		w, l := full(t)
		w.set(t, l[again], 3)
		w.set(t, l[31-again], 1)
		w.set(t, l[again/2], 3)
		for range 11 {
			w.tick(t)
		}
		if len(w.c.All()) != 0 {
			t.Error(w.c.All())
		}
	}
}

// P13.1: those that are stopped are no more, each counts once however often it is named, and what isn't there counts nothing.
func TestP131Stop(t *testing.T) {
	a, b, c, none := name(1, 1), name(1, 2), name(2, 1), name(2, 2)
	for _, x := range []struct {
		l    []Name
		want int
		left []Name
	}{
		{nil, 0, []Name{a, b, c}},
		{[]Name{}, 0, []Name{a, b, c}},
		{[]Name{none}, 0, []Name{a, b, c}},
		{[]Name{none, none, {}}, 0, []Name{a, b, c}},
		{[]Name{a}, 1, []Name{b, c}},
		{[]Name{b}, 1, []Name{a, c}},
		{[]Name{c}, 1, []Name{a, b}},
		{[]Name{a, a, a}, 1, []Name{b, c}},
		{[]Name{c, none, a}, 2, []Name{b}},
		{[]Name{c, b, c, b}, 2, []Name{a}},
		{[]Name{c, b, a}, 3, nil},
		{[]Name{a, none, b, b, c, a}, 3, nil},
	} {
		k := New()
		for _, n := range []Name{a, b, c} {
			k.Set(n, 2)
		}
		if n := k.Stop(x.l...); n != x.want || !slices.Equal(k.All(), x.left) {
			t.Errorf("Stop(%v): %d, %v are left; want %d, %v", x.l, n, k.All(), x.want, x.left)
		}
		if n := k.Stop(x.l...); n != 0 || !slices.Equal(k.All(), x.left) {
			t.Errorf("Stop(%v) again: %d", x.l, n)
		}
		k.Tick()
		if l := k.Tick(); !slices.Equal(l, x.left) {
			t.Errorf("Tick: %v; want %v", l, x.left)
		}
	}
}

// P13.1: long lists of names, in which those that are there stand anywhere.
func TestP131StopMany(t *testing.T) {
	r := rand.New(rand.NewSource(131))
	for range 100 {
		w, l := full(t)
		for i := range 5000 {
			l = append(l, name(100+i, i))
		}
		r.Shuffle(len(l), func(i, k int) { l[i], l[k] = l[k], l[i] })
		w.stop(t, l[:r.Intn(len(l)+1)]...)
	}
}

// P13.1: those of a number are no more, of whatever kinds; no others.
func TestP131Only(t *testing.T) {
	k := New()
	l := []Name{name(1, 7), name(2, 7), name(7, 1), name(7, 7), name(1, -7), name(0, 0)}
	for _, n := range l {
		k.Set(n, 1)
	}
	for _, x := range []struct {
		number, want int
		left         []Name
	}{
		{2, 0, l},
		{7<<32 + 7, 0, l},
		{7, 3, []Name{l[2], l[4], l[5]}},
		{7, 0, []Name{l[2], l[4], l[5]}},
		{-7, 1, []Name{l[2], l[5]}},
		{0, 1, []Name{l[2]}},
		{1, 1, nil},
		{1, 0, nil},
	} {
		if n := k.Only(x.number); n != x.want || !slices.Equal(k.All(), x.left) {
			t.Errorf("Only(%d): %d, %v are left; want %d, %v", x.number, n, k.All(), x.want, x.left)
		}
	}
	w, _ := full(t)
	for number := -1; number < 9; number++ {
		w.only(t, number)
	}
	if l := w.c.Tick(); len(l) != 0 {
		t.Error(l)
	}
}

// P13.1: what is asked changes nothing, however often.
func TestP131Asked(t *testing.T) {
	w, l := full(t)
	for range 3 {
		for range 100 {
			w.m.want(t, w.c, l...)
		}
		w.tick(t)
	}
}

// steps are all that may be done to a clock of two kinds and two numbers.
func steps() []func(t *testing.T, w twin) {
	var l []func(t *testing.T, w twin)
	for i, n := range []Name{name(0, 0), name(1, 0), name(0, 1)} {
		for _, ticks := range []int{1, 2} {
			l = append(l, func(t *testing.T, w twin) { w.set(t, n, ticks+i%2) })
		}
		l = append(l, func(t *testing.T, w twin) { w.stop(t, n) })
	}
	return append(l,
		func(t *testing.T, w twin) { w.tick(t) },
		func(t *testing.T, w twin) { w.only(t, 0) },
		func(t *testing.T, w twin) { w.set(t, name(0, 0), 0) })
}

// P13.1: all that is done, in every order of up to four steps.
func TestP131Orders(t *testing.T) {
	l := steps()
	orders := [][]int{nil}
	for at := 0; at < len(orders); at++ {
		order := orders[at]
		w := newTwin()
		for _, i := range order {
			l[i](t, w)
		}
		for range 4 {
			w.tick(t)
		}
		for i := range l {
			if len(order) < 4 {
				orders = append(orders, append(slices.Clone(order), i))
			}
		}
	}
}

// P13.1: all that is done, in many random orders, with few names and with more than have room.
func TestP131Random(t *testing.T) {
	r := rand.New(rand.NewSource(13))
	for round := range 400 {
		w, l := newTwin(), names(1+r.Intn(45))
		most := []int{3, 10, 60, 10000}[round%4]
		pick := func() Name { return l[r.Intn(len(l))] }
		for range 400 {
			switch x := r.Intn(20); {
			case x < 9:
				w.set(t, pick(), 1+r.Intn(most))
			case x < 10:
				w.set(t, pick(), outside[r.Intn(len(outside))])
			case x < 12:
				w.stop(t, pick(), pick(), name(-1, r.Intn(9)))
			case x < 13:
				w.only(t, r.Intn(10))
			default:
				w.tick(t)
			}
			if len(w.c.All()) > 32 {
				t.Fatal(len(w.c.All()))
			}
		}
	}
}

// P13.1: a nil clock answers ErrArg, or nothing, whatever it is told.
func TestP131Nil(t *testing.T) {
	var c *Clock
	for _, ticks := range append(slices.Clone(outside), inside...) {
		if e := c.Set(name(1, 1), ticks); e != api.ErrArg {
			t.Errorf("Set(.., %d): %d", ticks, e)
		}
	}
	if c.Stop() != 0 || c.Stop(Name{}, name(1, 1)) != 0 || c.Left(Name{}) != 0 || c.Left(name(1, 1)) != 0 || len(c.Tick()) != 0 || len(c.All()) != 0 || c.Only(0) != 0 || c.Only(1) != 0 {
		t.Error("a nil clock has something")
	}
}

// P13.1: what is answered shares no memory with what is kept, nor with another answer, and no argument is written into.
func TestP131Memory(t *testing.T) {
	w, l := full(t)
	wrong := name(-9, -9)
	spoil := func(l []Name) {
		for i := range cap(l) {
			l[:cap(l)][i] = wrong
		}
	}
	for range 11 {
		spoil(w.c.All())
		w.m.want(t, w.c, l...)
		told, want := w.c.Tick(), w.m.tick()
		spoil(told)
		w.m.want(t, w.c, l...)
		for _, n := range want {
			w.set(t, n, 4)
		}
		w.tick(t)
		if slices.ContainsFunc(told[:cap(told)], func(n Name) bool { return n != wrong }) {
			t.Fatal("an answer was written into")
		}
	}
	list := slices.Clone(l)
	w.stop(t, list[:20]...)
	list[25], list[26] = wrong, wrong
	w.m.want(t, w.c, l...)
	for i, n := range list {
		if i != 25 && i != 26 && n != l[i] {
			t.Error("an argument was written into")
		}
	}
}

// P13.1: a clock's calls touch no other clock.
func TestP131Apart(t *testing.T) {
	a, l := full(t)
	b, _ := full(t)
	a.tick(t)
	a.stop(t, l[:9]...)
	a.only(t, 3)
	a.set(t, l[30], 77)
	b.m.want(t, b.c, l...)
	b.tick(t)
	a.m.want(t, a.c, l...)
}
