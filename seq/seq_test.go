package seq

import (
	"math"
	"math/rand"
	"slices"
	"testing"

	"squelch/api"
)

var moduli = []int{8, 128}

// noModuli are numbers that are no modulus.
var noModuli = []int{math.MinInt, -128, -8, -1, 0, 1, 2, 4, 7, 9, 10, 16, 32, 64, 127, 129, 136, 256, 1<<32 + 8, 1<<32 + 128, math.MaxInt}

// outside are numbers that are never right, whatever the modulus.
var outside = []int{math.MinInt, math.MinInt + 1, -1 << 32, -256, -129, -128, -127, -8, -7, -1, 128, 129, 135, 136, 256, 1 << 32, 1<<32 + 1, math.MaxInt - 7, math.MaxInt}

// wrong are numbers that aren't right for a modulus.
func wrong(mod int) []int {
	return append([]int{mod, mod + 1, mod + mod/2, 2*mod - 1, 2 * mod}, outside...)
}

// P11.1: right numbers are those from 0 on below the modulus, however many.
func TestP111Right(t *testing.T) {
	for _, mod := range moduli {
		if !Right(mod) || !Right(mod, []int{}...) || !Right(mod, 0, mod-1, 0, 5, 5) {
			t.Errorf("Right(%d)", mod)
		}
		var all []int
		for n := range mod {
			all = append(all, n)
			if !Right(mod, n) || !Right(mod, all...) {
				t.Errorf("Right(%d, %d)", mod, n)
			}
		}
		for _, bad := range wrong(mod) {
			for at := range mod + 1 {
				if Right(mod, slices.Insert(slices.Clone(all), at, bad)...) {
					t.Errorf("Right(%d, ..) with %d at %d", mod, bad, at)
				}
			}
			if Right(mod, bad) || Right(mod, bad, bad) {
				t.Errorf("Right(%d, %d)", mod, bad)
			}
		}
	}
	for _, mod := range noModuli {
		if Right(mod) || Right(mod, 0) || Right(mod, mod-1) || Right(mod, 0, 1) {
			t.Errorf("Right(%d)", mod)
		}
	}
}

// P11.1: the distance is how often 1 is added.
func TestP111Far(t *testing.T) {
	for _, mod := range moduli {
		for a := range mod {
			for b, far := a, 0; far < mod; far++ {
				if got := Far(mod, a, b); got != far {
					t.Fatalf("Far(%d, %d, %d): %d; want %d", mod, a, b, got, far)
				}
				if b++; b == mod {
					b = 0
				}
			}
		}
		for _, bad := range wrong(mod) {
			for n := range mod {
				if a, b := Far(mod, bad, n), Far(mod, n, bad); a != -1 || b != -1 {
					t.Fatalf("Far(%d) of %d and %d: %d, %d", mod, bad, n, a, b)
				}
			}
			if n := Far(mod, bad, bad); n != -1 {
				t.Fatalf("Far(%d, %d, %d): %d", mod, bad, bad, n)
			}
		}
	}
	for _, mod := range noModuli {
		for _, l := range [][2]int{{0, 0}, {0, 1}, {1, 0}, {1, 1}, {-1, -1}} {
			if n := Far(mod, l[0], l[1]); n != -1 {
				t.Errorf("Far(%d, %d, %d): %d", mod, l[0], l[1], n)
			}
		}
	}
}

// modelStep is a and by, modulo it, where no sum is too great for an int.
func modelStep(mod, a, by int) int {
	n := a + by%mod
	if n < 0 {
		n += mod
	}
	return n % mod
}

// P11.1: a number some steps on, or back, however many.
func TestP111Step(t *testing.T) {
	var steps []int
	for by := -300; by <= 300; by++ {
		steps = append(steps, by, math.MinInt+300+by, math.MaxInt-300+by, 1<<32+by, -1<<32+by)
	}
	for _, mod := range moduli {
		for a := range mod {
			for _, by := range steps {
				if n, want := Step(mod, a, by), modelStep(mod, a, by); n != want {
					t.Fatalf("Step(%d, %d, %d): %d; want %d", mod, a, by, n, want)
				}
			}
		}
		for _, bad := range wrong(mod) {
			for _, by := range []int{math.MinInt, -mod, -1, 0, 1, mod, -bad, math.MaxInt} {
				if n := Step(mod, bad, by); n != -1 {
					t.Fatalf("Step(%d, %d, %d): %d", mod, bad, by, n)
				}
			}
		}
	}
	for _, mod := range noModuli {
		for _, by := range []int{-1, 0, 1} {
			if n := Step(mod, 0, by); n != -1 {
				t.Errorf("Step(%d, 0, %d): %d", mod, by, n)
			}
		}
	}
}

// P11.1: which windows there are.
func TestP111New(t *testing.T) {
	for _, mod := range moduli {
		for k := -2; k <= 2*mod; k++ {
			wantNew(t, mod, k, k >= 1 && k <= mod-1, k >= 1 && k <= mod/2)
		}
		for _, k := range []int{math.MinInt, -1 << 32, 1<<32 + 1, math.MaxInt} {
			wantNew(t, mod, k, false, false)
		}
	}
	for _, mod := range noModuli {
		for _, k := range []int{-1, 0, 1, 2, mod / 2, mod - 1} {
			wantNew(t, mod, k, false, false)
		}
	}
}

// wantNew says whether there are an Out and an In of mod and k, of which nothing is open, and nothing came.
func wantNew(t *testing.T, mod, k int, isOut, isIn bool) {
	t.Helper()
	w, e := NewOut(mod, k)
	if isOut != (w != nil) || isOut != (e == api.OK) || !isOut && e != api.ErrArg {
		t.Errorf("NewOut(%d, %d): %v, %d", mod, k, w, e)
	}
	if w.Va() != 0 || w.Vs() != 0 || len(w.Open()) != 0 {
		t.Errorf("NewOut(%d, %d): %d, %d", mod, k, w.Va(), w.Vs())
	}
	in, e := NewIn(mod, k)
	if isIn != (in != nil) || isIn != (e == api.OK) || !isIn && e != api.ErrArg {
		t.Errorf("NewIn(%d, %d): %v, %d", mod, k, in, e)
	}
	if in.Vr() != 0 || in.Held() != 0 || len(in.Missing()) != 0 {
		t.Errorf("NewIn(%d, %d): %d, %d", mod, k, in.Vr(), in.Held())
	}
}

// outModel is a sender's window whose numbers don't go round.
type outModel struct{ mod, k, va, vs int }

func (m *outModel) next() (int, api.Errno) {
	if m.vs-m.va == m.k {
		return 0, api.ErrFull
	}
	m.vs++
	return (m.vs - 1) % m.mod, api.OK
}

func (m *outModel) acks(nr int) (int, api.Errno) {
	for n := m.va; n <= m.vs; n++ {
		if n%m.mod == nr {
			far := n - m.va
			m.va = n
			return far, api.OK
		}
	}
	return 0, api.ErrArg
}

func (m *outModel) open() []int {
	var l []int
	for n := m.va; n < m.vs; n++ {
		l = append(l, n%m.mod)
	}
	return l
}

// outPair is a sender's window and its model.
type outPair struct {
	t *testing.T
	w *Out
	m *outModel
}

// newOut is a window in which nothing is open, that has come to va.
func newOut(t *testing.T, mod, k, va int) outPair {
	t.Helper()
	w, e := NewOut(mod, k)
	if e != api.OK {
		t.Fatalf("NewOut(%d, %d): %d", mod, k, e)
	}
	p := outPair{t, w, &outModel{mod: mod, k: k}}
	for n := range va {
		p.next()
		p.acks(n + 1)
	}
	return p
}

func (p outPair) same() {
	p.t.Helper()
	if p.w.Va() != p.m.va%p.m.mod || p.w.Vs() != p.m.vs%p.m.mod || !slices.Equal(p.w.Open(), p.m.open()) {
		p.t.Fatalf("%+v: Va %d, Vs %d, Open %v", *p.m, p.w.Va(), p.w.Vs(), p.w.Open())
	}
}

func (p outPair) next() {
	p.t.Helper()
	was := *p.m
	n, e := p.w.Next()
	if want, we := p.m.next(); n != want || e != we {
		p.t.Fatalf("%+v: Next: %d, %d; want %d, %d", was, n, e, want, we)
	}
	p.same()
}

func (p outPair) acks(nr int) {
	p.t.Helper()
	was := *p.m
	n, e := p.w.Acks(nr)
	if want, we := p.m.acks(nr); n != want || e != we {
		p.t.Fatalf("%+v: Acks(%d): %d, %d; want %d, %d", was, nr, n, e, want, we)
	}
	p.same()
}

func (p outPair) back() {
	p.t.Helper()
	p.w.Back()
	p.m.vs = p.m.va
	p.same()
}

// opened is a window from va on in which so many are open.
func opened(t *testing.T, mod, k, va, open int) outPair {
	t.Helper()
	p := newOut(t, mod, k, va)
	for range open {
		p.next()
	}
	return p
}

// P11.1: all that may be told a sender's window, modulo 8, in all states.
func TestP111OutAll(t *testing.T) {
	for k := 1; k <= 7; k++ {
		for va := range 9 {
			for open := range k + 1 {
				for _, nr := range append(wrong(8), 0, 1, 2, 3, 4, 5, 6, 7) {
					p := opened(t, 8, k, va, open)
					p.acks(nr)
					p.next()
				}
				p := opened(t, 8, k, va, open)
				p.back()
				p.back()
				p.next()
			}
		}
	}
}

// P11.1: the edges of windows modulo 128.
func TestP111OutWide(t *testing.T) {
	for _, k := range []int{1, 2, 63, 64, 65, 126, 127} {
		for _, va := range []int{0, 1, 64, 126, 127, 128} {
			for _, open := range []int{0, 1, k - 1, k} {
				for _, by := range []int{-1, 0, 1, open - 1, open, open + 1, 127} {
					p := opened(t, 128, k, va, open)
					p.acks((va + by + 128) % 128)
					p.next()
				}
				p := opened(t, 128, k, va, open)
				for _, nr := range wrong(128) {
					p.acks(nr)
				}
				p.next()
				p.back()
				p.next()
			}
		}
	}
}

// P11.1: a sender's window in many random orders.
func TestP111OutRandom(t *testing.T) {
	r := rand.New(rand.NewSource(1))
	for round := range 2000 {
		mod := moduli[round%2]
		p := newOut(t, mod, 1+r.Intn(mod-1), r.Intn(mod))
		for range 200 {
			switch n := r.Intn(40); {
			case n < 28:
				p.next()
			case n < 34:
				p.acks((p.m.va + r.Intn(p.m.vs-p.m.va+1)) % mod)
			case n < 39:
				p.acks(r.Intn(mod+4) - 2)
			default:
				p.back()
			}
		}
	}
}

// inModel is a taker's window whose numbers don't go round.
type inModel struct {
	mod, k, vr int
	came       map[int]bool
}

func (m *inModel) take(ns int) ([]int, api.Errno) {
	if ns < 0 || ns >= m.mod {
		return nil, api.ErrArg
	}
	at := -1
	for n := m.vr; n < m.vr+m.k; n++ {
		if n%m.mod == ns {
			at = n
		}
	}
	switch {
	case at < 0:
		return nil, api.ErrNone
	case m.came[at]:
		return nil, api.ErrThere
	}
	m.came[at] = true
	var l []int
	for ; m.came[m.vr]; m.vr++ {
		l = append(l, m.vr%m.mod)
	}
	return l, api.OK
}

// waiting are those that came and wait, and those that are missing.
func (m *inModel) waiting() (held int, missing []int) {
	var gap []int
	for n := m.vr; n < m.vr+m.k; n++ {
		if !m.came[n] {
			gap = append(gap, n%m.mod)
			continue
		}
		held++
		missing, gap = append(missing, gap...), nil
	}
	return held, missing
}

// inPair is a taker's window and its model.
type inPair struct {
	t *testing.T
	w *In
	m *inModel
}

// newIn is a window that has come to vr.
func newIn(t *testing.T, mod, k, vr int) inPair {
	t.Helper()
	w, e := NewIn(mod, k)
	if e != api.OK {
		t.Fatalf("NewIn(%d, %d): %d", mod, k, e)
	}
	p := inPair{t, w, &inModel{mod: mod, k: k, came: map[int]bool{}}}
	for n := range vr {
		p.take(n % mod)
	}
	return p
}

func (p inPair) take(ns int) {
	p.t.Helper()
	vr := p.m.vr
	l, e := p.w.Take(ns)
	if want, we := p.m.take(ns); !slices.Equal(l, want) || e != we {
		p.t.Fatalf("modulus %d, K %d, Vr %d: Take(%d): %v, %d; want %v, %d", p.m.mod, p.m.k, vr, ns, l, e, want, we)
	}
	held, missing := p.m.waiting()
	if p.w.Vr() != p.m.vr%p.m.mod || p.w.Held() != held || !slices.Equal(p.w.Missing(), missing) {
		p.t.Fatalf("modulus %d, K %d, behind Take(%d): Vr %d, Held %d, Missing %v; want %d, %d, %v", p.m.mod, p.m.k, ns, p.w.Vr(), p.w.Held(), p.w.Missing(), p.m.vr%p.m.mod, held, missing)
	}
}

// P11.1: the document's example, and what then is.
func TestP111TakeKnown(t *testing.T) {
	p := newIn(t, 8, 4, 0)
	if l, e := p.w.Take(1); len(l) != 0 || e != api.OK || p.w.Vr() != 0 || p.w.Held() != 1 || !slices.Equal(p.w.Missing(), []int{0}) {
		t.Error(l, e)
	}
	if l, e := p.w.Take(1); len(l) != 0 || e != api.ErrThere {
		t.Error(l, e)
	}
	if l, e := p.w.Take(0); !slices.Equal(l, []int{0, 1}) || e != api.OK || p.w.Vr() != 2 || p.w.Held() != 0 || len(p.w.Missing()) != 0 {
		t.Error(l, e)
	}
	for _, ns := range []int{0, 1, 6, 7} {
		if l, e := p.w.Take(ns); len(l) != 0 || e != api.ErrNone {
			t.Error(ns, l, e)
		}
	}
	if l, e := p.w.Take(5); len(l) != 0 || e != api.OK || !slices.Equal(p.w.Missing(), []int{2, 3, 4}) {
		t.Error(l, e)
	}
	if l, e := p.w.Take(3); len(l) != 0 || e != api.OK || !slices.Equal(p.w.Missing(), []int{2, 4}) || p.w.Held() != 2 {
		t.Error(l, e)
	}
	if l, e := p.w.Take(2); !slices.Equal(l, []int{2, 3}) || e != api.OK || p.w.Vr() != 4 || !slices.Equal(p.w.Missing(), []int{4}) {
		t.Error(l, e)
	}
	if l, e := p.w.Take(4); !slices.Equal(l, []int{4, 5}) || e != api.OK || p.w.Vr() != 6 || p.w.Held() != 0 {
		t.Error(l, e)
	}
}

// P11.1: all that may be told a taker's window, modulo 8, in all states: each Vr, and all sets of what came.
func TestP111TakeAll(t *testing.T) {
	for k := 1; k <= 4; k++ {
		for vr := range 9 {
			for set := range 1 << (k - 1) {
				for _, ns := range append(wrong(8), 0, 1, 2, 3, 4, 5, 6, 7) {
					p := newIn(t, 8, k, vr)
					for i := range k - 1 {
						if set>>i&1 == 1 {
							p.take((vr + 1 + i) % 8)
						}
					}
					p.take(ns)
					p.take(ns)
					p.take((vr + 1) % 8)
				}
			}
		}
	}
}

// P11.1: the edges of windows modulo 128.
func TestP111TakeWide(t *testing.T) {
	for _, k := range []int{1, 2, 3, 63, 64} {
		for _, vr := range []int{0, 1, 63, 64, 127, 128} {
			for far := range 128 {
				p := newIn(t, 128, k, vr)
				p.take((vr + far) % 128)
				p.take((vr + far) % 128)
				for n := range k { // from the farthest on
					p.take((vr + k - 1 - n) % 128)
				}
				for _, ns := range wrong(128) {
					p.take(ns)
				}
			}
		}
	}
}

// P11.1: a taker's window in many random orders.
func TestP111TakeRandom(t *testing.T) {
	r := rand.New(rand.NewSource(2))
	for round := range 2000 {
		mod := moduli[round%2]
		p := newIn(t, mod, 1+r.Intn(mod/2), r.Intn(mod))
		for range 200 {
			switch n := r.Intn(20); {
			case n < 6:
				p.take(p.m.vr % mod)
			case n < 18:
				p.take((p.m.vr + r.Intn(p.m.k)) % mod)
			default:
				p.take(r.Intn(mod+4) - 2)
			}
		}
	}
}

// P11.1: nil windows, and ones that New did not make.
func TestP111Nil(t *testing.T) {
	var w *Out
	if n, e := w.Next(); n != 0 || e != api.ErrArg {
		t.Error(n, e)
	}
	var in *In
	for _, n := range []int{-1, 0, 1, 8} {
		if far, e := w.Acks(n); far != 0 || e != api.ErrArg {
			t.Error(n, far, e)
		}
		if l, e := in.Take(n); len(l) != 0 || e != api.ErrArg {
			t.Error(n, l, e)
		}
	}
	for _, w := range []*Out{nil, {}} {
		w.Back()
		if _, e := w.Acks(0); e != api.ErrArg || len(w.Open()) != 0 || w.Va() != 0 || w.Vs() != 0 {
			t.Error(w, e)
		}
	}
	for _, in := range []*In{nil, {}} {
		if _, e := in.Take(0); e != api.ErrArg || len(in.Missing()) != 0 || in.Held() != 0 || in.Vr() != 0 {
			t.Error(in, e)
		}
	}
	if n, e := new(Out).Next(); n != 0 || e == api.OK {
		t.Error(n, e)
	}
}

// spoil writes into a list, and into what room there is behind it.
func spoil(l []int) {
	l = l[:cap(l)]
	for i := range l {
		l[i] = -7
	}
}

// P11.1: what is answered shares no memory with what is kept, and no argument is written into.
func TestP111Memory(t *testing.T) {
	for _, mod := range moduli {
		list := []int{3, 0, mod, 2}
		if Right(mod, list...) || !slices.Equal(list, []int{3, 0, mod, 2}) {
			t.Errorf("Right: %v", list)
		}
		p := opened(t, mod, 5, mod-2, 5)
		spoil(p.w.Open())
		p.acks(1)
		in := newIn(t, mod, 4, mod-2)
		in.take(mod - 1)
		in.take(1)
		spoil(in.w.Missing())
		in.take(1)
		l, _ := in.w.Take(mod - 2)
		in.m.take(mod - 2)
		spoil(l)
		in.take(mod - 1)
		in.take(0)
	}
}

// P11.1: a window's calls touch no other window.
func TestP111Apart(t *testing.T) {
	a, b := opened(t, 8, 4, 3, 2), opened(t, 8, 4, 3, 2)
	a.acks(4)
	a.next()
	b.same()
	c, d := newIn(t, 8, 4, 3), newIn(t, 8, 4, 3)
	c.take(4)
	if d.w.Held() != 0 {
		t.Error("held")
	}
	d.take(3)
	c.take(3)
}

// way is a sender's window, a taker's one, and what came in order.
type way struct {
	t    *testing.T
	out  *Out
	in   *In
	mod  int
	sent int // how many were opened
	came []int
}

func newWay(t *testing.T, mod, k, kin int) *way {
	t.Helper()
	out, e := NewOut(mod, k)
	in, f := NewIn(mod, kin)
	if e != api.OK || f != api.OK {
		t.Fatalf("modulus %d, K %d and %d: %d, %d", mod, k, kin, e, f)
	}
	return &way{t: t, out: out, in: in, mod: mod}
}

// open opens one more, if there is room.
func (w *way) open() {
	w.t.Helper()
	n, e := w.out.Next()
	if e == api.ErrFull {
		return
	}
	if e != api.OK || n != w.sent%w.mod {
		w.t.Fatalf("Next: %d, %d; want %d", n, e, w.sent%w.mod)
	}
	w.sent++
}

// pass lets a number come to the taker.
func (w *way) pass(n int) {
	w.t.Helper()
	l, _ := w.in.Take(n)
	for _, x := range l {
		if len(w.came) >= w.sent || x != len(w.came)%w.mod {
			w.t.Fatalf("%d came, of %d: %d behind %v", len(w.came), w.sent, x, w.came)
		}
		w.came = append(w.came, x)
	}
}

// ack lets the sender know what came in order.
func (w *way) ack(nr int) {
	w.t.Helper()
	if _, e := w.out.Acks(nr); e != api.OK {
		w.t.Fatalf("Acks(%d): %d", nr, e)
	}
}

// all says that all that were opened came, and that all are acknowledged then.
func (w *way) all() {
	w.t.Helper()
	if len(w.came) != w.sent || w.in.Held() != 0 || len(w.in.Missing()) != 0 {
		w.t.Fatalf("%d of %d came", len(w.came), w.sent)
	}
	w.ack(w.in.Vr())
	if len(w.out.Open()) != 0 {
		w.t.Fatalf("open still: %v", w.out.Open())
	}
}

// orders are all orders of the numbers from 0 to n-1.
func orders(n int) [][]int {
	if n == 0 {
		return [][]int{nil}
	}
	var all [][]int
	for _, l := range orders(n - 1) {
		for at := range n {
			all = append(all, slices.Insert(slices.Clone(l), at, n-1))
		}
	}
	return all
}

// P11.2: whole windows modulo 8 in all orders, each once and with any one twice, wherever the numbers begin.
func TestP112Orders(t *testing.T) {
	for k := 1; k <= 4; k++ {
		for begin := range 8 {
			for _, l := range orders(k) {
				for twice := range k {
					for at := range k + 1 {
						w := newWay(t, 8, k, k)
						for range begin {
							w.open()
							w.pass(w.sent - 1)
							w.all()
						}
						for range k {
							w.open()
						}
						for _, n := range slices.Insert(slices.Clone(l), at, twice) {
							w.pass((begin + n) % 8)
						}
						w.all()
					}
				}
			}
		}
	}
}

// P11.2: the elder ones come again as long as they are open, and don't come twice.
func TestP112Again(t *testing.T) {
	for _, mod := range moduli {
		for k := 1; k <= mod/2; k++ {
			w := newWay(t, mod, k, k)
			for range 3*mod/k + 3 {
				for range k {
					w.open()
				}
				for range 2 {
					for _, n := range w.out.Open() {
						w.pass(n)
						w.pass(n)
					}
				}
				w.all()
			}
		}
	}
}

// passAll lets all that are open come, in a random order.
func (w *way) passAll(r *rand.Rand) {
	l := w.out.Open()
	r.Shuffle(len(l), func(i, j int) { l[i], l[j] = l[j], l[i] })
	for _, n := range l {
		w.pass(n)
	}
}

// walk opens, passes and acknowledges at random, then lets all come.
func (w *way) walk(r *rand.Rand) {
	w.t.Helper()
	for range 300 {
		l := w.out.Open()
		switch n := r.Intn(12); {
		case n < 5:
			w.open()
		case n < 10 && len(l) > 0:
			w.pass(l[r.Intn(len(l))])
		case n == 10:
			w.ack(Step(w.mod, w.out.Va(), r.Intn(1+Far(w.mod, w.out.Va(), w.in.Vr()))))
		case r.Intn(4) == 0:
			w.passAll(r)
			w.all()
		}
	}
	w.passAll(r)
	w.all()
}

// P11.2: in many random orders, with acknowledgements late and of a part.
func TestP112Random(t *testing.T) {
	r := rand.New(rand.NewSource(3))
	for round := range 2000 {
		mod := moduli[round%2]
		k := 1 + r.Intn(mod/2)
		newWay(t, mod, k, k).walk(r)
		newWay(t, mod, 1+r.Intn(k), k).walk(r)
	}
}
