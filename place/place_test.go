package place

import (
	"math"
	"math/rand"
	"slices"
	"testing"

	"squelch/api"
)

// noStations are numbers that no station of any plane has.
var noStations = []int{math.MinInt, math.MinInt + 1, -1 << 32, -1<<32 + 1, -17, -16, -2, -1, 0, 17, 18, 32, 1 << 16, 1<<32 + 1, math.MaxInt - 1, math.MaxInt}

// places are parts of places, about the ends and between.
var places = []float64{-1000, -999, -500, -3, -1, 0, 1, 2, 4, 707, 999, 1000}

// noPlaces are numbers that are no part of a place.
var noPlaces = append([]float64{-1001, 1001, -1024, 1024, -2000, 2000, math.Nextafter(1000, 2000), math.Nextafter(-1000, -2000)}, noWholes...)

// noWholes are numbers that are no part of a place, and none of how far a station goes.
var noWholes = []float64{
	math.NaN(), math.Inf(1), math.Inf(-1), math.MaxFloat64, -math.MaxFloat64, 1e300, -1e300, 1 << 32, 1<<32 + 1, -1 << 32, 1 << 63, -1 << 63, 1 << 64,
	-2001, 2001, math.Nextafter(2000, 3000), math.Nextafter(-2000, -3000), 0.5, -0.5, 999.5, -999.5, 1e-9, math.SmallestNonzeroFloat64, -math.SmallestNonzeroFloat64, math.Nextafter(1, 2), math.Nextafter(1, 0), math.Nextafter(1000, 0), math.Pi,
}

// noReaches are reaches that may not be.
var noReaches = []int{math.MinInt, -1 << 32, -1<<32 + 1, -4000, -2, -1, 4001, 4002, 8000, 1 << 32, 1<<32 + 1, math.MaxInt}

// spot is where a model has a station.
type spot struct{ x, y, reach int }

// model is a plane in the document's words, in whole numbers.
type model struct {
	spots   []spot
	blocked [17][17]bool
}

func newModel(n int) *model { return &model{spots: make([]spot, n)} }

func (m *model) has(i int) bool { return 1 <= i && i <= len(m.spots) }

func (m *model) stand(i int, s spot) api.Errno {
	switch {
	case !m.has(i):
		return api.ErrNone
	case s.x < -1000 || s.x > 1000 || s.y < -1000 || s.y > 1000 || s.reach < 0 || s.reach > 4000:
		return api.ErrArg
	}
	m.spots[i-1] = s
	return api.OK
}

func (m *model) move(i, x, y int) api.Errno {
	switch {
	case !m.has(i):
		return api.ErrNone
	case x < -2000 || x > 2000 || y < -2000 || y > 2000:
		return api.ErrArg
	}
	s := m.spots[i-1]
	return m.stand(i, spot{s.x + x, s.y + y, s.reach})
}

func (m *model) turn(i, x, y int) api.Errno {
	switch {
	case !m.has(i):
		return api.ErrNone
	case x < -1000 || x > 1000 || y < -1000 || y > 1000:
		return api.ErrArg
	}
	s := m.spots[i-1]
	return m.stand(i, spot{x - (s.y - y), y + (s.x - x), s.reach})
}

func (m *model) block(from, to int, on bool) api.Errno {
	switch {
	case !m.has(from) || !m.has(to):
		return api.ErrNone
	case from == to:
		return api.ErrArg
	}
	m.blocked[from][to] = on
	return api.OK
}

func (m *model) hears(i, j int) bool {
	if !m.has(i) || !m.has(j) || i == j || m.blocked[j][i] {
		return false
	}
	a, b := m.spots[i-1], m.spots[j-1]
	return b.reach*b.reach >= (a.x-b.x)*(a.x-b.x)+(a.y-b.y)*(a.y-b.y)
}

func (m *model) heard(j int) []int {
	var l []int
	for i := range 17 {
		if m.hears(i, j) {
			l = append(l, i)
		}
	}
	return l
}

// both tells whether two hear each other.
func (m *model) both(i, j int) bool { return m.hears(i, j) && m.hears(j, i) }

// route goes to the station of the least number that is nearer to j by one, again and again.
func (m *model) route(i, j int) []int {
	if !m.has(i) || !m.has(j) || i == j {
		return nil
	}
	var far [17]int
	for k := range far {
		far[k] = 99
	}
	far[j] = 0
	for range 16 {
		for a := range 17 {
			for b := range 17 {
				if m.both(a, b) && far[b]+1 < far[a] {
					far[a] = far[b] + 1
				}
			}
		}
	}
	if far[i] == 99 {
		return nil
	}
	var l []int
	for at := i; far[at] > 1; {
		for k := range 17 {
			if m.both(at, k) && far[k] == far[at]-1 {
				l, at = append(l, k), k
				break
			}
		}
	}
	return l
}

// search finds a route among all ways that go by no station twice.
func (m *model) search(i, j int) []int {
	var best []int
	found := false
	var walk func(way []int)
	walk = func(way []int) {
		at := way[len(way)-1]
		if at == j {
			if l := way[1 : len(way)-1]; !found || len(l) < len(best) || len(l) == len(best) && slices.Compare(l, best) < 0 {
				found, best = true, slices.Clone(l)
			}
			return
		}
		for k := 1; k <= len(m.spots); k++ {
			if m.both(at, k) && !slices.Contains(way, k) {
				walk(append(slices.Clone(way), k))
			}
		}
	}
	if i != j {
		walk([]int{i})
	}
	return best
}

// twin is a plane, and the model of it.
type twin struct {
	p *Plane
	m *model
}

func newTwin(t *testing.T, n int) twin {
	t.Helper()
	p, e := New(n)
	if p == nil || e != api.OK {
		t.Fatalf("New(%d): %v, %d", n, p, e)
	}
	return twin{p: p, m: newModel(n)}
}

func place(x, y int) complex128 { return complex(float64(x), float64(y)) }

func (w twin) stand(t *testing.T, i int, s spot) {
	t.Helper()
	if got, want := w.p.Stand(i, place(s.x, s.y), s.reach), w.m.stand(i, s); got != want {
		t.Fatalf("Stand(%d, %v): %d; want %d", i, s, got, want)
	}
	w.same(t)
}

func (w twin) move(t *testing.T, i, x, y int) {
	t.Helper()
	if got, want := w.p.Move(i, place(x, y)), w.m.move(i, x, y); got != want {
		t.Fatalf("Move(%d, %d, %d): %d; want %d", i, x, y, got, want)
	}
	w.same(t)
}

func (w twin) turn(t *testing.T, i, x, y int) {
	t.Helper()
	if got, want := w.p.Turn(i, place(x, y)), w.m.turn(i, x, y); got != want {
		t.Fatalf("Turn(%d, %d, %d): %d; want %d", i, x, y, got, want)
	}
	w.same(t)
}

func (w twin) block(t *testing.T, from, to int, on bool) {
	t.Helper()
	if got, want := w.p.Block(from, to, on), w.m.block(from, to, on); got != want {
		t.Fatalf("Block(%d, %d, %t): %d; want %d", from, to, on, got, want)
	}
	w.same(t)
}

// same says whether the plane has what the model has: where all stand, and who hears whom.
func (w twin) same(t *testing.T) {
	t.Helper()
	n := len(w.m.spots)
	if w.p.Len() != n {
		t.Fatalf("Len: %d; want %d", w.p.Len(), n)
	}
	for i := 1; i <= n; i++ {
		s := w.m.spots[i-1]
		if at, reach := w.p.At(i); !alike(at, place(s.x, s.y)) || reach != s.reach {
			t.Fatalf("At(%d): %v, %d; want %v", i, at, reach, s)
		}
		for j := 1; j <= n; j++ {
			if got, want := w.p.Hears(i, j), w.m.hears(i, j); got != want {
				t.Fatalf("Hears(%d, %d): %t; want %t", i, j, got, want)
			}
		}
		if l, want := w.p.Heard(i), w.m.heard(i); !slices.Equal(l, want) {
			t.Fatalf("Heard(%d): %v; want %v", i, l, want)
		}
	}
}

// alike tells whether two numbers are just the same, so that 0 and -0 aren't.
func alike(a, b complex128) bool {
	return a == b && math.Signbit(real(a)) == math.Signbit(real(b)) && math.Signbit(imag(a)) == math.Signbit(imag(b))
}

// spread is a plane of so many stations, none of which hears another one, and which all stand somewhere else.
func spread(t *testing.T, n int) twin {
	t.Helper()
	w := newTwin(t, n)
	for i := 1; i <= n; i++ {
		w.stand(t, i, spot{60 * i, -7 * i, i})
	}
	return w
}

// P14.1: which planes there are, and how they begin.
func TestP141New(t *testing.T) {
	for n := 1; n <= 16; n++ {
		w := newTwin(t, n)
		w.same(t)
		for i := 1; i <= n; i++ {
			if at, reach := w.p.At(i); at != 0 || reach != 0 {
				t.Errorf("New(%d): station %d stands at %v with reach %d", n, i, at, reach)
			}
			if l := w.p.Heard(i); len(l) != n-1 {
				t.Errorf("New(%d): %v hear %d", n, l, i)
			}
		}
		if at, reach := w.p.At(n + 1); at != 0 || reach != 0 || w.p.Stand(n+1, 0, 0) != api.ErrNone {
			t.Errorf("New(%d) has a station %d", n, n+1)
		}
	}
	for _, n := range noStations {
		if p, e := New(n); p != nil || e != api.ErrArg {
			t.Errorf("New(%d): %v, %d", n, p, e)
		}
	}
}

// P14.1: the document's example.
func TestP141Example(t *testing.T) {
	p, _ := New(2)
	if p.Stand(1, 0, 5) != api.OK || p.Stand(2, 3+4i, 0) != api.OK {
		t.Error("Stand")
	}
	if !p.Hears(2, 1) || p.Hears(1, 2) {
		t.Error("Hears")
	}
}

// P14.1: a station stands at each place, and with each reach, that may be.
func TestP141Stand(t *testing.T) {
	w := newTwin(t, 3)
	for _, x := range places {
		for _, y := range places {
			for _, reach := range []int{0, 1, 2000, 3999, 4000} {
				w.stand(t, 2, spot{int(x), int(y), reach})
			}
		}
	}
	for reach := -3; reach <= 4003; reach++ {
		if e := w.p.Stand(3, 0, reach); (e == api.OK) != (reach >= 0 && reach <= 4000) {
			t.Fatalf("reach %d: %d", reach, e)
		}
	}
	for x := -1003; x <= 1003; x++ {
		if e := w.p.Stand(3, place(x, 5), 1); (e == api.OK) != (x >= -1000 && x <= 1000) {
			t.Fatalf("real part %d: %d", x, e)
		}
		if e := w.p.Stand(3, place(-5, x), 1); (e == api.OK) != (x >= -1000 && x <= 1000) {
			t.Fatalf("imaginary part %d: %d", x, e)
		}
	}
}

// P14.1: where no station may stand, and with which reach; what is refused changes nothing.
func TestP141StandWrong(t *testing.T) {
	w := spread(t, 4)
	refused := func(at complex128, reach int) {
		t.Helper()
		if e := w.p.Stand(2, at, reach); e != api.ErrArg {
			t.Errorf("Stand(2, %v, %d): %d", at, reach, e)
		}
		for _, i := range append([]int{5, 16}, noStations...) {
			if e := w.p.Stand(i, at, reach); e != api.ErrNone {
				t.Errorf("Stand(%d, %v, %d): %d", i, at, reach, e)
			}
		}
		w.same(t)
	}
	for _, bad := range noPlaces {
		for _, good := range places {
			refused(complex(bad, good), 7)
			refused(complex(good, bad), 7)
		}
		refused(complex(bad, bad), 7)
		refused(complex(bad, 0), -1)
	}
	for _, reach := range noReaches {
		refused(0, reach)
		refused(1000-1000i, reach)
	}
}

// P14.1: a call about a station that isn't there answers nothing, or ErrNone, whatever else is wrong, and changes nothing.
func TestP141NoStation(t *testing.T) {
	w := spread(t, 3)
	for _, i := range append([]int{4, 5, 15, 16}, noStations...) {
		for _, z := range []complex128{0, 1, 5000, 0.5, complex(math.NaN(), 0)} {
			if w.p.Stand(i, z, 1) != api.ErrNone || w.p.Move(i, z) != api.ErrNone || w.p.Turn(i, z) != api.ErrNone {
				t.Errorf("station %d, %v", i, z)
			}
		}
		if at, reach := w.p.At(i); !alike(at, 0) || reach != 0 || len(w.p.Heard(i)) != 0 {
			t.Errorf("station %d", i)
		}
		for _, j := range []int{1, 3, 4, 0, i} {
			for _, on := range []bool{true, false} {
				if w.p.Block(i, j, on) != api.ErrNone || w.p.Block(j, i, on) != api.ErrNone {
					t.Errorf("Block of %d and %d", i, j)
				}
			}
			if w.p.Hears(i, j) || w.p.Hears(j, i) || len(w.p.Route(i, j)) != 0 || len(w.p.Route(j, i)) != 0 {
				t.Errorf("%d and %d", i, j)
			}
		}
		w.same(t)
	}
}

// P14.1: a station goes by so much, up to the ends of the plane and of what it goes at once.
func TestP141Move(t *testing.T) {
	w := spread(t, 3)
	ways := []int{-2001, -2000, -1999, -1001, -1000, -5, -1, 0, 1, 7, 1000, 1001, 1999, 2000, 2001}
	for _, x := range places {
		for _, y := range places {
			for _, by := range ways {
				for _, also := range ways {
					w.m.stand(2, spot{int(x), int(y), 44})
					w.p.Stand(2, complex(x, y), 44)
					w.move(t, 2, by, also)
				}
			}
		}
	}
}

// P14.1: by what no station goes; what is refused changes nothing.
func TestP141MoveWrong(t *testing.T) {
	w := spread(t, 3)
	for _, bad := range noWholes {
		for _, good := range []float64{-2000, -1, 0, 1, 2000} {
			for _, by := range []complex128{complex(bad, good), complex(good, bad), complex(bad, bad)} {
				if e := w.p.Move(3, by); e != api.ErrArg {
					t.Errorf("Move(3, %v): %d", by, e)
				}
				w.same(t)
			}
		}
	}
}

// P14.1: a quarter of a turn goes to the left, round any place, and four lead back.
func TestP141Turn(t *testing.T) {
	p, _ := New(1)
	p.Stand(1, 10+2i, 9)
	for _, want := range []complex128{4 + 6i, 0, 6 - 4i, 10 + 2i} {
		if e := p.Turn(1, 5+1i); e != api.OK {
			t.Error(e)
		}
		if at, reach := p.At(1); reach != 9 || at != want {
			t.Errorf("%v; want %v", at, want)
		}
	}
	for _, x := range places {
		for _, y := range places {
			for _, ax := range places {
				for _, ay := range places {
					turnAll(t, spot{int(x), int(y), 3}, int(ax), int(ay))
				}
			}
		}
	}
}

// turnAll turns a station four times; each time it stays where it is, if it came out of the plane.
func turnAll(t *testing.T, s spot, x, y int) {
	t.Helper()
	w := newTwin(t, 1)
	w.stand(t, 1, s)
	inside := true
	for range 4 {
		was := w.m.spots[0]
		w.turn(t, 1, x, y)
		inside = inside && (w.m.spots[0] != was || was.x == x && was.y == y)
	}
	if at, _ := w.p.At(1); inside && at != place(s.x, s.y) {
		t.Fatalf("four turns of %v round %d, %d lead to %v", s, x, y, at)
	}
}

// P14.1: round what no station turns; what is refused changes nothing.
func TestP141TurnWrong(t *testing.T) {
	w := spread(t, 3)
	for _, bad := range noPlaces {
		for _, good := range places {
			for _, about := range []complex128{complex(bad, good), complex(good, bad), complex(bad, bad)} {
				if e := w.p.Turn(2, about); e != api.ErrArg {
					t.Errorf("Turn(2, %v): %d", about, e)
				}
				w.same(t)
			}
		}
	}
}

// P14.1: a part of a place that is 0 is told as 0, not as -0, whichever of them was given.
func TestP141Zero(t *testing.T) {
	minus := math.Copysign(0, -1)
	for _, at := range []complex128{0, complex(minus, 0), complex(0, minus), complex(minus, minus)} {
		for _, z := range []complex128{at, at + 1, at - 1i, at + 1000} {
			for _, do := range []func(p *Plane) api.Errno{
				func(p *Plane) api.Errno { return p.Stand(1, at, 5) },
				func(p *Plane) api.Errno { return p.Move(1, at) },
				func(p *Plane) api.Errno { return p.Move(1, -z) },
				func(p *Plane) api.Errno { return p.Turn(1, at) },
				func(p *Plane) api.Errno { return p.Turn(1, z) },
			} {
				p, _ := New(2)
				if e := p.Stand(1, z, 5); e != api.OK {
					t.Errorf("Stand at %v: %d", z, e)
				}
				wantPlain(t, p)
				if e := do(p); e != api.OK {
					t.Errorf("at %v, by %v: %d", z, at, e)
				}
				wantPlain(t, p)
			}
		}
		if Apart(at, 0) != 0 || Apart(3+4i, at) != 25 {
			t.Errorf("Apart of %v", at)
		}
	}
}

// wantPlain says whether no part of the first station's place is -0.
func wantPlain(t *testing.T, p *Plane) {
	t.Helper()
	z, _ := p.At(1)
	for _, x := range []float64{real(z), imag(z)} {
		if x == 0 && math.Signbit(x) {
			t.Errorf("At: %v", z)
		}
	}
}

// P14.1: one hears another one just up to that one's reach.
func TestP141Hears(t *testing.T) {
	for _, x := range []int{0, 1, 2, 3, 5, 7, 20, 99, 707, 1000, 1999, 2000} {
		for _, y := range []int{0, 1, 3, 4, 12, 21, 100, 708, 999, 1000, 2000} {
			for _, sides := range [][2]int{{1, 1}, {1, -1}, {-1, 1}, {-1, -1}} {
				hearsAt(t, x*sides[0], y*sides[1])
			}
		}
	}
}

// hearsAt holds one to being heard so far away with each reach about that, and with the ends.
func hearsAt(t *testing.T, x, y int) {
	t.Helper()
	from := spot{x / 2, y / 2, 0}
	to := spot{from.x - x, from.y - y, 0}
	far := int(math.Sqrt(float64(x*x + y*y)))
	for reach := max(far-2, 0); reach <= far+2; reach++ {
		w := newTwin(t, 3)
		from.reach = reach
		w.stand(t, 3, from)
		w.stand(t, 1, to)
		if w.p.Hears(1, 3) != (reach*reach >= x*x+y*y) {
			t.Fatalf("%d, %d away, with reach %d: %t", x, y, reach, w.p.Hears(1, 3))
		}
		if w.p.Hears(3, 1) != (x == 0 && y == 0) {
			t.Fatalf("%d, %d away, with reach 0: %t", x, y, w.p.Hears(3, 1))
		}
	}
	w := newTwin(t, 2)
	w.stand(t, 1, from)
	w.stand(t, 2, spot{to.x, to.y, 4000})
	if !w.p.Hears(1, 2) || w.p.Hears(1, 1) || w.p.Hears(2, 2) {
		t.Fatalf("%d, %d away", x, y)
	}
}

// P14.1: a way is blocked in its direction alone, as often as that is told, till it isn't any more; wherever the two stand.
func TestP141Block(t *testing.T) {
	for from := 1; from <= 4; from++ {
		for to := 1; to <= 4; to++ {
			w := newTwin(t, 4)
			for _, on := range []bool{false, true, true, false, false, true, false, true} {
				w.block(t, from, to, on)
				if from != to && (w.p.Hears(to, from) == on || !w.p.Hears(from, to)) {
					t.Fatalf("Block(%d, %d, %t)", from, to, on)
				}
			}
			w.stand(t, to, spot{1, 1, 5})
			w.move(t, from, -1, 0)
			w.turn(t, to, 0, 0)
			w.block(t, to, from, true)
			w.block(t, from, to, false)
		}
	}
	w := newTwin(t, 16)
	for from := 1; from <= 16; from++ {
		for to := 1; to <= 16; to++ {
			w.block(t, from, to, true)
		}
	}
	for from := 16; from > 0; from-- {
		for to := 1; to <= 16; to++ {
			w.block(t, from, to, false)
		}
	}
}

// P14.1: the square of how far apart two places are.
func TestP141Apart(t *testing.T) {
	for _, x := range places {
		for _, y := range places {
			a := complex(x, y)
			for _, ax := range places {
				for _, ay := range places {
					want := int(x-ax)*int(x-ax) + int(y-ay)*int(y-ay)
					if n := Apart(a, complex(ax, ay)); n != want {
						t.Fatalf("Apart(%v, %v): %d; want %d", a, complex(ax, ay), n, want)
					}
				}
			}
			for _, bad := range noPlaces {
				for _, z := range []complex128{complex(bad, y), complex(x, bad), complex(bad, bad)} {
					if m, n, o := Apart(z, a), Apart(a, z), Apart(z, z); m != -1 || n != -1 || o != -1 {
						t.Fatalf("Apart of %v and %v: %d, %d, %d", z, a, m, n, o)
					}
				}
			}
		}
	}
}

// P14.1: a nil plane answers ErrArg, 0, or nothing, whatever it is told.
func TestP141Nil(t *testing.T) {
	var p *Plane
	for _, i := range append([]int{1, 2, 16}, noStations...) {
		for _, z := range []complex128{0, 1, 0.5, 5000} {
			if p.Stand(i, z, 1) != api.ErrArg || p.Move(i, z) != api.ErrArg || p.Turn(i, z) != api.ErrArg {
				t.Errorf("station %d, %v", i, z)
			}
		}
		at, reach := p.At(i)
		if p.Block(i, 2, true) != api.ErrArg || p.Block(2, i, false) != api.ErrArg || at != 0 || reach != 0 {
			t.Errorf("station %d", i)
		}
		if p.Hears(i, 2) || p.Hears(2, i) || len(p.Heard(i)) != 0 || len(p.Route(i, 2)) != 0 || len(p.Route(2, i)) != 0 || len(p.Route(i, i)) != 0 {
			t.Errorf("station %d", i)
		}
	}
	if p.Len() != 0 {
		t.Error(p.Len())
	}
}

// P14.1: a plane that New did not make has no stations.
func TestP141Zeroed(t *testing.T) {
	p := &Plane{}
	at, reach := p.At(1)
	if p.Len() != 0 || p.Stand(1, 0, 0) != api.ErrNone || p.Block(1, 2, true) != api.ErrNone || at != 0 || reach != 0 || len(p.Heard(1)) != 0 || len(p.Route(1, 2)) != 0 {
		t.Error("a station")
	}
}

// P14.1: all that is done, in many random orders; each route is the one of the model then.
func TestP141Random(t *testing.T) {
	r := rand.New(rand.NewSource(141))
	for round := range 300 {
		n := 1 + r.Intn(16)
		w := newTwin(t, n)
		most := []int{2, 6, 40, 1010}[round%4]
		number := func() int { return r.Intn(2*most+1) - most }
		for range 60 {
			i, j := r.Intn(n+2), r.Intn(n+2)
			switch x := r.Intn(10); {
			case x < 3:
				w.stand(t, i, spot{number(), number(), r.Intn(2*most + 1)})
			case x < 5:
				w.move(t, i, number(), number())
			case x < 7:
				w.turn(t, i, number(), number())
			default:
				w.block(t, i, j, x < 9)
			}
			if l, want := w.p.Route(i, j), w.m.route(i, j); !slices.Equal(l, want) {
				t.Fatalf("Route(%d, %d): %v; want %v", i, j, l, want)
			}
		}
	}
}

// shaped is a plane of n stations in which those hear each other, or one the other, of which ways says so.
func shaped(t *testing.T, n int, open func(from, to int) bool) twin {
	t.Helper()
	w := newTwin(t, n)
	for from := 1; from <= n; from++ {
		for to := 1; to <= n; to++ {
			if from != to && !open(from, to) && (w.p.Block(from, to, true) != api.OK || w.m.block(from, to, true) != api.OK) {
				t.Fatal("Block")
			}
		}
	}
	return w
}

// wantRoutes holds each route to what a search among all ways finds.
func wantRoutes(t *testing.T, w twin) {
	t.Helper()
	n := w.p.Len()
	for i := 1; i <= n; i++ {
		for j := 1; j <= n; j++ {
			if l, want := w.p.Route(i, j), w.m.search(i, j); !slices.Equal(l, want) {
				t.Fatalf("Route(%d, %d): %v; want %v; blocked %v", i, j, l, want, w.m.blocked)
			}
		}
	}
}

// P14.1, P14.2: all ways among up to four stations, each one blocked or not.
func TestP141RouteAll(t *testing.T) {
	for n := 1; n <= 4; n++ {
		for bits := range 1 << (n * (n - 1)) {
			left := bits
			wantRoutes(t, shaped(t, n, func(from, to int) bool {
				open := left&1 == 1
				left >>= 1
				return open
			}))
		}
	}
}

// P14.1, P14.2: all ways among five stations, each one blocked both ways or not at all.
func TestP141RouteFive(t *testing.T) {
	for bits := range 1 << 10 {
		var open [6][6]bool
		left := bits
		for a := 1; a <= 5; a++ {
			for b := a + 1; b <= 5; b++ {
				open[a][b], open[b][a] = left&1 == 1, left&1 == 1
				left >>= 1
			}
		}
		wantRoutes(t, shaped(t, 5, func(from, to int) bool { return open[from][to] }))
	}
}

// P14.1, P14.2: random ways among seven stations.
func TestP141RouteRandom(t *testing.T) {
	r := rand.New(rand.NewSource(142))
	for round := range 400 {
		wantRoutes(t, shaped(t, 7, func(from, to int) bool { return r.Intn(10) < 5+round%5 }))
	}
}

// P14.1, P14.2: the longest way there is goes by all others, in whatever order they stand.
func TestP141RouteLine(t *testing.T) {
	r := rand.New(rand.NewSource(143))
	for n := 2; n <= 16; n++ {
		w, order := newTwin(t, n), r.Perm(n)
		for at, i := range order {
			order[at]++
			w.stand(t, i+1, spot{100 * (at - 8), 3, 100})
		}
		for a := range n {
			for b := a; b < n; b++ {
				var want []int
				if b > a {
					want = slices.Clone(order[a+1 : b])
				}
				if l := w.p.Route(order[a], order[b]); !slices.Equal(l, want) {
					t.Fatalf("Route(%d, %d): %v; want %v", order[a], order[b], l, want)
				}
				slices.Reverse(want)
				if l := w.p.Route(order[b], order[a]); !slices.Equal(l, want) {
					t.Fatalf("Route(%d, %d): %v; want %v", order[b], order[a], l, want)
				}
			}
		}
	}
}

// P14.1: of several ways the first unlike station decides, not the last one.
func TestP141RouteFirst(t *testing.T) {
	pairs := [][2]int{{1, 4}, {4, 6}, {6, 8}, {1, 5}, {5, 3}, {3, 8}, {1, 7}, {7, 2}, {2, 8}}
	w := shaped(t, 8, func(from, to int) bool {
		return slices.Contains(pairs, [2]int{from, to}) || slices.Contains(pairs, [2]int{to, from})
	})
	for _, x := range []struct {
		i, j int
		want []int
	}{
		{1, 8, []int{4, 6}}, {8, 1, []int{2, 7}}, {1, 6, []int{4}}, {1, 1, nil}, {1, 4, nil}, {4, 5, []int{1}}, {6, 2, []int{8}}, {4, 3, []int{1, 5}},
	} {
		if l := w.p.Route(x.i, x.j); !slices.Equal(l, x.want) {
			t.Errorf("Route(%d, %d): %v; want %v", x.i, x.j, l, x.want)
		}
	}
}

// P14.1: a way on which one doesn't hear back, or isn't heard, is none.
func TestP141RouteBothWays(t *testing.T) {
	for _, blocked := range [][2]int{{1, 2}, {2, 1}, {2, 3}, {3, 2}} {
		w := newTwin(t, 3)
		for i := 1; i <= 3; i++ {
			w.stand(t, i, spot{10 * i, 0, 10})
		}
		if l := w.p.Route(1, 3); !slices.Equal(l, []int{2}) {
			t.Fatal(l)
		}
		w.block(t, blocked[0], blocked[1], true)
		if l, m := w.p.Route(1, 3), w.p.Route(3, 1); len(l) != 0 || len(m) != 0 {
			t.Errorf("%v blocked: %v, %v", blocked, l, m)
		}
		w.stand(t, 3, spot{30, 0, 20}) // 1 hears 3, but 3 doesn't hear 1
		if l := w.p.Route(1, 3); len(l) != 0 {
			t.Errorf("%v blocked: %v", blocked, l)
		}
		w.block(t, blocked[0], blocked[1], false)
		if l := w.p.Route(1, 3); !slices.Equal(l, []int{2}) {
			t.Error(l)
		}
	}
}

// P14.2: a route's stations hear each other, one by one, both ways, and no way has fewer.
func TestP142Routes(t *testing.T) {
	r := rand.New(rand.NewSource(1422))
	long := 0
	for round := range 400 {
		w, n := newTwin(t, 16), 16
		for i := 1; i <= n; i++ {
			w.p.Stand(i, place(r.Intn(201)-100, r.Intn(201)-100), 30+r.Intn(30)+round%20)
		}
		for range round % 50 {
			w.p.Block(1+r.Intn(n), 1+r.Intn(n), true)
		}
		for i := 1; i <= n; i++ {
			hops := hopsFrom(w.p, i)
			for j := 1; j <= n; j++ {
				l := w.p.Route(i, j)
				wantHops(t, w.p, i, j, l, hops)
				long = max(long, len(l))
			}
		}
	}
	if long < 5 {
		t.Errorf("no route had more than %d stations", long)
	}
}

// hopsFrom is how many steps each station is from i, by growing the set of those that are reached; -1: never.
func hopsFrom(p *Plane, i int) [17]int {
	var hops [17]int
	for k := range hops {
		hops[k] = -1
	}
	hops[i] = 0
	for step := 1; step <= 16; step++ {
		for k := range hops {
			for from := range hops {
				if hops[k] < 0 && hops[from] == step-1 && p.Hears(k, from) && p.Hears(from, k) {
					hops[k] = step
				}
			}
		}
	}
	return hops
}

func wantHops(t *testing.T, p *Plane, i, j int, l []int, hops [17]int) {
	t.Helper()
	if want := max(hops[j]-1, 0); len(l) != want {
		t.Fatalf("Route(%d, %d): %v; want %d", i, j, l, want)
	}
	if len(l) == 0 {
		return
	}
	way := append(append([]int{i}, l...), j)
	for k := range way[1:] {
		if a, b := way[k], way[k+1]; !p.Hears(a, b) || !p.Hears(b, a) {
			t.Fatalf("Route(%d, %d): %v: %d and %d don't hear each other", i, j, l, a, b)
		}
	}
}

// P14.1: what is asked changes nothing, and what is answered shares no memory with what is kept, nor with another answer.
func TestP141Memory(t *testing.T) {
	w := newTwin(t, 9)
	for i := 1; i <= 9; i++ {
		w.stand(t, i, spot{10 * i, 0, 20})
	}
	heard, route := slices.Clone(w.p.Heard(5)), slices.Clone(w.p.Route(1, 9))
	if len(heard) != 4 || len(route) != 3 {
		t.Fatal(heard, route)
	}
	for range 3 {
		a, b := w.p.Heard(5), w.p.Route(1, 9)
		for _, l := range [][]int{a[:cap(a)], b[:cap(b)]} {
			for i := range l {
				l[i] = -7
			}
		}
		if l, m := w.p.Heard(5), w.p.Route(1, 9); !slices.Equal(l, heard) || !slices.Equal(m, route) {
			t.Fatal(l, m)
		}
		w.same(t)
		if slices.ContainsFunc(append(a[:cap(a)], b[:cap(b)]...), func(n int) bool { return n != -7 }) {
			t.Fatal("an answer was written into")
		}
	}
}

// P14.1: a plane's calls touch no other plane.
func TestP141Apiece(t *testing.T) {
	a, b := spread(t, 3), spread(t, 3)
	a.stand(t, 1, spot{1, 2, 300})
	a.move(t, 2, 5, 5)
	a.turn(t, 3, 1, 1)
	a.block(t, 1, 2, true)
	b.same(t)
	b.stand(t, 1, spot{0, 0, 4000})
	if !b.p.Hears(2, 1) {
		t.Error("blocked in another plane")
	}
	a.same(t)
}
