package smooth

import (
	"math"
	"math/rand"
	"testing"
)

// far are numbers that are out of every bound.
var far = []int{math.MinInt, math.MinInt + 1, -1 << 33, -1 << 32, -1<<32 + 20, -1000, -256, -255, -5, -1, 256, 257, 1000, 1 << 31, 1 << 32, 1<<32 + 20, math.MaxInt / 2, math.MaxInt/2 + 1, math.MaxInt/4 + 1, math.MaxInt - 1, math.MaxInt}

// inOrOut are numbers on both sides of the bounds, and between.
func inOrOut() []int {
	l := append([]int{}, far...)
	for n := -10; n <= 270; n++ {
		l = append(l, n)
	}
	return l
}

// parts is how often part goes into n.
func parts(n, part int) int {
	q := 0
	for (q+1)*part <= n {
		q++
	}
	return q
}

// bound is n, or the end that it is beyond.
func bound(n, least, most int) int {
	if n < least {
		return least
	}
	if n > most {
		return most
	}
	return n
}

// model is a smoother that was worked out in the document's words.
type model struct{ srt, t1 int }

func newModel(t1 int) model {
	t1 = bound(t1, 4, 255)
	return model{srt: t1 + t1 + t1 + t1, t1: t1}
}

func (m model) took(t int) model {
	srt := m.srt - parts(m.srt, 8) + bound(t, 0, 255)
	return model{srt: srt, t1: bound(parts(srt, 4)+2, 4, 255)}
}

func (m model) none() model {
	return model{srt: m.srt, t1: bound(m.t1+m.t1, 4, 255)}
}

// want says whether a smoother keeps what the model does.
func (m model) want(t *testing.T, s *Smoother, told int) {
	t.Helper()
	if told != m.t1 || s.T1() != m.t1 || s.Srt() != m.srt {
		t.Fatalf("told %d, T1 %d, Srt %d; want T1 %d, Srt %d", told, s.T1(), s.Srt(), m.t1, m.srt)
	}
	if s.T1() < 4 || s.T1() > 255 {
		t.Fatalf("T1 %d", s.T1())
	}
}

// reached are smoothers one for each Srt that any times lead to.
func reached() []Smoother {
	seen := map[int]bool{}
	var l []Smoother
	add := func(s Smoother) {
		if !seen[s.Srt()] {
			seen[s.Srt()] = true
			l = append(l, s)
		}
	}
	for t1 := Least; t1 <= Most; t1++ {
		add(*New(t1))
	}
	for i := 0; i < len(l); i++ {
		for t := range Most + 1 {
			s := l[i]
			s.Took(t)
			add(s)
		}
	}
	return l
}

// P12.1: the bounds are those that the document names.
func TestP121Bounds(t *testing.T) {
	if Least != 4 || Most != 255 {
		t.Error(Least, Most)
	}
}

// P12.1: the document's example.
func TestP121Example(t *testing.T) {
	s := New(20)
	if s.T1() != 20 || s.Srt() != 80 {
		t.Error(s.T1(), s.Srt())
	}
	if n := s.Took(4); n != 20 || s.T1() != 20 || s.Srt() != 74 {
		t.Error(n, s.T1(), s.Srt())
	}
	if n := s.None(); n != 40 || s.T1() != 40 || s.Srt() != 74 {
		t.Error(n, s.T1(), s.Srt())
	}
}

// P12.1: a new smoother, of every T1, those beyond the ends too.
func TestP121New(t *testing.T) {
	for _, t1 := range inOrOut() {
		s := New(t1)
		newModel(t1).want(t, s, s.T1())
	}
	for _, l := range [][3]int{{math.MinInt, 4, 16}, {0, 4, 16}, {3, 4, 16}, {4, 4, 16}, {5, 5, 20}, {254, 254, 1016}, {255, 255, 1020}, {256, 255, 1020}, {math.MaxInt, 255, 1020}} {
		if s := New(l[0]); s.T1() != l[1] || s.Srt() != l[2] {
			t.Errorf("New(%d): %d, %d", l[0], s.T1(), s.Srt())
		}
	}
}

// P12.1: a time, of every Srt that there may be.
func TestP121Took(t *testing.T) {
	times := inOrOut()
	for _, kept := range reached() {
		for _, n := range times {
			s := kept
			told := s.Took(n)
			model{srt: kept.Srt(), t1: kept.T1()}.took(n).want(t, &s, told)
		}
	}
}

// P12.1: times that are out of bounds count as the ends.
func TestP121TookEnds(t *testing.T) {
	for _, n := range far {
		end := 0
		if n > Most {
			end = Most
		}
		a, b := New(20), New(20)
		for range 100 {
			if a.Took(n) != b.Took(end) || a.Srt() != b.Srt() {
				t.Fatalf("Took(%d): T1 %d, Srt %d; of %d T1 %d, Srt %d", n, a.T1(), a.Srt(), end, b.T1(), b.Srt())
			}
		}
	}
	a, b := New(20), New(20)
	if a.Took(Most - 1); a.Srt() != 80-10+254 {
		t.Error(a.Srt())
	}
	if b.Took(Most); b.Srt() != 80-10+255 {
		t.Error(b.Srt())
	}
}

// P12.1: when no answer came, T1 is twice as much, up to its end; Srt stays.
func TestP121None(t *testing.T) {
	for t1 := Least; t1 <= Most; t1++ {
		s, m := New(t1), newModel(t1)
		for range 20 {
			m = m.none()
			m.want(t, s, s.None())
		}
	}
	s := New(4)
	for _, want := range []int{8, 16, 32, 64, 128, 255, 255, 255} {
		if n := s.None(); n != want || s.Srt() != 16 {
			t.Errorf("%d, Srt %d; want %d", n, s.Srt(), want)
		}
	}
	if n := s.Took(0); n != 5 || s.Srt() != 14 { // what T1 was by then doesn't count
		t.Error(n, s.Srt())
	}
}

// P12.1: T1 and Srt, however often they are asked, change nothing, and no smoother changes another one.
func TestP121Asked(t *testing.T) {
	a, b := New(20), New(30)
	for range 10 {
		if a.T1() != 20 || a.Srt() != 80 {
			t.Error(a.T1(), a.Srt())
		}
	}
	a.Took(100)
	a.None()
	if b.T1() != 30 || b.Srt() != 120 {
		t.Error(b.T1(), b.Srt())
	}
}

// P12.1: times, and answers that didn't come, in every order.
func TestP121Random(t *testing.T) {
	r := rand.New(rand.NewSource(12))
	times := inOrOut()
	for range 300 {
		t1 := times[r.Intn(len(times))]
		s, m := New(t1), newModel(t1)
		seldom := 1 + r.Intn(10)
		for range 300 {
			if r.Intn(seldom) == 0 {
				m = m.none()
				m.want(t, s, s.None())
				continue
			}
			n := times[r.Intn(len(times))]
			m = m.took(n)
			m.want(t, s, s.Took(n))
		}
	}
}

// P12.1: how many ticks go by when answers don't come.
func TestP121Sum(t *testing.T) {
	for _, t1 := range inOrOut() {
		m, sum := newModel(t1), 0
		for tries := range 1003 {
			want := sum
			if n := Sum(t1, tries); n != want {
				t.Fatalf("Sum(%d, %d): %d; want %d", t1, tries, n, want)
			}
			if tries < 1000 {
				sum += m.t1
				m = m.none()
			}
		}
	}
	for _, l := range [][3]int{{10, 1, 10}, {10, 2, 30}, {10, 3, 70}, {4, 8, 4 + 8 + 16 + 32 + 64 + 128 + 255 + 255}, {-1, 2, 12}, {255, 2, 510}, {256, 1, 255}, {255, 999, 999 * 255}, {255, 1000, 255000}, {255, 1001, 255000}} {
		if n := Sum(l[0], l[1]); n != l[2] {
			t.Errorf("Sum(%d, %d): %d; want %d", l[0], l[1], n, l[2])
		}
	}
}

// P12.1: tries of which there are none, and too many.
func TestP121SumTries(t *testing.T) {
	for _, t1 := range inOrOut() {
		most := Sum(t1, 1000)
		for _, tries := range far {
			want := 0
			if tries >= 1000 {
				want = most
			}
			if tries > 0 && tries < 1000 {
				continue
			}
			if n := Sum(t1, tries); n != want {
				t.Errorf("Sum(%d, %d): %d; want %d", t1, tries, n, want)
			}
		}
	}
}

// P12.1: a nil smoother answers 0, whatever it is told.
func TestP121Nil(t *testing.T) {
	var s *Smoother
	for _, n := range inOrOut() {
		if s.Took(n) != 0 || s.None() != 0 || s.T1() != 0 || s.Srt() != 0 {
			t.Errorf("Took(%d)", n)
		}
	}
}

// P12.1: T1 is within its ends in a smoother that New did not make, too.
func TestP121NotNew(t *testing.T) {
	if n := new(Smoother).T1(); n != Least {
		t.Error(n)
	}
	if n := new(Smoother).None(); n != Least {
		t.Error(n)
	}
	for _, n := range far {
		if t1 := new(Smoother).Took(n); t1 < Least || t1 > Most {
			t.Errorf("Took(%d): %d", n, t1)
		}
	}
}

// near tells whether T1 is within 3 of twice t, or at the end that this is beyond.
func near(t1, t int) bool {
	switch {
	case t <= 0:
		return t1 == 4
	case t >= 128:
		return t1 == 255
	case t == 1:
		return t1 >= 4 && t1 <= 5
	}
	return t1 >= 2*t-3 && t1 <= 2*t+3
}

// P12.2: where each answer takes the same time, T1 comes to it within 60 answers, whatever it was, and stays there.
func TestP122(t *testing.T) {
	for _, kept := range reached() {
		for n := -1; n <= Most+1; n++ {
			wantNear(t, kept, n)
		}
	}
}

// P12.2: so it does behind answers that didn't come, and for times that are far out of bounds.
func TestP122Behind(t *testing.T) {
	for _, t1 := range []int{math.MinInt, 4, 5, 20, 254, 255, math.MaxInt} {
		for _, n := range inOrOut() {
			s := New(t1)
			for range 10 {
				s.None()
			}
			wantNear(t, *s, n)
		}
	}
}

// wantNear says whether T1 comes to be near by times of n, and stays there.
func wantNear(t *testing.T, s Smoother, n int) {
	t.Helper()
	was := s
	for range 60 {
		s.Took(n)
	}
	for range 60 {
		if !near(s.T1(), n) {
			t.Fatalf("T1 %d, Srt %d: by times of %d T1 %d", was.T1(), was.Srt(), n, s.T1())
		}
		s.Took(n)
	}
}
