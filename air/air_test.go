package air

import (
	"math"
	"math/rand"
	"slices"
	"strings"
	"testing"

	"squelch/api"
	"squelch/place"
)

// noStations are numbers that no station of any plane has.
var noStations = []int{math.MinInt, math.MinInt + 1, -1 << 32, -1<<32 + 1, -17, -16, -2, -1, 0, 17, 18, 32, 1 << 16, 1<<32 + 1, math.MaxInt - 1, math.MaxInt}

// noTicks are numbers of ticks that no lead and no tail has.
var noTicks = []int{math.MinInt, -1 << 32, -1<<32 + 1, -256, -255, -2, -1, 256, 257, 512, 1000, 1 << 32, 1<<32 + 1, math.MaxInt}

// order is what is to be done with a frame, in the model.
type order struct {
	lose bool
	at   int
	by   byte
}

// sent is a burst that a model has: its first Tick, and what it was given.
type sent struct {
	from, start, lead, tail int
	frames                  []string
}

// end is the burst's last Tick.
func (s sent) end() int {
	n := s.start + s.lead + s.tail - 1
	for _, f := range s.frames {
		n += ticksOf(f)
	}
	return n
}

// ticksOf is how many ticks a frame takes, counted byte by byte.
func ticksOf(frame string) int {
	n, bytes := 1, 0
	for range []byte(frame) {
		bytes++
		if bytes == 40 {
			n, bytes = n+1, 0
		}
	}
	return n
}

// shot is what a Tick was like: who was on, and who heard whom.
type shot struct {
	on    [17]bool
	hears [17][17]bool
}

// clear tells whether what one sends was clear to another one then.
func (s shot) clear(from, to int) bool {
	if from == to || s.on[to] || !s.hears[to][from] {
		return false
	}
	for other := range s.on {
		if other != from && s.on[other] && s.hears[to][other] {
			return false
		}
	}
	return true
}

// model is the air in the document's words: it remembers all that ever was.
type model struct {
	p      *place.Plane
	now    int // Ticks that went by
	bursts []sent
	past   []shot
	orders map[[2]int][]order
}

func (m *model) has(i int) bool { return 1 <= i && i <= m.p.Len() }

func (m *model) on(i int) bool { return m.left(i) > 0 }

func (m *model) left(i int) int {
	for _, s := range m.bursts {
		if s.from == i && s.end() > m.now {
			return s.end() - m.now
		}
	}
	return 0
}

func (m *model) hears(i int) bool {
	for j := range 17 {
		if m.on(j) && m.p.Hears(i, j) {
			return true
		}
	}
	return false
}

func (m *model) quiet() bool {
	for i := range 17 {
		if m.on(i) {
			return false
		}
	}
	return true
}

func (m *model) send(i, lead, tail int, frames []string) api.Errno {
	if !m.has(i) {
		return api.ErrNone
	}
	if lead < 0 || lead > 255 || tail < 0 || tail > 255 || len(frames) < 1 || len(frames) > 7 {
		return api.ErrArg
	}
	for _, f := range frames {
		if len(f) > 333 {
			return api.ErrArg
		}
	}
	if m.on(i) {
		return api.ErrBusy
	}
	m.bursts = append(m.bursts, sent{i, m.now + 1, lead, tail, slices.Clone(frames)})
	return api.OK
}

func (m *model) order(from, to int, o order) api.Errno {
	switch w := [2]int{from, to}; {
	case !m.has(from) || !m.has(to):
		return api.ErrNone
	case from == to || !o.lose && (o.by == 0 || o.at < 0):
		return api.ErrArg
	case len(m.orders[w]) == 8:
		return api.ErrFull
	default:
		m.orders[w] = append(m.orders[w], o)
		return api.OK
	}
}

// picture is what the next Tick is like.
func (m *model) picture() shot {
	var s shot
	for i := range 17 {
		s.on[i] = m.on(i)
		for j := range 17 {
			s.hears[i][j] = m.p.Hears(i, j)
		}
	}
	return s
}

func (m *model) tick() []Got {
	m.past = append(m.past, m.picture())
	m.now++
	var l []Got
	for from := range 17 {
		for _, s := range m.bursts {
			if s.from == from {
				l = append(l, m.ended(s)...)
			}
		}
	}
	return l
}

// ended is what comes of a burst's frame that ends just now.
func (m *model) ended(s sent) []Got {
	var l []Got
	at := s.start + s.lead
	for _, f := range s.frames {
		first := at
		at += ticksOf(f)
		if at-1 != m.now {
			continue
		}
		for to := range 17 {
			if !slices.ContainsFunc(m.past[first-1:], func(x shot) bool { return !x.clear(s.from, to) }) {
				l = append(l, m.come(s.from, to, f)...)
			}
		}
	}
	return l
}

// come is a frame that would come, with what was said ahead done.
func (m *model) come(from, to int, frame string) []Got {
	g := Got{From: from, To: to, Bytes: frame}
	w := [2]int{from, to}
	if len(m.orders[w]) == 0 {
		return []Got{g}
	}
	o := m.orders[w][0]
	m.orders[w] = slices.Clone(m.orders[w][1:])
	if o.lose {
		return nil
	}
	if b := []byte(frame); len(b) > 0 {
		b[o.at%len(b)] ^= o.by
		g.Bytes, g.Spoilt = string(b), true
	}
	return []Got{g}
}

// twin is the air over a plane, and the model of it.
type twin struct {
	*place.Plane
	a *Air
	m *model
}

// newTwin is the air over n stations that all hear each other.
func newTwin(t *testing.T, n int) twin {
	t.Helper()
	p, e := place.New(n)
	if e != api.OK {
		t.Fatalf("place.New(%d): %d", n, e)
	}
	a, e := New(p)
	if a == nil || e != api.OK {
		t.Fatalf("New: %v, %d", a, e)
	}
	return twin{p, a, &model{p: p, orders: map[[2]int][]order{}}}
}

// newLine is the air over n stations in a row, each of which hears those just beside it.
func newLine(t *testing.T, n int) twin {
	t.Helper()
	w := newTwin(t, n)
	for i := 1; i <= n; i++ {
		w.stand(t, i, complex(float64(10*i), 0), 15)
	}
	return w
}

func (w twin) stand(t *testing.T, i int, at complex128, reach int) {
	t.Helper()
	if e := w.Stand(i, at, reach); e != api.OK {
		t.Fatalf("Stand(%d, %v, %d): %d", i, at, reach, e)
	}
	w.same(t)
}

func (w twin) send(t *testing.T, i, lead, tail int, frames ...string) {
	t.Helper()
	if e, want := w.a.Send(i, lead, tail, frames...), w.m.send(i, lead, tail, frames); e != want {
		t.Fatalf("Send(%d, %d, %d, %d frames): %d; want %d", i, lead, tail, len(frames), e, want)
	}
	w.same(t)
}

func (w twin) lose(t *testing.T, from, to int) {
	t.Helper()
	if e, want := w.a.Lose(from, to), w.m.order(from, to, order{lose: true}); e != want {
		t.Fatalf("Lose(%d, %d): %d; want %d", from, to, e, want)
	}
	w.same(t)
}

func (w twin) spoil(t *testing.T, from, to, at int, by byte) {
	t.Helper()
	if e, want := w.a.Spoil(from, to, at, by), w.m.order(from, to, order{at: at, by: by}); e != want {
		t.Fatalf("Spoil(%d, %d, %d, %d): %d; want %d", from, to, at, by, e, want)
	}
	w.same(t)
}

func (w twin) tick(t *testing.T) []Got {
	t.Helper()
	l, want := w.a.Tick(), w.m.tick()
	if !slices.Equal(l, want) {
		t.Fatalf("Tick %d: %v; want %v", w.m.now, l, want)
	}
	w.same(t)
	return l
}

// ticks lets so many go by: all that comes.
func (w twin) ticks(t *testing.T, n int) []Got {
	t.Helper()
	var l []Got
	for range n {
		l = append(l, w.tick(t)...)
	}
	return l
}

// same says whether the air tells what the model does.
func (w twin) same(t *testing.T) {
	t.Helper()
	if w.a.Quiet() != w.m.quiet() {
		t.Fatalf("Quiet: %t", w.a.Quiet())
	}
	for i := -1; i <= 18; i++ {
		if on, left := w.a.On(i), w.a.Left(i); on != w.m.on(i) || left != w.m.left(i) {
			t.Fatalf("On(%d): %t, Left: %d; want %d", i, on, left, w.m.left(i))
		}
		if w.a.Hears(i) != w.m.hears(i) {
			t.Fatalf("Hears(%d): %t", i, w.a.Hears(i))
		}
	}
}

// want says whether just these frames came: each one from, to, its bytes, "!" behind those of one that is spoilt.
func want(t *testing.T, l []Got, words ...string) {
	t.Helper()
	var told []string
	for _, g := range l {
		s := string(rune('0'+g.From)) + string(rune('0'+g.To)) + g.Bytes
		if g.Spoilt {
			s += "!"
		}
		told = append(told, s)
	}
	if !slices.Equal(told, words) {
		t.Fatalf("came: %q; want %q", told, words)
	}
}

// P15.1: there is no air without a plane, and nobody is on at first.
func TestP151New(t *testing.T) {
	if a, e := New(nil); a != nil || e != api.ErrArg {
		t.Errorf("New(nil): %v, %d", a, e)
	}
	for n := 1; n <= 16; n++ {
		w := newTwin(t, n)
		w.same(t)
		if !w.a.Quiet() || len(w.a.Tick()) != 0 || len(w.a.Tick()) != 0 {
			t.Errorf("%d stations: somebody is on", n)
		}
		if w.a.Send(n, 0, 0, "") != api.OK || w.a.Send(n+1, 0, 0, "") != api.ErrNone {
			t.Errorf("%d stations: Send", n)
		}
	}
}

// P15.1: the air has its plane's stations: where they stand is told by either.
func TestP151Plane(t *testing.T) {
	w := newTwin(t, 3)
	if w.a.Len() != 3 || w.a.Stand(2, 5+5i, 9) != api.OK || w.Move(2, 1) != api.OK {
		t.Error("Len, Stand, Move")
	}
	if at, reach := w.At(2); at != 6+5i || reach != 9 {
		t.Errorf("At(2): %v, %d", at, reach)
	}
	if at, reach := w.a.At(2); at != 6+5i || reach != 9 {
		t.Errorf("At(2): %v, %d", at, reach)
	}
}

// P15.1: the document's example.
func TestP151Example(t *testing.T) {
	w := newTwin(t, 2)
	w.send(t, 1, 0, 0, "a")
	w.send(t, 2, 0, 0, "b")
	want(t, w.ticks(t, 3))
	w.send(t, 1, 0, 0, "a")
	want(t, w.tick(t), "12a")
	w.send(t, 2, 0, 0, "b")
	want(t, w.tick(t), "21b")
}

// P15.1: how many ticks a frame takes: one, and one more for each whole 40 bytes.
func TestP151Long(t *testing.T) {
	for _, x := range [][2]int{{0, 1}, {1, 1}, {39, 1}, {40, 2}, {41, 2}, {79, 2}, {80, 3}, {119, 3}, {120, 4}, {320, 9}, {333, 9}, {334, 9}, {359, 9}, {360, 10}, {4000, 101}} {
		if n := Long(strings.Repeat("\xff", x[0])); n != x[1] {
			t.Errorf("Long of %d bytes: %d; want %d", x[0], n, x[1])
		}
	}
	for n := range 1000 {
		if s := strings.Repeat("x", n); Long(s) != ticksOf(s) {
			t.Errorf("Long of %d bytes: %d; want %d", n, Long(s), ticksOf(s))
		}
	}
}

// P15.1: a burst is on for its lead, its frames, and its tail, from Send on; each frame comes with its last tick.
func TestP151Burst(t *testing.T) {
	frames := []string{"", "x", strings.Repeat("y", 39), strings.Repeat("z", 40), strings.Repeat("v", 80), strings.Repeat("w", 333)}
	for _, lead := range []int{0, 1, 2, 5, 254, 255} {
		for _, tail := range []int{0, 1, 3, 255} {
			for n := 1; n <= len(frames); n++ {
				w := newTwin(t, 3)
				w.send(t, 2, lead, tail, frames[:n]...)
				burstOf(t, w, lead, tail, frames[:n])
			}
		}
	}
}

// burstOf follows a burst of station 2, of three, from Send to its end.
func burstOf(t *testing.T, w twin, lead, tail int, frames []string) {
	t.Helper()
	left := lead + tail
	for _, f := range frames {
		left += ticksOf(f)
	}
	quietFor := func(n int) {
		t.Helper()
		for range n {
			if w.a.Left(2) != left || !w.a.On(2) || w.a.Quiet() || !w.a.Hears(1) || !w.a.Hears(3) || w.a.Hears(2) {
				t.Fatalf("%d left; want %d", w.a.Left(2), left)
			}
			want(t, w.tick(t))
			left--
		}
	}
	quietFor(lead)
	for _, f := range frames {
		quietFor(ticksOf(f) - 1)
		if w.a.Left(2) != left || !w.a.On(2) || w.a.Quiet() {
			t.Fatalf("%d left; want %d", w.a.Left(2), left)
		}
		want(t, w.tick(t), "21"+f, "23"+f)
		left--
	}
	quietFor(tail)
	if left != 0 || w.a.Left(2) != 0 || w.a.On(2) || !w.a.Quiet() || w.a.Hears(1) {
		t.Fatalf("%d left at the end", w.a.Left(2))
	}
	want(t, w.ticks(t, 3))
	w.send(t, 2, 0, 0, "again")
	want(t, w.tick(t), "21again", "23again")
}

// P15.1: what a burst may have, to the ends.
func TestP151SendRight(t *testing.T) {
	for n := 1; n <= 7; n++ {
		for _, size := range []int{0, 1, 40, 331, 332, 333} {
			w := newTwin(t, 16)
			frames := slices.Repeat([]string{strings.Repeat("q", size)}, n)
			if e := w.a.Send(16, 255, 255, frames...); e != api.OK {
				t.Errorf("%d frames of %d bytes: %d", n, size, e)
			}
			if left := w.a.Left(16); left != 510+n*(1+size/40) {
				t.Errorf("%d frames of %d bytes: %d left", n, size, left)
			}
		}
	}
	for ticks := -3; ticks <= 300; ticks++ {
		for _, x := range [][2]int{{ticks, 0}, {0, ticks}} {
			w := newTwin(t, 1)
			if e := w.a.Send(1, x[0], x[1], "x"); (e == api.OK) != (ticks >= 0 && ticks <= 255) {
				t.Errorf("Send(1, %d, %d): %d", x[0], x[1], e)
			}
		}
	}
}

// P15.1: what no burst may have; no such station is asked first, who is on last; what is refused changes nothing.
func TestP151SendWrong(t *testing.T) {
	w := newTwin(t, 3)
	w.send(t, 3, 2, 100, "abc")
	refused := func(lead, tail int, frames ...string) {
		t.Helper()
		for _, i := range []int{1, 2, 3} {
			if e := w.a.Send(i, lead, tail, frames...); e != api.ErrArg {
				t.Errorf("Send(%d, %d, %d, %d frames): %d", i, lead, tail, len(frames), e)
			}
		}
		for _, i := range append([]int{4, 5, 16}, noStations...) {
			if e := w.a.Send(i, lead, tail, frames...); e != api.ErrNone {
				t.Errorf("Send(%d, %d, %d, %d frames): %d", i, lead, tail, len(frames), e)
			}
		}
		w.same(t)
	}
	for _, ticks := range noTicks {
		refused(ticks, 0, "x")
		refused(0, ticks, "x")
		refused(ticks, ticks)
	}
	refused(0, 0)
	refused(0, 0, []string{}...)
	for _, n := range []int{8, 9, 16, 100, 256, 263} {
		refused(1, 1, slices.Repeat([]string{"x"}, n)...)
	}
	for _, size := range []int{334, 335, 400, 1000, 65536 + 40} {
		long := strings.Repeat("l", size)
		refused(1, 1, long)
		refused(1, 1, "a", long)
		refused(1, 1, long, "a")
		refused(1, 1, "1", "2", "3", "4", "5", "6", long)
	}
	want(t, w.ticks(t, 3), "31abc", "32abc")
}

// P15.1: a station that is on is busy, to its tail's last Tick, and what it sends stays as it is.
func TestP151Busy(t *testing.T) {
	w := newTwin(t, 3)
	w.send(t, 1, 2, 3, "one", strings.Repeat("x", 45))
	for range 8 {
		if e := w.a.Send(1, 0, 0, "two"); e != api.ErrBusy {
			t.Fatalf("Send with %d left: %d", w.a.Left(1), e)
		}
		w.tick(t)
	}
	w.send(t, 1, 0, 0, "two")
	want(t, w.tick(t), "12two", "13two")
}

// P15.1: a number that no station has is on never, hears nobody, and has no ticks left.
func TestP151NoStation(t *testing.T) {
	w := newTwin(t, 3)
	w.send(t, 1, 1, 1, "a")
	for _, i := range append([]int{4, 5, 15, 16}, noStations...) {
		if w.a.On(i) || w.a.Hears(i) || w.a.Left(i) != 0 {
			t.Errorf("station %d", i)
		}
		for _, j := range []int{1, 2, i, 0} {
			if w.a.Lose(i, j) != api.ErrNone || w.a.Lose(j, i) != api.ErrNone || w.a.Spoil(i, j, 0, 1) != api.ErrNone || w.a.Spoil(j, i, 0, 1) != api.ErrNone {
				t.Errorf("stations %d and %d", i, j)
			}
			if w.a.Spoil(i, j, -1, 0) != api.ErrNone || w.a.Spoil(j, i, -1, 0) != api.ErrNone {
				t.Errorf("stations %d and %d", i, j)
			}
		}
		w.same(t)
	}
	want(t, w.ticks(t, 3), "12a", "13a")
}

// P15.1: a station hears those that are on and are heard there, in lead, frames and tail alike, whether it is on itself or not.
func TestP151Hears(t *testing.T) {
	w := newLine(t, 5)
	hears := func(words string) {
		t.Helper()
		for i := 1; i <= 5; i++ {
			if w.a.Hears(i) != (words[i-1] == 'y') {
				t.Fatalf("with %d left Hears(%d): %t; want %s", w.a.Left(2), i, w.a.Hears(i), words)
			}
		}
	}
	hears("nnnnn")
	w.send(t, 2, 1, 1, strings.Repeat("x", 40))
	for range 4 {
		hears("ynynn")
		w.tick(t)
	}
	hears("nnnnn")
	w.send(t, 3, 9, 9, "x")
	hears("nynyn")
	w.send(t, 2, 9, 9, "x")
	hears("yyyyn")
	w.stand(t, 2, 50, 3) // it goes to station 5, and is heard there alone; it hears 4, which isn't on
	hears("nnnyy")
	if w.Block(2, 5, true) != api.OK {
		t.Fatal("Block")
	}
	hears("nnnyn")
}

// P15.1: one that isn't heard by both disturbs alone where it is heard.
func TestP151Hidden(t *testing.T) {
	w := newLine(t, 5)
	w.send(t, 1, 0, 0, "a")
	w.send(t, 3, 0, 0, "b")
	want(t, w.tick(t), "34b")
	w.send(t, 1, 0, 0, "a")
	w.send(t, 4, 0, 0, "b")
	want(t, w.tick(t), "12a", "43b", "45b")
	w.send(t, 2, 0, 0, "a")
	w.send(t, 3, 0, 0, "b")
	want(t, w.tick(t), "21a", "34b")
	w.send(t, 1, 0, 0, "a")
	w.send(t, 2, 0, 0, "b")
	w.send(t, 3, 0, 0, "c")
	want(t, w.tick(t), "34c")
}

// P15.1: a station that hears another one, but isn't heard there, takes what that one sends, and doesn't disturb it.
func TestP151OneWay(t *testing.T) {
	w := newTwin(t, 3)
	w.stand(t, 1, 0, 10)
	w.stand(t, 2, 10, 0)
	w.stand(t, 3, 5, 3)
	w.send(t, 1, 0, 0, "a")
	want(t, w.tick(t), "12a", "13a")
	w.send(t, 2, 0, 0, "b")
	want(t, w.tick(t))
	w.send(t, 1, 0, 0, "a")
	w.send(t, 3, 0, 0, "c")
	want(t, w.tick(t), "12a")
	w.send(t, 1, 0, 0, "a")
	w.send(t, 2, 0, 0, "b")
	want(t, w.tick(t), "13a")
}

// P15.1: a frame of three ticks comes only if it was clear in all of them: another one that is on in one of them, in its lead, a frame or its tail, spoils it for those who hear both.
func TestP151Disturbed(t *testing.T) {
	long := strings.Repeat("x", 80)
	for at := range 8 { // the frame is sent in the third, fourth and fifth Tick
		for _, others := range [][3]int{{0, 0, 1}, {1, 0, 1}, {0, 1, 1}, {2, 0, 1}, {0, 2, 1}, {0, 0, 40}} {
			w := newTwin(t, 4)
			w.stand(t, 3, 100, 200)
			w.stand(t, 1, 0, 200)
			w.stand(t, 4, -150, 60) // hears station 1 alone
			w.stand(t, 2, 50, 0)    // hears stations 1 and 3, and is heard nowhere
			w.send(t, 1, 2, 3, long)
			var l []Got
			for tick := range 8 {
				if tick == at {
					w.send(t, 3, others[0], others[1], strings.Repeat("o", others[2]))
				}
				l = append(l, w.tick(t)...)
			}
			l = append(l, w.ticks(t, 9)...)
			first, last := at+1, at+others[0]+others[1]+1+others[2]/40
			got := slices.Contains(l, Got{From: 1, To: 2, Bytes: long})
			if got != (last < 3 || first > 5) {
				t.Errorf("another one from Tick %d to %d: %t", first, last, got)
			}
			if !slices.Contains(l, Got{From: 1, To: 4, Bytes: long}) || slices.Contains(l, Got{From: 1, To: 3, Bytes: long}) != got {
				t.Errorf("another one from Tick %d to %d: %v", first, last, l)
			}
		}
	}
}

// P15.1: a frame comes only to those that heard its sender in all of its ticks, wherever they were before and after.
func TestP151Moving(t *testing.T) {
	long := strings.Repeat("x", 119)
	changes := []func(p *place.Plane) api.Errno{
		func(p *place.Plane) api.Errno { return p.Stand(1, 100, 9) },
		func(p *place.Plane) api.Errno { return p.Stand(1, 0, 0) },
		func(p *place.Plane) api.Errno { return p.Stand(2, 5-9i, 9) },
		func(p *place.Plane) api.Errno { return p.Move(2, 7) },
		func(p *place.Plane) api.Errno { return p.Block(1, 2, true) },
	}
	for _, change := range changes {
		for away := range 6 { // the frame is sent in the second, third and fourth Tick
			for back := away; back < 7; back++ {
				w := newTwin(t, 3)
				w.stand(t, 1, 0, 9)
				w.stand(t, 2, 5, 9)
				w.stand(t, 3, 0, 0)
				w.send(t, 1, 1, 2, long)
				var l []Got
				for tick := range 6 {
					if tick == away && change(w.Plane) != api.OK {
						t.Fatal("no change")
					}
					if tick == back && (w.Stand(1, 0, 9) != api.OK || w.Stand(2, 5, 9) != api.OK || w.Block(1, 2, false) != api.OK) {
						t.Fatal("no way back")
					}
					l = append(l, w.tick(t)...)
				}
				got := slices.Contains(l, Got{From: 1, To: 2, Bytes: long})
				if got != (away == back || back <= 1 || away >= 4) {
					t.Errorf("away from Tick %d to %d: %t", away+1, back, got)
				}
			}
		}
	}
}

// P15.1: who comes to hear the sender within a frame takes the next one.
func TestP151Nearing(t *testing.T) {
	w := newTwin(t, 2)
	w.stand(t, 1, 0, 5)
	w.stand(t, 2, 9, 0)
	w.send(t, 1, 0, 0, strings.Repeat("x", 40), "next")
	want(t, w.tick(t))
	w.stand(t, 2, 5, 0)
	want(t, w.tick(t))
	want(t, w.tick(t), "12next")
}

// P15.1: within a burst each frame is clear or not for itself.
func TestP151Apiece(t *testing.T) {
	w := newTwin(t, 3)
	w.send(t, 1, 1, 1, "a", "b", "c", "d")
	w.tick(t)
	want(t, w.tick(t), "12a", "13a")
	w.send(t, 2, 1, 0, "x")
	want(t, w.tick(t))
	want(t, w.tick(t))
	want(t, w.tick(t), "12d", "13d")
}

// P15.1: all that comes with one Tick comes by its senders, then its takers, rising; whoever began first.
func TestP151Order(t *testing.T) {
	r := rand.New(rand.NewSource(151))
	for range 20 {
		w := newTwin(t, 16)
		for i := 1; i <= 16; i++ {
			w.stand(t, i, complex(float64(100*((i*7)%4)), 0), 10) // four by four hear each other
		}
		for _, i := range r.Perm(4) {
			w.send(t, 5+i, 0, 0, "f")
		}
		l := w.tick(t)
		if len(l) != 12 || !slices.IsSortedFunc(l, func(a, b Got) int { return 100*(a.From-b.From) + a.To - b.To }) {
			t.Fatalf("%v", l)
		}
	}
	w := newTwin(t, 4)
	for i, at := range []complex128{0, 100, 0, 100} {
		w.stand(t, i+1, at, 5)
	}
	w.send(t, 4, 0, 0, strings.Repeat("y", 40))
	w.tick(t)
	w.send(t, 1, 0, 0, "x")
	want(t, w.tick(t), "13x", "42"+strings.Repeat("y", 40))
}

// P15.1: what is said ahead is done with the next frames that come from one to another one, in order, each once.
func TestP151Ahead(t *testing.T) {
	w := newTwin(t, 3)
	w.lose(t, 1, 2)
	w.spoil(t, 1, 2, 0, 1)
	w.lose(t, 1, 2)
	w.spoil(t, 1, 2, 4, 0x20)
	w.lose(t, 1, 3)
	w.spoil(t, 2, 1, 1, 0xff)
	w.send(t, 1, 1, 1, "abc", "bcd", "cde")
	want(t, w.ticks(t, 5), "12ccd!", "13bcd", "13cde")
	w.send(t, 1, 0, 0, "abc", "abc")
	want(t, w.ticks(t, 2), "12aBc!", "13abc", "12abc", "13abc")
	w.send(t, 2, 0, 0, "", "a")
	want(t, w.ticks(t, 2), "21", "23", "21a", "23a")
	w.spoil(t, 2, 1, 1, 0xff)
	w.send(t, 2, 0, 0, "ab")
	want(t, w.ticks(t, 1), "21a\x9d!", "23ab")
}

// P15.1: what is said while a frame is being sent is done with it; only with those that would come.
func TestP151AheadUsed(t *testing.T) {
	w := newTwin(t, 3)
	w.send(t, 1, 0, 0, strings.Repeat("x", 40))
	w.tick(t)
	w.lose(t, 1, 2)
	want(t, w.tick(t), "13"+strings.Repeat("x", 40))
	w.lose(t, 1, 2)
	w.send(t, 1, 0, 0, "a")
	w.send(t, 2, 0, 0, "b")
	want(t, w.tick(t)) // it would not come, so nothing is used up
	w.stand(t, 2, 500, 0)
	w.send(t, 1, 0, 0, "c")
	want(t, w.tick(t), "13c")
	w.stand(t, 2, 0, 0)
	w.send(t, 1, 0, 0, "d", "e")
	want(t, w.ticks(t, 2), "13d", "12e", "13e")
}

// P15.1: up to eight are said for each two, whatever they are; one that is used up makes room.
func TestP151AheadFull(t *testing.T) {
	for lost := range 9 { // so many of them are lost
		w := newTwin(t, 3)
		for k := range 8 {
			if k < lost {
				w.lose(t, 2, 3)
			} else {
				w.spoil(t, 2, 3, k, byte(k+1))
			}
		}
		for range 2 {
			if w.a.Lose(2, 3) != api.ErrFull || w.a.Spoil(2, 3, 1, 1) != api.ErrFull {
				t.Fatal("a ninth one")
			}
			if w.a.Spoil(2, 3, -1, 1) != api.ErrArg || w.a.Spoil(2, 3, 1, 0) != api.ErrArg {
				t.Fatal("a ninth one that may not be")
			}
		}
		for _, other := range [][2]int{{3, 2}, {2, 1}, {1, 3}, {1, 2}} {
			w.lose(t, other[0], other[1])
		}
		frames := []string{"aaaaaaaa", "bbbbbbbb", "cccccccc", "dddddddd", "eeeeeeee"}
		w.send(t, 2, 0, 0, frames...)
		w.tick(t)
		w.spoil(t, 2, 3, 0, 0xff)
		w.lose(t, 2, 3) // no room any more
		w.ticks(t, 4)
		for range 6 {
			w.lose(t, 2, 3)
		}
		w.send(t, 2, 0, 0, frames...)
		w.ticks(t, 5)
		w.send(t, 2, 0, 0, frames...)
		w.ticks(t, 5)
	}
}

// P15.1: what may not be said ahead, and in which order that is asked; what is refused changes nothing.
func TestP151AheadWrong(t *testing.T) {
	w := newTwin(t, 3)
	for i := 1; i <= 3; i++ {
		if w.a.Lose(i, i) != api.ErrArg || w.a.Spoil(i, i, 0, 1) != api.ErrArg {
			t.Errorf("from %d to itself", i)
		}
		for j := 1; j <= 3; j++ {
			for _, at := range []int{-1, -2, -256, -1 << 32, -1<<32 + 1, math.MinInt} {
				if w.a.Spoil(i, j, at, 1) != api.ErrArg || w.a.Spoil(i, j, at, 0) != api.ErrArg {
					t.Errorf("Spoil(%d, %d, %d, ..)", i, j, at)
				}
			}
			if w.a.Spoil(i, j, 3, 0) != api.ErrArg {
				t.Errorf("Spoil(%d, %d, 3, 0)", i, j)
			}
		}
		w.send(t, i, 0, 0, "abc")
		if l := w.tick(t); len(l) != 2 || l[0].Spoilt || l[1].Spoilt {
			t.Errorf("%v", l)
		}
	}
}

// P15.1: which byte is turned, and by which bits, of frames of all lengths.
func TestP151Spoil(t *testing.T) {
	frame := strings.Repeat("\x00\x55\xaa\xff-..#", 42)[:333]
	for _, size := range []int{1, 2, 3, 39, 40, 41, 255, 256, 257, 332, 333} {
		for _, at := range []int{0, 1, 2, size - 1, size, size + 1, 2*size - 1, 7 * size, 255, 256, 1 << 16, 1 << 32, 1<<32 + 1, math.MaxInt - 1, math.MaxInt} {
			for _, by := range []byte{1, 2, 127, 128, 255} {
				w := newTwin(t, 2)
				w.spoil(t, 1, 2, at, by)
				w.send(t, 1, 0, 0, frame[:size], frame[:size])
				turned := []byte(frame[:size])
				turned[at%size] ^= by
				l := w.ticks(t, 2*ticksOf(frame[:size]))
				if len(l) != 2 || l[0] != (Got{1, 2, string(turned), true}) || l[1] != (Got{1, 2, frame[:size], false}) {
					t.Fatalf("%d bytes, Spoil at %d by %d: %v", size, at, by, l)
				}
			}
		}
	}
	for by := 1; by < 256; by++ {
		w := newTwin(t, 2)
		w.spoil(t, 1, 2, by, byte(by))
		w.send(t, 1, 0, 0, "k")
		if l := w.tick(t); len(l) != 1 || l[0] != (Got{1, 2, string([]byte{'k' ^ byte(by)}), true}) {
			t.Fatalf("by %d: %v", by, l)
		}
	}
}

// P15.1: of a frame without bytes none is turned, and what was said is used up.
func TestP151SpoilEmpty(t *testing.T) {
	for _, at := range []int{0, 1, 77, math.MaxInt} {
		w := newTwin(t, 2)
		w.spoil(t, 1, 2, at, 0xff)
		w.send(t, 1, 0, 0, "", "x")
		want(t, w.ticks(t, 2), "12", "12x")
	}
}

// P15.1: no air answers ErrArg, or nothing, whatever it is told, and is quiet.
func TestP151Nil(t *testing.T) {
	var a *Air
	for _, i := range append([]int{1, 2, 16}, noStations...) {
		if a.Send(i, 0, 0, "x") != api.ErrArg || a.Send(i, -1, 256) != api.ErrArg || a.On(i) || a.Hears(i) || a.Left(i) != 0 {
			t.Errorf("station %d", i)
		}
		for _, j := range []int{1, 2, i, 0} {
			if a.Lose(i, j) != api.ErrArg || a.Lose(j, i) != api.ErrArg || a.Spoil(i, j, 0, 1) != api.ErrArg || a.Spoil(j, i, -1, 0) != api.ErrArg {
				t.Errorf("stations %d and %d", i, j)
			}
		}
	}
	if len(a.Tick()) != 0 || !a.Quiet() {
		t.Error("Tick, Quiet")
	}
}

// P15.1: an air that New did not make has no stations; nor has one over a plane that has none.
func TestP151Zeroed(t *testing.T) {
	over, e := New(&place.Plane{})
	if e != api.OK {
		t.Fatal(e)
	}
	for _, a := range []*Air{{}, over} {
		if a.Send(1, 0, 0, "x") != api.ErrNone || a.Lose(1, 2) != api.ErrNone || a.Spoil(1, 2, 0, 1) != api.ErrNone {
			t.Error("a station")
		}
		if len(a.Tick()) != 0 || !a.Quiet() || a.On(1) || a.Hears(1) || a.Left(1) != 0 {
			t.Error("somebody is on")
		}
	}
}

// P15.1: frames that were handed in are neither kept nor written into, and what is answered is nobody else's.
func TestP151Memory(t *testing.T) {
	w := newTwin(t, 3)
	frames := []string{"ab", "cd", "ef", "gh"}
	w.spoil(t, 1, 2, 0, 1)
	w.send(t, 1, 1, 0, frames[:3]...)
	frames[0], frames[2] = "??", "??"
	w.tick(t)
	want(t, w.tick(t), "12`b!", "13ab")
	l := w.tick(t)
	want(t, l, "12cd", "13cd")
	for i := range l[:cap(l)] {
		l[:cap(l)][i] = Got{9, 9, "?", true}
	}
	want(t, w.tick(t), "12ef", "13ef")
	if l[0].From != 9 || !slices.Equal(frames, []string{"??", "cd", "??", "gh"}) {
		t.Error(l, frames)
	}
}

// P15.1: two airs, be it over one plane, have nothing else in common.
func TestP151Two(t *testing.T) {
	v, w := newTwin(t, 2), newTwin(t, 2)
	b, _ := New(v.Plane)
	v.send(t, 1, 0, 5, "a")
	v.lose(t, 1, 2)
	if b.On(1) || b.Hears(2) || !b.Quiet() || len(b.Tick()) != 0 || b.Send(1, 0, 0, "b") != api.OK {
		t.Error("another air over this plane")
	}
	if l := b.Tick(); len(l) != 1 || l[0].Bytes != "b" {
		t.Error(l)
	}
	w.same(t)
	v.same(t)
	want(t, v.tick(t))
}

// randomFrames are some frames, now and then more or longer ones than may be.
func randomFrames(r *rand.Rand) []string {
	l := make([]string, r.Intn(5)+r.Intn(2)*r.Intn(5))
	for i := range l {
		b := make([]byte, []int{0, 3, r.Intn(90), 30 + r.Intn(20), r.Intn(336)}[r.Intn(5)])
		r.Read(b)
		l[i] = string(b)
	}
	return l
}

// P15.1, P15.2: all that is done, in many random orders.
func TestP151Random(t *testing.T) {
	r := rand.New(rand.NewSource(1515))
	came := 0
	for round := range 150 {
		n := 1 + r.Intn(16)
		w := newTwin(t, n)
		far := []int{3, 40, 100}[round%3]
		anywhere := func() complex128 { return complex(float64(r.Intn(far)), float64(r.Intn(far))) }
		for i := 1; i <= n; i++ {
			w.stand(t, i, anywhere(), r.Intn(40))
		}
		most, ticks := 2+round%7, 40+round%3*40
		for range ticks {
			for range r.Intn(most) {
				i, j := r.Intn(n+2), r.Intn(n+2)
				switch r.Intn(7) {
				case 0, 1:
					w.send(t, i, r.Intn(4)-r.Intn(20)/19, r.Intn(4), randomFrames(r)...)
				case 2:
					w.lose(t, i, j)
				case 3:
					w.spoil(t, i, j, r.Intn(400)-r.Intn(9), byte(r.Intn(256)))
				case 4:
					w.Stand(i, anywhere(), r.Intn(40))
				case 5:
					w.Turn(i, anywhere())
				case 6:
					w.Block(i, j, r.Intn(3) == 0)
				}
			}
			came += len(w.tick(t))
		}
	}
	if came < 1000 {
		t.Errorf("only %d frames came", came)
	}
}

// P15.2: what comes unspoilt was sent, once for each time that it was sent, and in order; no station that is on takes anything.
func TestP152Sent(t *testing.T) {
	r := rand.New(rand.NewSource(152))
	came, spoilt := 0, 0
	for round := range 200 {
		n := 2 + r.Intn(6)
		w := newTwin(t, n)
		var out [17][]string // all that a station sent, in order
		var next [17][17]int // how many of these went by when the last one came to another one
		number := 0          // so that no two frames are alike
		for tick := range 300 {
			for i := 1; i <= n; i++ {
				if r.Intn(3+round%40) > 0 || tick > 250 {
					continue
				}
				var l []string
				for range 1 + r.Intn(7) {
					number++
					l = append(l, string([]byte{byte(number), byte(number >> 8)})+strings.Repeat("*", r.Intn(100)))
				}
				if w.a.Send(i, r.Intn(3), r.Intn(3), l...) == api.OK {
					out[i] = append(out[i], l...)
				}
				w.a.Spoil(i, 1+r.Intn(n), r.Intn(9), byte(1+r.Intn(255)))
				w.a.Lose(i, 1+r.Intn(n))
				w.Stand(i, complex(float64(r.Intn(50)), 0), 30+r.Intn(30))
			}
			var on [17]bool
			for i := range on {
				on[i] = w.a.On(i)
			}
			for _, g := range w.a.Tick() {
				if on[g.To] || !on[g.From] || g.From == g.To {
					t.Fatalf("%v comes", g)
				}
				came++
				if g.Spoilt {
					spoilt++
					continue
				}
				at := slices.Index(out[g.From][next[g.From][g.To]:], g.Bytes)
				if at < 0 {
					t.Fatalf("%v wasn't sent, or came again, or out of order", g)
				}
				next[g.From][g.To] += at + 1
			}
		}
	}
	if came < 1000 || spoilt < 100 {
		t.Errorf("only %d frames came, %d of them spoilt", came, spoilt)
	}
}

// P15.2: the same bytes, sent many times, come just as often.
func TestP152Again(t *testing.T) {
	w := newTwin(t, 2)
	for n := 1; n <= 7; n++ {
		frames := slices.Repeat([]string{"same"}, n)
		for range 3 {
			w.send(t, 1, 1, 1, frames...)
			if l := w.ticks(t, n+2); len(l) != n {
				t.Errorf("%d came; want %d", len(l), n)
			}
		}
	}
	want(t, w.ticks(t, 300))
}
