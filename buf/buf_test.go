package buf

import (
	"math"
	"math/rand"
	"slices"
	"strconv"
	"strings"
	"testing"
	"unsafe"

	"squelch/api"
	"squelch/seg"
)

// noPids are numbers that no protocol has.
var noPids = []int{math.MinInt, math.MinInt + 1, -1 << 32, -1<<32 + 8, -256, -248, -16, -8, -2, -1, 256, 257, 264, 496, 511, 512, 1 << 16, 1 << 32, 1<<32 + 8, 1<<32 + 240, math.MaxInt - 1, math.MaxInt}

// noN1s are numbers that n1 may not be.
var noN1s = []int{math.MinInt, math.MinInt + 16, -1 << 32, -1<<32 + 16, -256, -240, -17, -16, -1, 0, 1, 2, 3, 8, 14, 15, 257, 258, 272, 512, 600, 1 << 16, 1<<16 + 16, 1 << 32, 1<<32 + 16, 1<<32 + 256, math.MaxInt - 1, math.MaxInt}

// message is n bytes, of which those near each other differ, and those of another mark too.
func message(mark, n int) string {
	b := make([]byte, n)
	for i := range b {
		b[i] = byte(mark*31 + i*7 + i/256)
	}
	return string(b)
}

// cut is a right message's pieces, in the words of layer 10.
func cut(pid int, text string, n1 int) []seg.Piece {
	if pid != 8 && len(text) <= n1 {
		return []seg.Piece{{Pid: pid, Info: text}}
	}
	parts := []string{text[:min(len(text), n1-2)]}
	for rest := text[len(parts[0]):]; rest != ""; rest = rest[min(len(rest), n1-1):] {
		parts = append(parts, rest[:min(len(rest), n1-1)])
	}
	var l []seg.Piece
	for i, part := range parts {
		follow := byte(len(parts) - 1 - i)
		if i == 0 {
			part = string([]byte{128 + follow, byte(pid)}) + part
		} else {
			part = string([]byte{follow}) + part
		}
		l = append(l, seg.Piece{Pid: 8, Info: part})
	}
	return l
}

// entry is a message that was put, and how many of its pieces were taken, in the model.
type entry struct {
	pieces []seg.Piece
	taken  int
}

// model is a box in the document's words: all messages that were ever put since the last Reset; what is left of them is asked for anew each time.
type model struct {
	n1   int
	came []*entry
}

// left is those that have pieces left.
func (m *model) left() []*entry {
	var l []*entry
	for _, x := range m.came {
		if x.taken < len(x.pieces) {
			l = append(l, x)
		}
	}
	return l
}

func (m *model) put(pid int, text string) api.Errno {
	if pid < 0 || pid > 255 {
		return api.ErrArg
	}
	if len(text) > 600 {
		return api.ErrLong
	}
	if len(m.left()) == 8 {
		return api.ErrFull
	}
	m.came = append(m.came, &entry{pieces: cut(pid, text, m.n1)})
	return api.OK
}

func (m *model) next() (seg.Piece, bool) {
	l := m.left()
	if len(l) == 0 {
		return seg.Piece{}, false
	}
	l[0].taken++
	return l[0].pieces[l[0].taken-1], true
}

func (m *model) reset() int {
	n := len(m.left())
	m.came = nil
	return n
}

// want says whether a box has what the model has.
func (m *model) want(t *testing.T, b *Box) {
	t.Helper()
	if n := b.Len(); n != len(m.left()) {
		t.Fatalf("Len: %d; want %d", n, len(m.left()))
	}
	pieces := 0
	for _, x := range m.left() {
		pieces += len(x.pieces) - x.taken
	}
	if n := b.Left(); n != pieces {
		t.Fatalf("Left: %d; want %d", n, pieces)
	}
	if n := b.Total(); n != len(m.came) {
		t.Fatalf("Total: %d; want %d", n, len(m.came))
	}
}

// twin is a box, and the model of it.
type twin struct {
	b *Box
	m *model
}

func newTwin(t *testing.T, n1 int) twin {
	t.Helper()
	b, e := New(n1)
	if b == nil || e != api.OK {
		t.Fatalf("New(%d): %d", n1, e)
	}
	w := twin{b, &model{n1: n1}}
	w.m.want(t, w.b)
	return w
}

func (w twin) put(t *testing.T, pid int, text string) {
	t.Helper()
	if got, want := w.b.Put(pid, text), w.m.put(pid, text); got != want {
		t.Fatalf("Put(%d, %d bytes): %d; want %d", pid, len(text), got, want)
	}
	w.m.want(t, w.b)
}

func (w twin) next(t *testing.T) {
	t.Helper()
	got, ok := w.b.Next()
	if want, is := w.m.next(); got != want || ok != is {
		t.Fatalf("Next: %d %.80q, %t; want %d %.80q, %t", got.Pid, got.Info, ok, want.Pid, want.Info, is)
	}
	w.m.want(t, w.b)
}

func (w twin) reset(t *testing.T) {
	t.Helper()
	if got, want := w.b.Reset(), w.m.reset(); got != want {
		t.Fatalf("Reset: %d; want %d", got, want)
	}
	w.m.want(t, w.b)
}

// empty takes all pieces, and asks for some more.
func (w twin) empty(t *testing.T) {
	t.Helper()
	for w.b.Left() > 0 {
		w.next(t)
	}
	w.next(t)
	w.next(t)
}

// fill puts messages of these lengths.
func fill(t *testing.T, n1 int, lengths ...int) twin {
	t.Helper()
	w := newTwin(t, n1)
	for i, n := range lengths {
		w.put(t, 240+i, message(i, n))
	}
	return w
}

// full is a box that has eight messages, of one and of several pieces.
func full(t *testing.T) twin {
	t.Helper()
	w := fill(t, 16, 40, 1, 0, 17, 600, 16, 40, 30)
	if w.b.Len() != 8 {
		t.Fatal("it isn't full")
	}
	return w
}

// P19.1: the document's example.
func TestP191Example(t *testing.T) {
	b, e := New(16)
	if e != api.OK {
		t.Fatal(e)
	}
	text := message(0, 40)
	if e := b.Put(240, text); e != api.OK || b.Left() != 3 || b.Len() != 1 || b.Total() != 1 {
		t.Fatal(e, b.Left(), b.Len(), b.Total())
	}
	for i, want := range []string{"\x82\xf0" + text[:14], "\x01" + text[14:29], "\x00" + text[29:]} {
		p, ok := b.Next()
		if p != (seg.Piece{Pid: 8, Info: want}) || !ok || b.Left() != 2-i || b.Total() != 1 {
			t.Errorf("%q, %t; %d left", p.Info, ok, b.Left())
		}
		if n := b.Len(); n != min(1, 2-i) {
			t.Errorf("Len behind piece %d: %d", i, n)
		}
	}
	if p, ok := b.Next(); ok || p != (seg.Piece{}) {
		t.Errorf("%q, %t", p.Info, ok)
	}
}

// P19.1: a new box is empty, for each n1 that may be; nothing comes of it.
func TestP191New(t *testing.T) {
	for n1 := 16; n1 <= 256; n1++ {
		w := newTwin(t, n1)
		w.empty(t)
		w.reset(t)
		w.empty(t)
		w.put(t, 0, "")
		w.empty(t)
	}
}

// P19.1: an n1 outside 16 .. 256 is ErrArg, and no box.
func TestP191NewWrong(t *testing.T) {
	for _, n1 := range noN1s {
		if b, e := New(n1); b != nil || e != api.ErrArg {
			t.Errorf("New(%d): %v, %d", n1, b, e)
		}
	}
}

// P19.1: messages of each length, for each n1, are in the pieces that layer 10 names.
func TestP191Pieces(t *testing.T) {
	for n1 := 16; n1 <= 256; n1 += 1 + n1/17 {
		for n := range api.MaxMsg + 1 {
			w := newTwin(t, n1)
			w.put(t, (n*5+n1)%256, message(n, n))
			w.put(t, 8, message(n1, n))
			w.empty(t)
		}
	}
}

// P19.1: the pieces are those for the box's own n1, at its ends and between.
func TestP191PiecesOfN1(t *testing.T) {
	for n1 := 16; n1 <= 256; n1++ {
		for _, n := range []int{0, 1, n1 - 3, n1 - 2, n1 - 1, n1, n1 + 1, 2*n1 - 4, 2*n1 - 3, 2*n1 - 2, 600} {
			w := newTwin(t, n1)
			w.put(t, 1, message(1, n))
			w.put(t, 8, message(2, n))
			w.empty(t)
		}
	}
}

// P19.1: each pid there is, with one piece and with several.
func TestP191Pids(t *testing.T) {
	for pid := range 256 {
		w := newTwin(t, 20)
		for _, n := range []int{0, 20, 21, 600} {
			w.put(t, pid, message(pid, n))
		}
		w.empty(t)
	}
}

// P19.1: a pid that there is not is ErrArg, whatever else is wrong; nothing is changed.
func TestP191PutPid(t *testing.T) {
	for _, w := range []twin{newTwin(t, 16), fill(t, 256, 1, 600), full(t)} {
		for _, pid := range noPids {
			for _, n := range []int{0, 1, 16, 17, 600, 601, 5000} {
				if e := w.b.Put(pid, message(0, n)); e != api.ErrArg {
					t.Errorf("Put(%d, %d bytes): %d", pid, n, e)
				}
				w.put(t, pid, message(0, n))
			}
		}
		w.empty(t)
	}
}

// P19.1: a message has at most 600 bytes; a longer one is ErrLong, even if there is no room; nothing is changed.
func TestP191PutLong(t *testing.T) {
	for _, n1 := range []int{16, 17, 128, 255, 256} {
		for _, n := range []int{601, 602, 856, 1200, 1 << 16, 1<<16 + 1} {
			for _, pid := range []int{0, 8, 240, 255} {
				for _, w := range []twin{newTwin(t, n1), fill(t, n1, 600, 1), full(t)} {
					if e := w.b.Put(pid, message(0, n)); e != api.ErrLong {
						t.Errorf("Put(%d, %d bytes): %d", pid, n, e)
					}
					w.put(t, pid, message(0, n))
					w.put(t, pid, message(0, 600))
					w.empty(t)
				}
			}
		}
	}
}

// P19.1: bytes are counted, not letters, and any of them may stand in a message.
func TestP191PutBytes(t *testing.T) {
	w := newTwin(t, 16)
	w.put(t, 240, strings.Repeat("é", 300))
	w.put(t, 240, strings.Repeat("é", 300)+"x")
	w.put(t, 240, "\x00\xff\xc0\xdb\n\xc3")
	w.put(t, 240, strings.Repeat("é", 8)) // sixteen bytes: one piece
	w.put(t, 240, strings.Repeat("é", 8)+"x")
	if w.b.Len() != 4 || w.b.Left() != 41+1+1+2 {
		t.Error(w.b.Len(), w.b.Left())
	}
	w.empty(t)
}

// P19.1: eight messages have room, of however many pieces; a ninth one is ErrFull, and changes nothing.
func TestP191Full(t *testing.T) {
	for _, n1 := range []int{16, 256} {
		for _, n := range []int{0, 1, 16, 17, 256, 257, 600} {
			w := newTwin(t, n1)
			for i := range 8 {
				if e := w.b.Put(i, message(i, n)); e != api.OK {
					t.Fatalf("message %d of %d bytes: %d", i, n, e)
				}
				w.m.put(i, message(i, n))
				w.m.want(t, w.b)
			}
			for _, more := range []int{0, 1, 600} {
				if e := w.b.Put(9, message(9, more)); e != api.ErrFull {
					t.Fatalf("a ninth message: %d", e)
				}
				w.put(t, 9, message(9, more))
			}
			w.empty(t)
		}
	}
}

// P19.1: a message that was taken in part takes its room until its last piece is taken.
func TestP191FullInPart(t *testing.T) {
	w := full(t)
	for i := range 3 {
		if e := w.b.Put(1, "more"); e != api.ErrFull {
			t.Errorf("behind %d pieces: %d", i, e)
		}
		w.next(t)
	}
	w.put(t, 1, "more")
	if w.b.Len() != 8 || w.b.Total() != 9 {
		t.Error(w.b.Len(), w.b.Total())
	}
	w.put(t, 1, "too many")
	w.empty(t)
}

// P19.1: what was put behind a message that was taken in part comes behind all of its pieces.
func TestP191InPart(t *testing.T) {
	for taken := range 42 {
		w := fill(t, 16, 600)
		for range taken {
			w.next(t)
		}
		w.put(t, 1, message(1, 40))
		w.put(t, 2, "one")
		w.empty(t)
	}
}

// P19.1: neither the pid nor the length nor what a message has changes the order.
func TestP191Order(t *testing.T) {
	b, _ := New(256)
	want := []seg.Piece{{Pid: 255, Info: "z"}, {Pid: 0}, {Pid: 7, Info: "\x80"}, {Pid: 0}, {Pid: 255, Info: "a"}, {Pid: 1, Info: message(0, 256)}, {Pid: 7, Info: "\x80"}, {Pid: 9, Info: "zz"}}
	for _, p := range want {
		if e := b.Put(p.Pid, p.Info); e != api.OK {
			t.Error(e)
		}
	}
	for i, x := range want {
		if p, ok := b.Next(); p != x || !ok {
			t.Errorf("%d: %d %.80q, %t", i, p.Pid, p.Info, ok)
		}
	}
}

// P19.1: all are counted that were ever put, taken or not, but none that was refused.
func TestP191Total(t *testing.T) {
	w := newTwin(t, 16)
	for i := range 1000 {
		w.put(t, i%256, message(i, i%50))
		w.put(t, 256+i, "x")
		w.put(t, i%256, message(i, 601+i))
		if i%100 == 99 {
			w.put(t, 0, "one more")
		}
		w.empty(t)
	}
	if n := w.b.Total(); n != 1010 {
		t.Errorf("%d", n)
	}
}

// P19.1: Reset drops all, whole messages and the rest of one, and what was counted; the box is as a new one with its n1.
func TestP191Reset(t *testing.T) {
	for taken := range 60 {
		w := full(t)
		for range taken {
			w.next(t)
		}
		w.reset(t)
		if w.b.Len() != 0 || w.b.Left() != 0 || w.b.Total() != 0 {
			t.Error(w.b.Len(), w.b.Left(), w.b.Total())
		}
		if p, ok := w.b.Next(); ok || p != (seg.Piece{}) {
			t.Errorf("%d %q, %t", p.Pid, p.Info, ok)
		}
		w.reset(t)
		for i := range 9 {
			w.put(t, 1, message(i, 17))
		}
		w.empty(t)
		w.reset(t)
	}
}

// P19.1: how many messages Reset dropped: those that had pieces left, one taken in part too.
func TestP191ResetCounts(t *testing.T) {
	for _, x := range []struct{ taken, want int }{{0, 3}, {1, 3}, {2, 3}, {3, 2}, {4, 1}, {5, 1}, {6, 0}, {7, 0}} {
		w := fill(t, 16, 40, 1, 20)
		for range x.taken {
			w.next(t)
		}
		if n := w.b.Reset(); n != x.want {
			t.Errorf("Reset behind %d: %d; want %d", x.taken, n, x.want)
		}
	}
}

// P19.1: what is asked changes nothing, however often.
func TestP191Asked(t *testing.T) {
	w := full(t)
	w.next(t)
	for range 100 {
		w.m.want(t, w.b)
	}
	w.empty(t)
}

// steps are all kinds of things that may be done to a box.
func steps() []func(t *testing.T, w twin) {
	l := []func(t *testing.T, w twin){
		func(t *testing.T, w twin) { w.next(t) },
		func(t *testing.T, w twin) { w.reset(t) },
		func(t *testing.T, w twin) { w.put(t, 256, "x") },
		func(t *testing.T, w twin) { w.put(t, 0, message(0, 601)) },
		func(t *testing.T, w twin) {
			for range 7 {
				w.put(t, 7, "seven")
			}
		},
	}
	for _, n := range []int{0, 17, 40} {
		l = append(l, func(t *testing.T, w twin) { w.put(t, n, message(len(w.m.came), n)) })
	}
	return l
}

// P19.1: all that is done, in every order of up to five steps.
func TestP191Orders(t *testing.T) {
	l := steps()
	orders := [][]int{nil}
	for at := 0; at < len(orders); at++ {
		w := newTwin(t, 16)
		for _, i := range orders[at] {
			l[i](t, w)
		}
		w.empty(t)
		for i := 0; i < len(l) && len(orders[at]) < 5; i++ {
			orders = append(orders, append(slices.Clone(orders[at]), i))
		}
	}
}

// P19.1: all that is done, in many random orders, with boxes that are full for the most part, and with others.
func TestP191Random(t *testing.T) {
	r := rand.New(rand.NewSource(19))
	for round := range 400 {
		w, most, puts := newTwin(t, 16+r.Intn(241)), []int{3, 60, 601}[round%3], 40+round%4*60
		for i := range 400 {
			switch x := r.Intn(300); {
			case x == 299:
				w.reset(t)
			case x == 298:
				w.put(t, noPids[r.Intn(len(noPids))], message(i, r.Intn(700)))
			case x == 297:
				w.put(t, r.Intn(256), message(i, 601+r.Intn(9)))
			case x < puts:
				w.put(t, []int{8, 240, r.Intn(256)}[r.Intn(3)], message(i, r.Intn(most)))
			default:
				w.next(t)
			}
		}
		w.empty(t)
	}
}

// P19.1: what comes out, gathered, is what was put, in order, each once.
func TestP191Gathered(t *testing.T) {
	r := rand.New(rand.NewSource(191))
	for range 100 {
		b, _ := New(16 + r.Intn(241))
		g := seg.New()
		var put, come []seg.Piece
		for i := range 300 {
			m := seg.Piece{Pid: r.Intn(256), Info: strconv.Itoa(i) + message(i, r.Intn(590))}
			if b.Put(m.Pid, m.Info) == api.OK {
				put = append(put, m)
			}
			for range r.Intn(12) {
				p, ok := b.Next()
				if !ok {
					continue
				}
				if whole, done, _ := g.Take(p); done {
					come = append(come, whole)
				}
			}
		}
		if len(put) != b.Total() || len(come) != b.Total()-b.Len() || !slices.Equal(come, put[:len(come)]) {
			t.Fatalf("%d put, %d came", len(put), len(come))
		}
	}
}

// P19.1: a nil box answers ErrArg, nothing, 0, whatever it is told.
func TestP191Nil(t *testing.T) {
	var b *Box
	for _, pid := range append([]int{0, 8, 240, 255}, noPids...) {
		for _, n := range []int{0, 1, 600, 601} {
			if e := b.Put(pid, message(0, n)); e != api.ErrArg {
				t.Errorf("Put(%d, %d bytes): %d", pid, n, e)
			}
		}
	}
	if p, ok := b.Next(); ok || p != (seg.Piece{}) {
		t.Errorf("%d %q, %t", p.Pid, p.Info, ok)
	}
	if b.Len() != 0 || b.Left() != 0 || b.Total() != 0 || b.Reset() != 0 {
		t.Error("a nil box has something")
	}
}

// P19.1: a box that New didn't make has no n1 that may be: it takes nothing, as layer 10 says.
func TestP191Zero(t *testing.T) {
	b := &Box{}
	for _, n := range []int{0, 1, 600, 601} {
		if e := b.Put(240, message(0, n)); e != api.ErrArg {
			t.Errorf("Put(240, %d bytes): %d", n, e)
		}
	}
	if _, ok := b.Next(); ok || b.Len() != 0 || b.Left() != 0 || b.Total() != 0 || b.Reset() != 0 {
		t.Error("it has something")
	}
}

// within asks whether x stands in the memory of s.
func within(x, s string) bool {
	a, b := uintptr(unsafe.Pointer(unsafe.StringData(x))), uintptr(unsafe.Pointer(unsafe.StringData(s)))
	return a >= b && a < b+uintptr(len(s))
}

// P19.1: no message that is handed in is kept, nor a piece of it answered.
func TestP191Memory(t *testing.T) {
	for _, n1 := range []int{16, 100, 256} {
		for _, pid := range []int{8, 240} {
			b, _ := New(n1)
			text := message(n1, 200)
			b.Put(pid, text)
			for _, pieces := range b.messages {
				for _, p := range pieces {
					if within(p.Info, text) {
						t.Errorf("kept, with %d and %d: %q", pid, n1, p.Info)
					}
				}
			}
			for b.Left() > 0 {
				if p, _ := b.Next(); within(p.Info, text) {
					t.Errorf("answered, with %d and %d: %q", pid, n1, p.Info)
				}
			}
		}
	}
}

// stands says how often a piece stands in lists, and in what they have room for.
func stands(x seg.Piece, lists ...[]seg.Piece) int {
	n := 0
	for _, pieces := range lists {
		for _, p := range pieces[:cap(pieces)] {
			if p == x {
				n++
			}
		}
	}
	return n
}

// P19.1: what was taken isn't kept, not even behind a list's end or ahead of its beginning.
func TestP191TakenIsGone(t *testing.T) {
	b, _ := New(16)
	for i := range 8 {
		b.Put(i, message(i, 10+i*10))
	}
	for b.Left() > 0 {
		lists := b.messages[:cap(b.messages)]
		first := lists[0]
		p, _ := b.Next()
		if stands(p, lists...) > 0 || len(first) > 1 && stands(p, first) > 0 {
			t.Fatalf("%d %q is still there", p.Pid, p.Info)
		}
	}
}

// P19.1: a box's calls touch no other box.
func TestP191Apart(t *testing.T) {
	a, b := full(t), full(t)
	for range 5 {
		a.next(t)
	}
	a.put(t, 1, "a's")
	b.m.want(t, b.b)
	b.reset(t)
	a.m.want(t, a.b)
	b.put(t, 2, message(2, 40))
	a.empty(t)
	b.empty(t)
}
