package ui

import (
	"math"
	"slices"
	"strings"
	"testing"
	"unsafe"

	"squelch/api"
	"squelch/ctl"
	"squelch/frame"
)

// wrongCalls aren't right.
var wrongCalls = []api.Call{
	{}, {Ssid: 1}, {Base: "a"}, {Base: "b", Ssid: 3}, {Base: "ABCDEFG"}, {Base: "A B"}, {Base: "A "}, {Base: " A"}, {Base: "A-1"}, {Base: "Ä"}, {Base: "A\x00"}, {Base: "@"}, {Base: "["}, {Base: "/"}, {Base: ":"},
	{Base: "A", Ssid: -1}, {Base: "A", Ssid: 16}, {Base: "A", Ssid: 256}, {Base: "A", Ssid: 1 << 32}, {Base: "A", Ssid: math.MinInt}, {Base: "A", Ssid: math.MaxInt},
}

// rightCalls are, at the ends of what may be.
var rightCalls = []api.Call{
	{Base: "A"}, {Base: "Z"}, {Base: "0"}, {Base: "9"}, {Base: "A", Ssid: 1}, {Base: "A", Ssid: 15}, {Base: "ABCDEF"}, {Base: "ABCDEF", Ssid: 15}, {Base: "N0CALL", Ssid: 7}, {Base: "123456", Ssid: 8},
}

// wrongPids are outside 0 .. 255.
var wrongPids = []int{math.MinInt, -1 << 32, -257, -256, -16, -1, 256, 257, 256 + 240, 1 << 16, 1<<32 + 240, math.MaxInt}

func c(base string) api.Call { return api.Call{Base: base} }

func n(base string, ssid int) api.Call { return api.Call{Base: base, Ssid: ssid} }

// many is that many right calls, no two alike.
func many(count int) []api.Call {
	var l []api.Call
	for i := range count {
		l = append(l, n("X"+string(rune('A'+i/16)), i%16))
	}
	return l
}

// gram is a datagram from A to B.
func gram(text string, digis ...api.Call) Gram {
	return Gram{From: n("A", 3), To: c("B"), Digis: digis, Pid: 240, Text: text}
}

// same says whether two datagrams are; an empty list and no list are one.
func same(a, b Gram) bool {
	return a.From == b.From && a.To == b.To && slices.Equal(a.Digis, b.Digis) && a.Pid == b.Pid && a.Text == b.Text
}

func isRight(x api.Call) bool {
	const letters = "ABCDEFGHIJKLMNOPQRSTUVWXYZ0123456789"
	return len(x.Base) >= 1 && len(x.Base) <= 6 && strings.Trim(x.Base, letters) == "" && x.Ssid >= 0 && x.Ssid <= 15
}

// callBytes is a call's bytes in the document's words.
func callBytes(x api.Call, mark, last bool) string {
	b := []byte("      ")
	copy(b, x.Base)
	for i := range b {
		b[i] *= 2
	}
	end := 64 + 32 + 2*x.Ssid
	if mark {
		end += 128
	}
	if last {
		end++
	}
	return string(append(b, byte(end)))
}

// wantPut is a datagram's bytes in the document's words, or what is wrong.
func wantPut(g Gram) (string, api.Errno) {
	l := append([]api.Call{g.To, g.From}, g.Digis...)
	if len(l) > 10 || slices.ContainsFunc(l, func(x api.Call) bool { return !isRight(x) }) {
		return "", api.ErrPath
	}
	if g.Pid < 0 || g.Pid > 255 {
		return "", api.ErrArg
	}
	if len(g.Text) > 256 {
		return "", api.ErrLong
	}
	s := ""
	for i, x := range l {
		s += callBytes(x, i == 0, i == len(l)-1)
	}
	return s + "\x03" + string([]byte{byte(g.Pid)}) + g.Text, api.OK
}

// wantGet is the datagram of bytes: whether they are a frame layer 7 says, what it is the bytes.
func wantGet(s string) (Gram, api.Errno) {
	if _, e := frame.Decode(s, false); e != api.OK {
		return Gram{}, e
	}
	var l []api.Call
	i := 0
	for last := false; !last; i += 7 {
		base := ""
		for _, b := range []byte(s[i : i+6]) {
			base += string(rune(b / 2))
		}
		end := s[i+6]
		l = append(l, n(strings.Trim(base, " "), int(end/2)%16))
		last = end%2 == 1
	}
	if s[i] != 3 && s[i] != 3+16 {
		return Gram{}, api.ErrForm
	}
	return Gram{From: l[1], To: l[0], Digis: l[2:], Pid: int(s[i+1]), Text: s[i+2:]}, api.OK
}

// put holds Put against the model, and answers what both do.
func put(t *testing.T, g Gram) (string, api.Errno) {
	t.Helper()
	before := g
	before.Digis = slices.Clone(g.Digis)
	s, e := Put(g)
	if want, wrong := wantPut(g); s != want || e != wrong {
		t.Fatalf("Put(%v): %q, %v; want %q, %v", g, s, e, want, wrong)
	}
	if !same(g, before) {
		t.Fatalf("Put wrote into %v: %v", before, g)
	}
	return s, e
}

// get holds Get against the model, and answers what both do.
func get(t *testing.T, s string) (Gram, api.Errno) {
	t.Helper()
	g, e := Get(s)
	if want, wrong := wantGet(s); !same(g, want) || e != wrong {
		t.Fatalf("Get(%q): %v, %v; want %v, %v", s, g, e, want, wrong)
	}
	return g, e
}

// both goes from a right datagram to its bytes, and back.
func both(t *testing.T, g Gram) string {
	t.Helper()
	s, e := put(t, g)
	if e != api.OK {
		t.Fatalf("Put(%v): %v", g, e)
	}
	back, e := get(t, s)
	if e != api.OK || !same(back, g) {
		t.Fatalf("Get(Put(%v)): %v, %v", g, back, e)
	}
	return s
}

// encode is a frame's bytes by layer 7.
func encode(t *testing.T, f frame.Frame, wide bool) string {
	t.Helper()
	s, e := frame.Encode(f, wide)
	if e != api.OK {
		t.Fatalf("Encode(%+v, %v): %v", f, wide, e)
	}
	return s
}

// within says whether a part of x's memory is s's.
func within(x, s string) bool {
	a, b := uintptr(unsafe.Pointer(unsafe.StringData(x))), uintptr(unsafe.Pointer(unsafe.StringData(s)))
	return a >= b && a < b+uintptr(len(s))
}

// model is a beacon in the document's words: it goes by the time since it was set, not counted down.
type model struct {
	from         api.Call
	now, since   int
	every        int
	to           api.Call
	digis        []api.Call
	text         string
	right, wrong int // how many settings were taken, and refused
}

func (m *model) set(every int, g Gram) api.Errno {
	m.wrong++
	if every < 0 || every > 10000 {
		return api.ErrArg
	}
	if every > 0 {
		if _, e := wantPut(Gram{From: m.from, To: g.To, Digis: g.Digis, Pid: 240, Text: g.Text}); e != api.OK {
			return e
		}
	}
	m.wrong--
	m.right++
	m.since, m.every, m.to, m.digis, m.text = m.now, every, g.To, slices.Clone(g.Digis), g.Text
	return api.OK
}

func (m *model) tick() (string, bool) {
	m.now++
	if m.every == 0 || (m.now-m.since)%m.every != 0 {
		return "", false
	}
	s, _ := wantPut(Gram{From: m.from, To: m.to, Digis: m.digis, Pid: 240, Text: m.text})
	return s, true
}

func (m *model) left() int {
	if m.every == 0 {
		return 0
	}
	return m.every - (m.now-m.since)%m.every
}

// twin is a beacon and its model, to both of which the same happens.
type twin struct {
	b *Beacon
	m *model
}

func newTwin(t *testing.T, from api.Call) twin {
	t.Helper()
	b, e := New(from)
	if b == nil || e != api.OK {
		t.Fatalf("New(%v): %v, %v", from, b, e)
	}
	w := twin{b, &model{from: from}}
	w.same(t)
	return w
}

// same says that both tell the same numbers.
func (w twin) same(t *testing.T) {
	t.Helper()
	if every, left := w.b.Every(), w.b.Left(); every != w.m.every || left != w.m.left() {
		t.Fatalf("Every, Left: %d, %d; want %d, %d", every, left, w.m.every, w.m.left())
	}
}

func (w twin) set(t *testing.T, every int, g Gram) api.Errno {
	t.Helper()
	before := g
	before.Digis = slices.Clone(g.Digis)
	e, want := w.b.Set(every, g), w.m.set(every, g)
	if e != want {
		t.Fatalf("Set(%d, %v): %v; want %v", every, g, e, want)
	}
	if !same(g, before) {
		t.Fatalf("Set wrote into %v: %v", before, g)
	}
	w.same(t)
	return e
}

func (w twin) tick(t *testing.T) (string, bool) {
	t.Helper()
	s, due := w.b.Tick()
	want, is := w.m.tick()
	if s != want || due != is {
		t.Fatalf("Tick at %d, every %d since %d: %q, %v; want %q, %v", w.m.now, w.m.every, w.m.since, s, due, want, is)
	}
	w.same(t)
	return s, due
}

// kinds is a right frame of each kind along g's path, with Pf and without.
func kinds(g Gram, more string) []frame.Frame {
	var l []frame.Frame
	for kind := ctl.I; kind <= ctl.TEST; kind++ {
		for _, pf := range []bool{false, true} {
			f := frame.Frame{Ctl: ctl.Ctl{Kind: kind, Pf: pf}}
			f.To, f.From, f.ToMark = g.To, g.From, true
			if ctl.Pid(kind) {
				f.Pid = g.Pid
			}
			if ctl.Info(kind) {
				f.Info = more
			}
			l = append(l, f)
		}
	}
	return l
}
