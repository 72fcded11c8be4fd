package heard

import (
	"math"
	"slices"
	"strings"
	"testing"
	"unsafe"

	"squelch/api"
)

// rightCalls are right, at the ends of what may be.
var rightCalls = []api.Call{
	{Base: "A"}, {Base: "Z"}, {Base: "0"}, {Base: "9"}, {Base: "A", Ssid: 1}, {Base: "A", Ssid: 15}, {Base: "AB"}, {Base: "ABCDEF"}, {Base: "ABCDEF", Ssid: 15}, {Base: "N0CALL", Ssid: 7}, {Base: "123456", Ssid: 8},
}

// times are some that may be: all numbers are.
var times = []int{math.MinInt, -1 << 32, -600, -1, 0, 1, 2, 9, 1 << 30, 1<<30 + 1, 1 << 32, math.MaxInt}

func c(base string) api.Call { return api.Call{Base: base} }

func n(base string, ssid int) api.Call { return api.Call{Base: base, Ssid: ssid} }

// station is the call of the station of that number; no two are alike.
func station(i int) api.Call { return n("S"+string(rune('A'+i/16)), i%16) }

// stop is a digipeater of a path, and whether it has the frame.
type stop struct {
	who api.Call
	has bool
}

// stops are that many digipeaters, of which the first ones have the frame.
func stops(count, sent int) []stop {
	var l []stop
	for i := range count {
		l = append(l, stop{n("D", i), i < sent})
	}
	return l
}

// callBytes is a call's bytes in the words of the chapters below.
func callBytes(x api.Call, mark, last bool) string {
	b := []byte("      ")
	copy(b, x.Base)
	for i := range b {
		b[i] *= 2
	}
	end := 64 + 32 + 2*x.Ssid
	if mark {
		end += 128
	}
	if last {
		end++
	}
	return string(append(b, byte(end)))
}

// way is the bytes of a command's path.
func way(from, to api.Call, digis ...stop) string {
	return marked(from, to, true, false, digis...)
}

// marked is the bytes of a path with these marks.
func marked(from, to api.Call, toMark, fromMark bool, digis ...stop) string {
	s := callBytes(to, toMark, false) + callBytes(from, fromMark, len(digis) == 0)
	for i, d := range digis {
		s += callBytes(d.who, d.has, i == len(digis)-1)
	}
	return s
}

// ui is the bytes of a datagram from a station to B, by these digipeaters.
func ui(from api.Call, digis ...stop) string { return way(from, c("B"), digis...) + "\x03\xf0hello" }

// readCall is the call of seven bytes, in the words of the chapters below.
func readCall(b string) (x api.Call, mark, last, ok bool) {
	base := ""
	for i := range 6 {
		if b[i]%2 == 1 {
			return api.Call{}, false, false, false
		}
		base += string([]byte{b[i] / 2})
	}
	base = strings.TrimRight(base, " ")
	const letters = "ABCDEFGHIJKLMNOPQRSTUVWXYZ0123456789"
	end := int(b[6])
	if base == "" || strings.Trim(base, letters) != "" || end/64%2 == 0 || end/32%2 == 0 {
		return api.Call{}, false, false, false
	}
	return n(base, end/2%16), end >= 128, end%2 == 1, true
}

// read is the sender of bytes, by whom it was heard, and whether they begin with a path.
func read(s string) (from, by api.Call, ok bool) {
	unsent := false
	for i := 0; ; i++ {
		if len(s) < 7*(i+1) || i == 10 {
			return api.Call{}, api.Call{}, false
		}
		x, mark, last, right := readCall(s[7*i : 7*(i+1)])
		switch {
		case !right, i == 0 && last, i >= 2 && mark && unsent:
			return api.Call{}, api.Call{}, false
		case i == 1:
			from = x
		case i >= 2 && mark:
			by = x
		case i >= 2:
			unsent = true
		}
		if last {
			return from, by, true
		}
	}
}

// hearing is one frame that was heard.
type hearing struct {
	from, by api.Call
	now      int
}

// model is a list in the document's words: it keeps all that was heard, and works the list out of that.
type model struct{ log []hearing }

func (m *model) hear(s string, now int) bool {
	from, by, ok := read(s)
	if ok {
		m.log = append(m.log, hearing{from, by, now})
	}
	return ok
}

func (m *model) all() []Entry {
	var l []Entry
	for i := len(m.log) - 1; i >= 0 && len(l) < 8; i-- {
		h := m.log[i]
		if !slices.ContainsFunc(l, func(e Entry) bool { return e.Call == h.from }) {
			l = append(l, Entry{Call: h.from, Via: h.by, Count: m.count(i), When: h.now})
		}
	}
	return l
}

// count is how often the station of hearing i was heard till then: since there were last eight others between.
func (m *model) count(i int) int {
	who, times := m.log[i].from, 1
	others := map[api.Call]bool{}
	for k := i - 1; k >= 0 && len(others) < 8; k-- {
		if m.log[k].from == who {
			times++
			clear(others)
			continue
		}
		others[m.log[k].from] = true
	}
	return times
}

// twin is a list and its model, to both of which the same happens.
type twin struct {
	l *List
	m *model
}

func newTwin(t *testing.T) twin {
	t.Helper()
	w := twin{New(), &model{}}
	w.same(t)
	return w
}

// same says that both tell the same stations, as a whole and one by one, and nothing of others.
func (w twin) same(t *testing.T) {
	t.Helper()
	want := w.m.all()
	if l := w.l.All(); !slices.Equal(l, want) {
		t.Fatalf("All: %v; want %v", l, want)
	}
	for _, h := range w.m.log[max(0, len(w.m.log)-40):] {
		w.find(t, want, h.from)
		w.find(t, want, h.by)
		w.find(t, want, n(h.from.Base, h.from.Ssid+1))
		w.find(t, want, c(h.from.Base+"X"))
	}
	w.find(t, want, api.Call{})
}

// find holds Find against the stations that are wanted.
func (w twin) find(t *testing.T, all []Entry, x api.Call) {
	t.Helper()
	var want Entry
	i := slices.IndexFunc(all, func(e Entry) bool { return e.Call == x })
	if i >= 0 {
		want = all[i]
	}
	if e, ok := w.l.Find(x); e != want || ok != (i >= 0) {
		t.Fatalf("Find(%v): %v, %v; want %v, %v", x, e, ok, want, i >= 0)
	}
}

// hear lets both hear, and answers whether it was a frame.
func (w twin) hear(t *testing.T, s string, now int) bool {
	t.Helper()
	ok, want := w.l.Hear(s, now), w.m.hear(s, now)
	if ok != want {
		t.Fatalf("Hear(%q, %d): %v; want %v", s, now, ok, want)
	}
	w.same(t)
	return ok
}

// must lets both hear what is a frame.
func (w twin) must(t *testing.T, s string, now int) {
	t.Helper()
	if !w.hear(t, s, now) {
		t.Fatalf("Hear(%q, %d): false", s, now)
	}
}

// mustNot lets both hear what is none.
func (w twin) mustNot(t *testing.T, s string, now int) {
	t.Helper()
	if w.hear(t, s, now) {
		t.Fatalf("Hear(%q, %d): true", s, now)
	}
}

func (w twin) clear(t *testing.T) {
	t.Helper()
	w.l.Clear()
	w.m.log = nil
	w.same(t)
}

// within says whether a part of x's memory is s's.
func within(x, s string) bool {
	a, b := uintptr(unsafe.Pointer(unsafe.StringData(x))), uintptr(unsafe.Pointer(unsafe.StringData(s)))
	return a >= b && a < b+uintptr(len(s))
}
