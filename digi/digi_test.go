package digi

import (
	"math"
	"math/bits"
	"math/rand"
	"slices"
	"strings"
	"testing"
	"unsafe"

	"squelch/api"
	"squelch/ctl"
	"squelch/frame"
	"squelch/path"
)

// wrongCalls aren't right.
var wrongCalls = []api.Call{
	{}, {Ssid: 1}, {Base: "a"}, {Base: "ABCDEFG"}, {Base: "A B"}, {Base: "A "}, {Base: " A"}, {Base: "A-1"}, {Base: "Ä"}, {Base: "A\x00"}, {Base: "A", Ssid: -1}, {Base: "A", Ssid: 16},
	{Base: "A", Ssid: 256}, {Base: "A", Ssid: 1 << 32}, {Base: "A", Ssid: math.MinInt}, {Base: "A", Ssid: math.MaxInt},
}

func c(base string) api.Call { return api.Call{Base: base} }

func n(base string, ssid int) api.Call { return api.Call{Base: base, Ssid: ssid} }

// wides are narrow and wide.
var wides = []bool{false, true}

// many is that many right calls, no two alike.
func many(count int) []api.Call {
	var l []api.Call
	for i := range count {
		l = append(l, n("X"+string(rune('A'+i/16)), i%16))
	}
	return l
}

// way is the path from A to B by digipeaters, of whom the first ones have sent it.
func way(sent int, digis ...api.Call) path.Path {
	p := path.Path{To: c("B"), From: n("A", 3), ToMark: true}
	for i, d := range digis {
		p.Digis = append(p.Digis, path.Digi{Call: d, Has: i < sent})
	}
	return p
}

// ui is the bytes of a datagram along p.
func ui(t *testing.T, p path.Path) string {
	t.Helper()
	return bytesOf(t, frame.Frame{Path: p, Ctl: ctl.Ctl{Kind: ctl.UI}, Pid: 240, Info: "hi"}, false)
}

func bytesOf(t *testing.T, f frame.Frame, wide bool) string {
	t.Helper()
	s, e := frame.Encode(f, wide)
	if e != api.OK {
		t.Fatalf("Encode(%+v, %v): %v", f, wide, e)
	}
	return s
}

// all is frames of each kind along p, each at an edge of what it may have.
func all(t *testing.T, p path.Path) []string {
	t.Helper()
	var l []string
	for _, wide := range wides {
		for kind := ctl.I; kind <= ctl.TEST; kind++ {
			f := frame.Frame{Path: p, Ctl: ctl.Ctl{Kind: kind}}
			l = append(l, bytesOf(t, f, wide))
			f.Pf = true
			if kind <= ctl.SREJ {
				f.Nr = 7
			}
			if kind == ctl.I {
				f.Ns = 6
			}
			if ctl.Pid(kind) {
				f.Pid = 255
			}
			if ctl.Info(kind) {
				f.Info = strings.Repeat("\xff", api.MaxInfo)
			}
			l = append(l, bytesOf(t, f, wide))
		}
	}
	return l
}

// model is a digipeater in the document's words: it goes through the bytes by itself.
type model struct {
	calls             []api.Call
	sent, other, none int
}

// decodes asks layer 7.
func decodes(s string) bool {
	_, narrow := frame.Decode(s, false)
	_, wide := frame.Decode(s, true)
	return narrow == api.OK || wide == api.OK
}

// callAt is the call of the seven bytes at i, whether it has the mark, and whether it is the last one.
func callAt(s string, i int) (api.Call, bool, bool) {
	base := ""
	for _, b := range []byte(s[i : i+6]) {
		if b>>1 != ' ' {
			base += string(rune(b >> 1))
		}
	}
	b := s[i+6]
	return n(base, int(b>>1&15)), b&128 != 0, b&1 != 0
}

// waiting is where the first digipeater begins that hasn't sent s; -1: none is there.
func waiting(s string) int {
	for i := 7; ; i += 7 {
		_, has, last := callAt(s, i)
		if i > 7 && !has {
			return i
		}
		if last {
			return -1
		}
	}
}

func (m *model) on(s string) (string, bool) {
	if !decodes(s) {
		m.none++
		return "", false
	}
	i := waiting(s)
	if i >= 0 {
		if next, _, _ := callAt(s, i); slices.Contains(m.calls, next) {
			m.sent++
			b := []byte(s)
			b[i+6] += 128
			return string(b), true
		}
	}
	m.other++
	return "", false
}

// forIt says whether s is for c in the document's words.
func forIt(c api.Call, s string) bool {
	if !decodes(s) || waiting(s) >= 0 {
		return false
	}
	to, _, _ := callAt(s, 0)
	return to == c
}

// twin is a digipeater, and the model of it.
type twin struct {
	d *Digi
	m *model
}

func newTwin(t *testing.T, own api.Call, aliases ...api.Call) twin {
	t.Helper()
	d, e := New(own, aliases...)
	if d == nil || e != api.OK {
		t.Fatalf("New(%v, %v): %v, %v", own, aliases, d, e)
	}
	w := twin{d, &model{calls: append([]api.Call{own}, aliases...)}}
	w.same(t)
	return w
}

// same holds what is counted against what the model counts.
func (w twin) same(t *testing.T) {
	t.Helper()
	if a, b, c := w.d.Counts(); a != w.m.sent || b != w.m.other || c != w.m.none {
		t.Fatalf("Counts: %d, %d, %d; want %d, %d, %d", a, b, c, w.m.sent, w.m.other, w.m.none)
	}
}

func (w twin) on(t *testing.T, s string) (string, bool) {
	t.Helper()
	on, ok := w.d.On(s)
	if want, wantOk := w.m.on(s); on != want || ok != wantOk {
		t.Fatalf("On(%q) of %v: %q, %v; want %q, %v", s, w.m.calls, on, ok, want, wantOk)
	}
	w.same(t)
	if ok {
		oneBit(t, s, on)
	}
	return on, ok
}

// oneBit demands that what is sent on can be decoded, and differs in one bit.
func oneBit(t *testing.T, s, on string) {
	t.Helper()
	if !decodes(on) || !Decodes(on) || len(on) != len(s) {
		t.Fatalf("%q is sent on as %q", s, on)
	}
	turned := 0
	for i := range len(s) {
		turned += bits.OnesCount8(s[i] ^ on[i])
	}
	if turned != 1 {
		t.Fatalf("%q is sent on as %q: %d bits differ", s, on, turned)
	}
}

// P18.1: the limit.
func TestP181Limit(t *testing.T) {
	if MaxAlias != 4 {
		t.Errorf("MaxAlias %d", MaxAlias)
	}
}

// P18.1: the example.
func TestP181Example(t *testing.T) {
	s := ui(t, way(0, c("C")))
	d := newTwin(t, c("C"))
	if For(c("B"), s) {
		t.Error("it is for B ahead of C")
	}
	on, ok := d.on(t, s)
	if want := ui(t, way(1, c("C"))); !ok || on != want {
		t.Fatalf("On: %q, %v; want %q", on, ok, want)
	}
	if !For(c("B"), on) || For(n("A", 3), on) || For(c("C"), on) {
		t.Error("it isn't for B alone behind C")
	}
}

// P18.1: New of no alias up to four, and which calls are its own.
func TestP181New(t *testing.T) {
	l := []api.Call{c("C"), c("WIDE"), n("C", 1), n("WIDE", 15), c("ABCDEF")}
	for count := range MaxAlias + 1 {
		w := newTwin(t, l[0], l[1:1+count]...)
		for i, x := range l {
			if w.d.Mine(x) != (i <= count) {
				t.Errorf("%d aliases: Mine(%v) %v", count, x, w.d.Mine(x))
			}
		}
	}
	w := newTwin(t, c("C"), []api.Call{}...)
	if !w.d.Mine(c("C")) {
		t.Error("an empty list isn't none")
	}
}

// P18.1: calls that aren't right, at each place.
func TestP181NewWrong(t *testing.T) {
	for _, x := range wrongCalls {
		for count := range 8 {
			for place := range count + 1 {
				l := many(count + 1)
				l[place] = x
				if d, e := New(l[0], l[1:]...); d != nil || e != api.ErrCall {
					t.Errorf("New(%v): %v, %v", l, d, e)
				}
			}
		}
	}
}

// P18.1: two that are alike, at each two places, even if there are too many.
func TestP181NewAlike(t *testing.T) {
	for count := 1; count < 8; count++ {
		for i := range count {
			l := many(count + 1)
			for j := i + 1; j <= count; j++ {
				k := slices.Clone(l)
				k[j] = k[i]
				if d, e := New(k[0], k[1:]...); d != nil || e != api.ErrCall {
					t.Errorf("New(%v): %v, %v", k, d, e)
				}
			}
		}
	}
}

// P18.1: more than four aliases.
func TestP181NewFull(t *testing.T) {
	for _, count := range []int{5, 6, 7, 8, 15, 16, 17, 100, 255, 256, 260} {
		if d, e := New(c("C"), many(count)...); d != nil || e != api.ErrFull {
			t.Errorf("%d aliases: %v, %v", count, d, e)
		}
	}
	newTwin(t, c("C"), many(4)...)
}

// P18.1: whatever is near its call is another one.
func TestP181Mine(t *testing.T) {
	own, alias := n("N0CALL", 7), n("WIDE", 0)
	d := newTwin(t, own, alias).d
	if !d.Mine(own) || !d.Mine(alias) {
		t.Error("its own isn't its own")
	}
	near := []api.Call{c("N0CALL"), n("N0CALL", 6), n("N0CALL", 8), n("N0CALL", 7+16), n("N0CALL", 7+256), n("N0CALL", 7+1<<32), n("N0CALL", -7), n("n0call", 7), n("N0CAL", 7), n("N0CALL ", 7), n("0NCALL", 7), n("WIDE", 7), n("WIDE", 1), n("WIDE ", 0), n("wide", 0), n("WID", 0), n("WIDE1", 0)}
	for _, x := range append(near, wrongCalls...) {
		if d.Mine(x) {
			t.Errorf("Mine(%v)", x)
		}
	}
	if (&Digi{}).Mine(api.Call{}) {
		t.Error("no call is one's own")
	}
}

// P18.1: the second of three, by its call and by each of its aliases, of frames of all kinds, narrow and wide.
func TestP181Kinds(t *testing.T) {
	w := newTwin(t, c("C"), many(4)...)
	for _, own := range w.m.calls {
		for sent := range 4 {
			for _, s := range all(t, way(sent, c("D"), own, c("E"))) {
				if on, ok := w.on(t, s); ok != (sent == 1) || !ok && on != "" {
					t.Fatalf("%v, %d have sent it: %v", own, sent, ok)
				}
			}
		}
	}
}

// P18.1: paths of each length, of which each number have sent it, with its call at each place.
func TestP181Places(t *testing.T) {
	for count := range api.MaxDigis + 1 {
		for sent := range count + 1 {
			for place := range count {
				l := many(count)
				l[place] = c("C")
				w := newTwin(t, n("Q", 1), c("Q"), c("C"))
				on, ok := w.on(t, ui(t, way(sent, l...)))
				if ok != (sent == place) || ok && on != ui(t, way(sent+1, l...)) {
					t.Fatalf("%d of %d, place %d: %q, %v", sent, count, place, on, ok)
				}
			}
			w := newTwin(t, c("C"))
			if _, ok := w.on(t, ui(t, way(sent, many(count)...))); ok {
				t.Fatalf("%d of %d: it is none of them", sent, count)
			}
		}
	}
}

// P18.1: who sends it, or to whom it is, sends nothing on.
func TestP181Ends(t *testing.T) {
	for _, own := range []api.Call{c("B"), n("A", 3)} {
		w := newTwin(t, c("C"), own)
		for _, p := range []path.Path{way(0), way(0, c("D")), way(1, c("D")), way(1, c("D"), c("E"))} {
			if _, ok := w.on(t, ui(t, p)); ok {
				t.Errorf("%v sends on what goes along %v", own, p)
			}
		}
		if _, ok := w.on(t, ui(t, way(0, own))); !ok {
			t.Errorf("%v doesn't, though it is the digipeater", own)
		}
	}
}

// P18.1: the marks of To and From don't hinder it, and stay.
func TestP181Marks(t *testing.T) {
	for bits := range 4 {
		p := way(1, c("D"), c("C"))
		p.ToMark, p.FromMark = bits&1 != 0, bits&2 != 0
		w := newTwin(t, c("C"))
		on, ok := w.on(t, ui(t, p))
		p.Digis[1].Has = true
		if !ok || on != ui(t, p) {
			t.Errorf("marks %d: %q, %v", bits, on, ok)
		}
		if !For(c("B"), on) {
			t.Errorf("marks %d: it isn't for B", bits)
		}
	}
}

// P18.1: a call that stands in the path twice, or beside an alias, sends on once for each.
func TestP181Twice(t *testing.T) {
	l := []api.Call{c("C"), c("C"), c("WIDE"), c("D"), c("C"), c("WIDE"), c("WIDE"), c("C")}
	w, d := newTwin(t, c("C"), c("WIDE")), newTwin(t, c("D"))
	for i, x := range l {
		s := ui(t, way(i, l...))
		on, ok := w.on(t, s)
		if x == c("D") {
			on, ok = d.on(t, s)
		}
		if !ok || on != ui(t, way(i+1, l...)) {
			t.Fatalf("place %d: %q, %v", i, on, ok)
		}
	}
	if _, ok := w.on(t, ui(t, way(len(l), l...))); ok {
		t.Error("all have sent it")
	}
	if a, b, none := w.d.Counts(); a != 7 || b != 2 || none != 0 {
		t.Errorf("Counts: %d, %d, %d", a, b, none)
	}
}

// P18.1: calls in the path that are near its own.
func TestP181Near(t *testing.T) {
	w := newTwin(t, n("CALL", 7), n("WIDE", 1))
	for _, x := range []api.Call{c("CALL"), n("CALL", 6), n("CALL", 15), n("CAL", 7), n("CALLS", 7), n("ALL", 7), n("WIDE", 7), n("CALL", 1), c("WIDE")} {
		if _, ok := w.on(t, ui(t, way(0, x))); ok {
			t.Errorf("%v is none of its own", x)
		}
	}
	for ssid := range 16 {
		if _, ok := w.on(t, ui(t, way(0, n("CALL", ssid)))); ok != (ssid == 7) {
			t.Errorf("number %d: %v", ssid, ok)
		}
	}
}

// P18.1: what begins with a path that waits for it, but is no frame; each piece of frames, with more behind them, too.
func TestP181NoFrames(t *testing.T) {
	w := newTwin(t, c("C"))
	for _, s := range all(t, way(0, c("C"), c("D"))) {
		for i := range len(s) {
			w.on(t, s[:i])
		}
		for _, more := range []string{"x", "xy", strings.Repeat("x", 256), strings.Repeat("x", 1000)} {
			w.on(t, s+more)
		}
	}
	head := ui(t, way(0, c("C")))[:21]
	for _, s := range []string{"", "junk", head, head + "\xff", head + "\x07\x00", head + "\x03", head + "\x67x", head + "\x03\xf0" + strings.Repeat("x", 257), strings.Repeat("\x00", 331), strings.Repeat("\xff", 331)} {
		on, ok := w.on(t, s)
		if on != "" || ok || Decodes(s) || For(c("B"), s) || For(api.Call{}, s) {
			t.Errorf("%q is a frame", s)
		}
	}
}

// P18.1: each bit of frames turned.
func TestP181Turned(t *testing.T) {
	w := newTwin(t, c("C"), c("D"), n("C", 8), c("WIDE"))
	for sent := range 3 {
		for _, s := range all(t, way(sent, c("C"), c("D"))) {
			s = s[:min(len(s), 40)]
			for i := range 8 * len(s) {
				b := []byte(s)
				b[i/8] ^= 1 << (i % 8)
				x := string(b)
				w.on(t, x)
				if Decodes(x) != decodes(x) || For(c("B"), x) != forIt(c("B"), x) {
					t.Fatalf("%q: Decodes %v, For %v", x, Decodes(x), For(c("B"), x))
				}
			}
		}
	}
}

// P18.1: bytes that are a frame's narrow alone, wide alone, either way, and neither.
func TestP181Decodes(t *testing.T) {
	head := ui(t, way(1, c("D"), c("C")))[:28]
	for _, x := range []struct {
		rest         string
		narrow, wide bool
	}{
		{"\x01", true, false}, // RR
		{"\x01\x02", false, true},
		{"\x00\xf0", true, false}, // I
		{"\x00\xf0\x00", true, true},
		{"\x00" + strings.Repeat("\xf0", 258), false, true}, // 257 bytes of information narrow, 256 wide
		{"\x00" + strings.Repeat("\xf0", 257), true, true},
		{"\x00" + strings.Repeat("\xf0", 259), false, false},
		{"\x10\x00", true, false},
		{"\x11", true, false}, // RR with Pf
		{"\x11\x00", false, false},
		{"\x2f", true, true}, // SABM
		{"\x2f\x00", false, false},
		{"", false, false},
	} {
		s := head + x.rest
		_, narrow := frame.Decode(s, false)
		_, wide := frame.Decode(s, true)
		if (narrow == api.OK) != x.narrow || (wide == api.OK) != x.wide {
			t.Errorf("%q: layer 7 says %v, %v", x.rest, narrow, wide)
		}
		can := x.narrow || x.wide
		w := newTwin(t, c("C"))
		on, ok := w.on(t, s)
		if ok != can || Decodes(s) != can || For(c("B"), on) != can {
			t.Errorf("%q: On %v, Decodes %v, For %v; want %v", x.rest, ok, Decodes(s), For(c("B"), on), can)
		}
		if a, b, none := w.d.Counts(); b != 0 || a+none != 1 || (a == 1) != can {
			t.Errorf("%q: Counts %d, %d, %d", x.rest, a, b, none)
		}
	}
}

// P18.1: frames of all kinds can be decoded, and are for To, when all have sent them.
func TestP181For(t *testing.T) {
	for count := range api.MaxDigis + 1 {
		for sent := range count + 1 {
			p := way(sent, many(count)...)
			for _, s := range all(t, p) {
				if !Decodes(s) {
					t.Fatalf("%q can't be decoded", s)
				}
				if For(c("B"), s) != (sent == count) {
					t.Fatalf("%d of %d: For %v", sent, count, !(sent == count))
				}
			}
			s := ui(t, p)
			others := append([]api.Call{n("A", 3), c("A"), c("C"), n("B", 1), n("B", 16), c("b"), c("B "), c("BB")}, wrongCalls...)
			for _, x := range append(others, many(8)...) {
				if For(x, s) {
					t.Errorf("%d of %d: it is for %v", sent, count, x)
				}
			}
		}
	}
}

// P18.1: to whom a frame is has a number, and up to six letters.
func TestP181ForCalls(t *testing.T) {
	for _, to := range []api.Call{c("0"), c("Z"), n("A", 15), n("ABCDEF", 15), c("9Z9Z9Z")} {
		p := way(1, c("C"))
		p.To = to
		s := ui(t, p)
		for _, x := range []api.Call{c("0"), c("Z"), n("A", 15), n("ABCDEF", 15), c("9Z9Z9Z"), c("A"), c("ABCDEF")} {
			if For(x, s) != (x == to) {
				t.Errorf("to %v: For(%v) %v", to, x, For(x, s))
			}
		}
	}
}

// P18.1: Decodes, For and Mine count nothing; each call of On counts one of three.
func TestP181Counts(t *testing.T) {
	w := newTwin(t, c("C"))
	mine, other := ui(t, way(0, c("C"))), ui(t, way(0, c("D")))
	steps := []func(){
		func() { w.on(t, mine) },
		func() { w.on(t, other) },
		func() { w.on(t, "junk") },
		func() { Decodes(mine); For(c("C"), mine); w.d.Mine(c("C")); w.d.Counts(); w.same(t) },
	}
	for order := range 256 {
		for i := range 4 {
			steps[order>>(2*i)&3]()
		}
	}
	if a, b, none := w.d.Counts(); a != 256 || b != 256 || none != 256 {
		t.Errorf("Counts: %d, %d, %d", a, b, none)
	}
}

// P18.1: random paths, calls and ends of frames.
func TestP181Random(t *testing.T) {
	r := rand.New(rand.NewSource(18))
	calls := append(many(6), c("B"), n("A", 3))
	for range 300 {
		l := slices.Clone(calls)
		r.Shuffle(len(l), func(i, j int) { l[i], l[j] = l[j], l[i] })
		w := newTwin(t, l[0], l[1:1+r.Intn(MaxAlias+1)]...)
		for range 60 {
			var digis []api.Call
			for range r.Intn(api.MaxDigis + 1) {
				digis = append(digis, calls[r.Intn(len(calls))])
			}
			frames := all(t, way(r.Intn(len(digis)+1), digis...))
			s := frames[r.Intn(len(frames))]
			if r.Intn(4) == 0 {
				b := []byte(s)
				b[r.Intn(len(b))] ^= byte(1 << r.Intn(8))
				s = string(b)
			}
			w.on(t, s)
			x := calls[r.Intn(len(calls))]
			if For(x, s) != forIt(x, s) || Decodes(s) != decodes(s) || w.d.Mine(x) != slices.Contains(w.m.calls, x) {
				t.Fatalf("%v, %q: For %v, Decodes %v, Mine %v", x, s, For(x, s), Decodes(s), w.d.Mine(x))
			}
		}
	}
}

// P18.1: the nil digipeater.
func TestP181Nil(t *testing.T) {
	var d *Digi
	for _, s := range []string{"", "junk", ui(t, way(0, c("C"))), ui(t, way(0))} {
		if on, ok := d.On(s); on != "" || ok {
			t.Errorf("On of the nil digipeater: %q, %v", on, ok)
		}
	}
	for _, x := range []api.Call{{}, c("C")} {
		if d.Mine(x) {
			t.Errorf("%v is the nil digipeater's", x)
		}
	}
	if a, b, none := d.Counts(); a != 0 || b != 0 || none != 0 {
		t.Errorf("Counts of the nil digipeater: %d, %d, %d", a, b, none)
	}
}

// within says whether a part of x's memory is s's.
func within(x, s string) bool {
	a, b := uintptr(unsafe.Pointer(unsafe.StringData(x))), uintptr(unsafe.Pointer(unsafe.StringData(s)))
	return a >= b && a < b+uintptr(len(s))
}

// P18.1: the list of aliases is neither kept nor written into, nor are the calls' letters kept.
func TestP181Memory(t *testing.T) {
	letters := []byte("CWIDE")
	text := unsafe.String(&letters[0], len(letters))
	room := make([]api.Call, 1, 8)
	room[0] = api.Call{Base: text[1:]}
	w := newTwin(t, api.Call{Base: text[:1]}, room...)
	w.m.calls = []api.Call{c("C"), c("WIDE")}
	if room[0] != c("WIDE") || room[:2][1] != (api.Call{}) {
		t.Errorf("New wrote into the list: %v", room[:2])
	}
	for _, kept := range w.d.calls {
		if within(kept.Base, text) {
			t.Errorf("%v is kept in the argument's memory", kept)
		}
	}
	room[0] = c("D")
	copy(letters, "XXXXX")
	if !w.d.Mine(c("C")) || !w.d.Mine(c("WIDE")) || w.d.Mine(c("D")) || w.d.Mine(c("X")) {
		t.Error("its calls changed with the argument")
	}
	s := ui(t, way(0, c("WIDE")))
	on, ok := w.on(t, s)
	if !ok || within(on, s) {
		t.Error("what is sent on stands in the argument's memory")
	}
}

// P18.1: two digipeaters have nothing in common.
func TestP181Apart(t *testing.T) {
	l := []api.Call{c("E")}
	a, b := newTwin(t, c("C"), l...), newTwin(t, c("D"), l...)
	a.on(t, ui(t, way(0, c("C"))))
	a.on(t, "junk")
	b.on(t, ui(t, way(0, c("C"))))
	a.same(t)
	b.same(t)
	if a.d.Mine(c("D")) || b.d.Mine(c("C")) {
		t.Error("one's call is the other one's")
	}
}

// P18.2: a frame goes on at most as often as it has digipeaters, whatever digipeaters there are: all hear all, and each what it sends itself.
func TestP182Often(t *testing.T) {
	r := rand.New(rand.NewSource(182))
	calls := many(5)
	for range 400 {
		var ds []twin
		for range 1 + r.Intn(6) {
			l := slices.Clone(calls)
			r.Shuffle(len(l), func(i, j int) { l[i], l[j] = l[j], l[i] })
			ds = append(ds, newTwin(t, l[0], l[1:1+r.Intn(MaxAlias+1)]...))
		}
		var digis []api.Call
		for range r.Intn(api.MaxDigis + 1) {
			digis = append(digis, calls[r.Intn(len(calls))])
		}
		sent := r.Intn(len(digis) + 1)
		frames := all(t, way(sent, digis...))
		s := frames[r.Intn(len(frames))]
		rounds := 0
		for forms := map[string]bool{s: true}; len(forms) > 0; rounds++ {
			next := map[string]bool{}
			for x := range forms {
				for _, d := range ds {
					if on, ok := d.on(t, x); ok {
						next[on] = true
					}
				}
			}
			if len(next) > 1 {
				t.Fatalf("it goes on in %d forms", len(next))
			}
			forms = next
		}
		if rounds-1 > len(digis)-sent {
			t.Fatalf("it goes on %d times by %d digipeaters, %d of whom have sent it", rounds-1, len(digis), sent)
		}
	}
}

// P18.2: one that has all the calls of a path sends it on just so often, and it is for its end then, not sooner.
func TestP182All(t *testing.T) {
	l := many(5)
	for count := range api.MaxDigis + 1 {
		var digis []api.Call
		for i := range count {
			digis = append(digis, l[i%5])
		}
		for _, s := range all(t, way(0, digis...)) {
			w := newTwin(t, l[0], l[1:]...)
			for i := range count {
				if For(c("B"), s) {
					t.Fatalf("%d of %d: it is for B", i, count)
				}
				on, ok := w.on(t, s)
				if !ok {
					t.Fatalf("%d of %d: it isn't sent on", i, count)
				}
				s = on
			}
			if _, ok := w.on(t, s); ok || !For(c("B"), s) {
				t.Fatalf("all %d have sent it: On %v, For %v", count, ok, For(c("B"), s))
			}
			if a, b, none := w.d.Counts(); a != count || b != 1 || none != 0 {
				t.Fatalf("Counts: %d, %d, %d", a, b, none)
			}
		}
	}
}

// P18.2: whatever bytes come, what is sent on can be decoded, and differs in one bit.
func TestP182Bytes(t *testing.T) {
	r := rand.New(rand.NewSource(1822))
	w := newTwin(t, c("C"), c("D"))
	for range 20000 {
		b := make([]byte, r.Intn(60))
		r.Read(b)
		w.on(t, string(b))
		w.on(t, ui(t, way(r.Intn(3), c("D"), c("C")))[:28]+string(b))
	}
	if a, b, none := w.d.Counts(); a == 0 || b == 0 || none == 0 {
		t.Errorf("Counts: %d, %d, %d", a, b, none)
	}
}
