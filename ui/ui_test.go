package ui

import (
	"math/rand"
	"slices"
	"strings"
	"testing"
	"unsafe"

	"squelch/api"
	"squelch/ctl"
	"squelch/frame"
	"squelch/path"
)

// P22.1: bytes that are known.
func TestP221Known(t *testing.T) {
	for _, x := range []struct {
		g Gram
		s string
	}{
		{Gram{From: c("A"), To: c("B"), Pid: 240, Text: "hi"}, "\x84@@@@@\xe0\x82@@@@@\x61\x03\xf0hi"},
		{Gram{From: n("N0CALL", 7), To: c("QST")}, "\xa2\xa6\xa8@@@\xe0\x9c\x60\x86\x82\x98\x98\x6f\x03\x00"},
		{Gram{From: c("A"), To: c("B"), Digis: []api.Call{n("D", 15)}, Pid: 255, Text: "\x00\xff"}, "\x84@@@@@\xe0\x82@@@@@\x60\x88@@@@@\x7f\x03\xff\x00\xff"},
	} {
		if s, e := Put(x.g); s != x.s || e != api.OK {
			t.Errorf("Put(%v): %q, %v; want %q", x.g, s, e, x.s)
		}
		if g, e := Get(x.s); !same(g, x.g) || e != api.OK {
			t.Errorf("Get(%q): %v, %v; want %v", x.s, g, e, x.g)
		}
	}
}

// P22.1: what Put makes is a command of kind UI, without Pf, that nobody has sent on.
func TestP221Frame(t *testing.T) {
	for count := range api.MaxDigis + 1 {
		s := both(t, gram("hello", many(count)...))
		f, e := frame.Decode(s, false)
		if e != api.OK || f.Kind != ctl.UI || f.Pf || !path.Command(f.Path) || f.Pid != 240 || f.Info != "hello" || len(f.Digis) != count {
			t.Errorf("%d digipeaters: %+v, %v", count, f, e)
		}
		if next, waits := path.Next(f.Path); waits != (count > 0) || waits && next != many(1)[0] {
			t.Errorf("%d digipeaters: Next is %v, %v", count, next, waits)
		}
	}
}

// P22.1: calls at the ends of what may be, at each place.
func TestP221Calls(t *testing.T) {
	for _, x := range rightCalls {
		g := gram("hi")
		g.From = x
		both(t, g)
		g = gram("hi")
		g.To = x
		both(t, g)
		for place := range api.MaxDigis {
			g = gram("hi", many(api.MaxDigis)...)
			g.Digis[place] = x
			both(t, g)
		}
	}
	for ssid := range 16 {
		both(t, Gram{From: n("A", ssid), To: n("B", 15-ssid), Digis: []api.Call{n("C", ssid)}})
	}
	a := c("A")
	both(t, Gram{From: a, To: a, Digis: []api.Call{a, a}}) // no sentence asks that calls be distinct
}

// P22.1: texts of each length, with each byte; protocols of each number.
func TestP221Texts(t *testing.T) {
	for length := range 257 {
		both(t, gram(strings.Repeat("x", length), many(length%9)...))
	}
	for b := range 256 {
		both(t, gram(string([]byte{byte(b), byte(b)}), c("D")))
		g := gram("hi")
		g.Pid = b
		both(t, g)
	}
}

// P22.1: wrong calls at each place.
func TestP221WrongCalls(t *testing.T) {
	for _, x := range wrongCalls {
		g := gram("hi")
		g.From = x
		if _, e := put(t, g); e != api.ErrPath {
			t.Errorf("from %v: %v", x, e)
		}
		g = gram("hi", c("D"))
		g.To = x
		if _, e := put(t, g); e != api.ErrPath {
			t.Errorf("to %v: %v", x, e)
		}
		for count := 1; count <= api.MaxDigis; count++ {
			for place := range count {
				g = gram("hi", many(count)...)
				g.Digis[place] = x
				if _, e := put(t, g); e != api.ErrPath {
					t.Errorf("%v as %d of %d: %v", x, place, count, e)
				}
			}
		}
	}
}

// P22.1: more than eight digipeaters, wrong numbers of protocols, texts that are too long.
func TestP221Beyond(t *testing.T) {
	for _, count := range []int{9, 10, 16, 255, 256, 257, 264, 1000} {
		if _, e := put(t, gram("hi", many(count)...)); e != api.ErrPath {
			t.Errorf("%d digipeaters: %v", count, e)
		}
	}
	for _, pid := range wrongPids {
		g := gram("hi", c("D"))
		g.Pid = pid
		if _, e := put(t, g); e != api.ErrArg {
			t.Errorf("Pid %d: %v", pid, e)
		}
	}
	for _, length := range []int{257, 258, 300, 512, 513, 600, 1 << 16, 1<<16 + 1} {
		if _, e := put(t, gram(strings.Repeat("x", length))); e != api.ErrLong {
			t.Errorf("%d bytes: %v", length, e)
		}
	}
}

// P22.1: of several that are wrong the path is told first, then Pid, then the text.
func TestP221Order(t *testing.T) {
	for bits := range 8 {
		g, want := gram("hi", c("D")), api.OK
		if bits&4 != 0 {
			g.Text, want = strings.Repeat("x", 257), api.ErrLong
		}
		if bits&2 != 0 {
			g.Pid, want = 256, api.ErrArg
		}
		if bits&1 != 0 {
			g.Digis, want = []api.Call{c("d")}, api.ErrPath
		}
		if _, e := put(t, g); e != want {
			t.Errorf("%03b: %v; want %v", bits, e, want)
		}
	}
	if _, e := put(t, Gram{}); e != api.ErrPath {
		t.Errorf("the zero datagram: %v", e)
	}
}

// P22.1: whatever the marks and Pf are, however many have sent it on: it is the same datagram.
func TestP221Marks(t *testing.T) {
	for bits := range 8 {
		for count := range api.MaxDigis + 1 {
			g := gram("hi", many(count)...)
			for sent := range count + 1 {
				f := frame.Frame{Ctl: ctl.Ctl{Kind: ctl.UI, Pf: bits&4 != 0}, Pid: g.Pid, Info: g.Text}
				f.To, f.From, f.ToMark, f.FromMark = g.To, g.From, bits&1 != 0, bits&2 != 0
				for i, x := range g.Digis {
					f.Digis = append(f.Digis, path.Digi{Call: x, Has: i < sent})
				}
				s := encode(t, f, false)
				if x, e := get(t, s); e != api.OK || !same(x, g) {
					t.Fatalf("marks %03b, %d of %d: %v, %v", bits, sent, count, x, e)
				}
				if made := both(t, g); (made == s) != (bits == 1 && sent == 0) {
					t.Fatalf("marks %03b, %d of %d: Put makes %q of %q", bits, sent, count, made, s)
				}
			}
		}
	}
}

// P22.1: frames of other kinds, narrow and wide.
func TestP221Kinds(t *testing.T) {
	for _, text := range []string{"", "hi", "\x03\xf0hi", strings.Repeat("x", 256)} {
		for _, f := range kinds(gram(text), text) {
			s := encode(t, f, false)
			want := api.ErrForm
			if f.Kind == ctl.UI {
				want = api.OK
			}
			if g, e := get(t, s); e != want || e != api.OK && !same(g, Gram{}) {
				t.Errorf("%s: %v, %v; want %v", frame.Text(f), g, e, want)
			}
			s = encode(t, f, true)
			if f.Kind > ctl.SREJ {
				_, e := get(t, s)
				if e != want {
					t.Errorf("%s, wide: %v; want %v", frame.Text(f), e, want)
				}
			} else if g, e := get(t, s); e == api.OK || !same(g, Gram{}) {
				t.Errorf("%s, wide: %v, %v", frame.Text(f), g, e)
			}
		}
	}
}

// P22.1: layer 7's errors go ahead of the kind's.
func TestP221Errors(t *testing.T) {
	head := both(t, gram("", many(2)...))[:28]
	sent := head[:20] + "\x60" + head[21:27] + "\xe1" // the second one has sent it, the first one hasn't
	for _, x := range []struct {
		s string
		e api.Errno
	}{
		{"", api.ErrShort},
		{"junk", api.ErrShort},
		{head, api.ErrShort},
		{head[:27], api.ErrShort},
		{head + "\x03", api.ErrShort},
		{head + "\x13", api.ErrShort},
		{head + "\x03\xf0", api.OK},
		{head + "\x13\xf0", api.OK},
		{head + "\x03\xf0" + strings.Repeat("x", 256), api.OK},
		{head + "\x03\xf0" + strings.Repeat("x", 257), api.ErrLong},
		{head + "\x03\xf0" + strings.Repeat("x", 1000), api.ErrLong},
		{head + "\x00", api.ErrShort}, // I
		{head + "\x00\xf0", api.ErrForm},
		{head + "\x00\xf0" + strings.Repeat("x", 257), api.ErrLong},
		{head + "\x01", api.ErrForm}, // RR
		{head + "\x01x", api.ErrForm},
		{head + "\xaf" + strings.Repeat("x", 256), api.ErrForm}, // XID
		{head + "\xaf" + strings.Repeat("x", 257), api.ErrLong},
		{head + "\xe3", api.ErrForm}, // TEST
		{head + "\xff", api.ErrForm}, // none
		{head + "\x07\xf0", api.ErrForm},
		{head + "\x23\xf0", api.ErrForm},
		{head[:27] + "\x60\x03\xf0hi", api.ErrShort},
		{sent + "\x03\xf0hi", api.ErrPath},
		{sent + "\x01", api.ErrPath},
		{head[:6] + "\xe1\x03\xf0hi", api.ErrForm},
		{"a" + head[1:] + "\x03\xf0hi", api.ErrForm},
		{strings.Repeat("\x00", 331), api.ErrForm},
		{strings.Repeat("\xff", 331), api.ErrForm},
	} {
		if g, e := get(t, x.s); e != x.e || e != api.OK && !same(g, Gram{}) {
			t.Errorf("%q: %v, %v; want %v", x.s, g, e, x.e)
		}
	}
}

// P22.1: bytes with more than eight digipeaters.
func TestP221Nine(t *testing.T) {
	s := both(t, gram("hi", many(api.MaxDigis)...))
	nine := s[:69] + string([]byte{s[69] - 1}) + s[63:]
	if _, e := get(t, nine); e != api.ErrPath {
		t.Errorf("nine: %v", e)
	}
}

// P22.1: each beginning of a datagram's bytes, and each bit turned.
func TestP221Turned(t *testing.T) {
	for _, digis := range [][]api.Call{nil, {n("D", 1)}, many(8)} {
		s := both(t, gram("hello", digis...))
		for i := range len(s) {
			get(t, s[:i])
		}
		for i := range 8 * len(s) {
			b := []byte(s)
			b[i/8] ^= 1 << (i % 8)
			get(t, string(b))
		}
	}
}

// P22.1: Put makes the same bytes of what Get read of a command without Pf that nobody has sent on.
func TestP221Again(t *testing.T) {
	r := rand.New(rand.NewSource(22))
	calls := append(many(6), rightCalls...)
	for range 20000 {
		g := Gram{From: calls[r.Intn(len(calls))], To: calls[r.Intn(len(calls))], Pid: r.Intn(256)}
		for range r.Intn(api.MaxDigis + 1) {
			g.Digis = append(g.Digis, calls[r.Intn(len(calls))])
		}
		text := make([]byte, r.Intn(257))
		r.Read(text)
		g.Text = string(text)
		s := both(t, g)
		x, _ := get(t, s)
		if again, e := put(t, x); again != s || e != api.OK {
			t.Fatalf("%q: %q, %v", s, again, e)
		}
	}
}

// P22.1: random bytes, and random ends behind a path.
func TestP221Random(t *testing.T) {
	r := rand.New(rand.NewSource(221))
	head := both(t, gram("", c("D")))[:21]
	for range 20000 {
		b := make([]byte, r.Intn(60))
		r.Read(b)
		get(t, string(b))
		get(t, head+string(b))
		get(t, head+"\x03"+string(b))
	}
}

// P22.1: random datagrams, of which some are wrong.
func TestP221RandomWrong(t *testing.T) {
	r := rand.New(rand.NewSource(222))
	calls := append(slices.Concat(rightCalls, rightCalls, rightCalls, rightCalls), wrongCalls...)
	pids := append(slices.Repeat([]int{0, 1, 239, 240, 255}, 6), wrongPids...)
	lengths := []int{0, 1, 2, 255, 256, 257}
	for range 20000 {
		g := Gram{From: calls[r.Intn(len(calls))], To: calls[r.Intn(len(calls))], Pid: pids[r.Intn(len(pids))]}
		for range r.Intn(10) {
			g.Digis = append(g.Digis, calls[r.Intn(len(calls))])
		}
		g.Text = strings.Repeat("x", lengths[r.Intn(len(lengths))])
		put(t, g)
	}
}

// P22.1: what is answered shares no memory with an argument, and no argument is written into.
func TestP221Memory(t *testing.T) {
	letters := []byte("ABDhello")
	text := unsafe.String(&letters[0], len(letters))
	room := make([]api.Call, 1, 8)
	room[0] = api.Call{Base: text[2:3]}
	s, e := Put(Gram{From: api.Call{Base: text[:1]}, To: api.Call{Base: text[1:2]}, Digis: room, Pid: 240, Text: text[3:]})
	if e != api.OK || within(s, text) || string(letters) != "ABDhello" || room[0] != c("D") || room[:2][1] != (api.Call{}) {
		t.Errorf("Put: %q, %v; then %q, %v", s, e, letters, room[:2])
	}
	g, e := Get(s)
	if e != api.OK || len(g.Digis) != 1 {
		t.Fatalf("Get(%q): %v, %v", s, g, e)
	}
	for _, x := range []string{g.From.Base, g.To.Base, g.Digis[0].Base, g.Text} {
		if within(x, s) {
			t.Errorf("%q stands in the argument's memory", x)
		}
	}
}
