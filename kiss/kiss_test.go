package kiss

import (
	"math"
	"math/rand"
	"slices"
	"strings"
	"testing"

	"squelch/api"
)

// model is a deframer as the document's words tell it: what has begun is kept as it came, and read anew at each byte.
type model struct {
	most, bad int
	begun     bool
	raw       string
}

// read is what raw bytes of a frame mean, whether the last one is an FESC alone, and whether an FESC stands ahead of a wrong byte.
func read(raw string) (b []byte, alone, wrong bool) {
	for i := 0; i < len(raw); i++ {
		if raw[i] != 0xDB {
			b = append(b, raw[i])
			continue
		}
		if i++; i == len(raw) {
			return b, true, false
		}
		switch raw[i] {
		case 0xDC:
			b = append(b, 0xC0)
		case 0xDD:
			b = append(b, 0xDB)
		default:
			return nil, false, true
		}
	}
	return b, false, false
}

func (m *model) feed(s string) []Frame {
	var told []Frame
	for _, c := range []byte(s) {
		b, alone, _ := read(m.raw)
		switch {
		case m.begun && alone && c != 0xDC && c != 0xDD:
			m.bad++
			m.begun, m.raw = c == 0xC0, ""
		case c == 0xC0:
			if m.begun && len(b) > 0 {
				told = append(told, Frame{Port: int(b[0]) / 16, Command: int(b[0]) % 16, Data: string(b[1:])})
			}
			m.begun, m.raw = true, ""
		case m.begun:
			m.raw += string([]byte{c})
			if b, _, _ := read(m.raw); len(b) > m.most {
				m.bad++
				m.begun, m.raw = false, ""
			}
		}
	}
	return told
}

func (m *model) held() int {
	b, _, _ := read(m.raw)
	return len(b)
}

// slowEncode is a frame's bytes, by the words.
func slowEncode(f Frame) string {
	s := string([]byte{byte(f.Port*16 + f.Command)}) + f.Data
	s = strings.ReplaceAll(s, "\xdb", "\xdb\xdd")
	s = strings.ReplaceAll(s, "\xc0", "\xdb\xdc")
	return "\xc0" + s + "\xc0"
}

func wantFrames(t *testing.T, got []Frame, want ...Frame) {
	t.Helper()
	if !slices.Equal(got, want) {
		t.Errorf("%#v; want %#v", got, want)
	}
}

func wantState(t *testing.T, d *Deframer, held, bad int) {
	t.Helper()
	if d.Held() != held || d.Bad() != bad {
		t.Errorf("held %d, bad %d; want %d, %d", d.Held(), d.Bad(), held, bad)
	}
}

// likely are bytes of which many are those that mean something.
func likely(r *rand.Rand, n int) string {
	const of = "\xc0\xc0\xdb\xdc\xdd\xdb\xdcab\x00"
	b := make([]byte, n)
	for i := range b {
		b[i] = byte(r.Intn(256))
		if r.Intn(2) == 0 {
			b[i] = of[r.Intn(len(of))]
		}
	}
	return string(b)
}

// cut is s in pieces of any lengths, empty ones too.
func cut(r *rand.Rand, s string) []string {
	l := []string{}
	for s != "" {
		n := r.Intn(min(len(s), 5) + 1)
		l = append(l, s[:n])
		s = s[n:]
	}
	return l
}

// P2.1: the document's example, and others by hand.
func TestP21EncodeKnown(t *testing.T) {
	for want, f := range map[string]Frame{
		"\xc0\x10\xdb\xdc\xc0":                 {Port: 1, Data: "\xc0"},
		"\xc0\x00\xc0":                         {},
		"\xc0\xff\xc0":                         {Port: 15, Command: 15},
		"\xc0\x0f\xc0":                         {Command: 15},
		"\xc0\xf0\xc0":                         {Port: 15},
		"\xc0\xdb\xdc\xc0":                     {Port: 12},
		"\xc0\xdb\xdda\xc0":                    {Port: 13, Command: 11, Data: "a"},
		"\xc0\x00\xdb\xdd\xdc\xdb\xdd\xdd\xc0": {Data: "\xdb\xdc\xdb\xdd"},
		"\xc0\x21\xdb\xdc\xdb\xdc\xdb\xdd\xc0": {Port: 2, Command: 1, Data: "\xc0\xc0\xdb"},
	} {
		if s, e := Encode(f); s != want || e != api.OK {
			t.Errorf("%#v: %q, %d; want %q", f, s, e, want)
		}
	}
}

// P2.1: every port, command and byte; a frame of any length.
func TestP21EncodeAll(t *testing.T) {
	var all []byte
	for c := 0; c < 256; c++ {
		all = append(all, byte(c))
	}
	for _, data := range []string{"", "x", string(all), strings.Repeat("\xc0\xdb", 5000)} {
		for port := 0; port <= 15; port++ {
			for command := 0; command <= 15; command++ {
				f := Frame{port, command, data}
				s, e := Encode(f)
				if s != slowEncode(f) || e != api.OK {
					t.Fatalf("%d %d %.20q: %.20q, %d", port, command, data, s, e)
				}
				if strings.Count(s, "\xc0") != 2 {
					t.Fatalf("%d %d %.20q: a FEND stands inside", port, command, data)
				}
			}
		}
	}
}

// P2.1: a port or a command outside 0 .. 15 is refused, never taken modulo.
func TestP21EncodeRefuses(t *testing.T) {
	for _, n := range []int{-1, 16, 17, 255, 256, -16, -256, 1 << 32, math.MaxInt, math.MinInt} {
		for _, f := range []Frame{{Port: n}, {Command: n}, {n, n, "ab"}, {n, 15, "a"}, {15, n, "a"}} {
			if s, e := Encode(f); s != "" || e != api.ErrArg {
				t.Errorf("%#v: %q, %d", f, s, e)
			}
		}
	}
}

// P2.1: each sentence of what a deframer does, one or more inputs each.
func TestP21Deframer(t *testing.T) {
	for _, c := range []struct {
		why, in   string
		told      []Frame
		held, bad int
	}{
		{"nothing", "", nil, 0, 0},
		{"between frames all is dropped", "\x00ab\xdb\xdc\xdd\xdbx", nil, 0, 0},
		{"a FEND begins", "\xc0", nil, 0, 0},
		{"bytes are taken", "\xc0abc", nil, 3, 0},
		{"a FEND ends", "\xc0\x21abc\xc0", []Frame{{2, 1, "abc"}}, 0, 0},
		{"a frame of one byte", "\xc0\xfe\xc0", []Frame{{15, 14, ""}}, 0, 0},
		{"a frame without a byte is not told", "\xc0\xc0\xc0", nil, 0, 0},
		{"the end begins the next one", "\xc0\x00a\xc0\x10b\xc0", []Frame{{0, 0, "a"}, {1, 0, "b"}}, 0, 0},
		{"two FENDs between", "\xc0\x00a\xc0\xc0\x10b\xc0", []Frame{{0, 0, "a"}, {1, 0, "b"}}, 0, 0},
		{"FESC TFEND, FESC TFESC", "\xc0\x00\xdb\xdc\xdb\xdd\xc0", []Frame{{0, 0, "\xc0\xdb"}}, 0, 0},
		{"they may come first", "\xc0\xdb\xdc\xc0\xdb\xdd\xc0", []Frame{{12, 0, ""}, {13, 11, ""}}, 0, 0},
		{"they are held as one", "\xc0\xdb\xdc\xdb\xdd", nil, 2, 0},
		{"TFEND and TFESC alone are themselves", "\xc0\xdc\xdd\xc0", []Frame{{13, 12, "\xdd"}}, 0, 0},
		{"they are so behind FESC TFESC too", "\xc0\xdb\xdd\xdc\xdd\xc0", []Frame{{13, 11, "\xdc\xdd"}}, 0, 0},
		{"FESC alone is not held", "\xc0ab\xdb", nil, 2, 0},
		{"FESC and another byte", "\xc0ab\xdbx", nil, 0, 1},
		{"FESC as the first byte, and another", "\xc0\xdbx", nil, 0, 1},
		{"behind a bad frame all is dropped", "\xc0ab\xdbxcd\xdb\xdc", nil, 0, 1},
		{"till a FEND, which begins", "\xc0ab\xdbxcd\xc0\x00e\xc0", []Frame{{0, 0, "e"}}, 0, 1},
		{"FESC FESC", "\xc0ab\xdb\xdb\xdccd", nil, 0, 1},
		{"FESC FEND: a new one begins", "\xc0ab\xdb\xc0\x00e\xc0", []Frame{{0, 0, "e"}}, 0, 1},
		{"FESC FEND: it has no byte yet", "\xc0ab\xdb\xc0\xc0", nil, 0, 1},
		{"FESC FEND, and again", "\xc0\xdb\xc0\xdb\xc0\xdb\xc0x", nil, 1, 3},
		{"as many bytes as the cap", "\xc0123456\xc0", []Frame{{3, 1, "23456"}}, 0, 0},
		{"so many are held", "\xc0123456", nil, 6, 0},
		{"one more", "\xc01234567", nil, 0, 1},
		{"once bad, not again", "\xc01234567890123456\xdbx", nil, 0, 1},
		{"the FEND behind it begins", "\xc01234567\xc0\x00ok\xc0", []Frame{{0, 0, "ok"}}, 0, 1},
		{"FESC alone is not one more", "\xc0123456\xdb", nil, 6, 0},
		{"FESC TFEND is, and no FEND", "\xc0123456\xdb\xdcab\xc0\x00ok\xc0", []Frame{{0, 0, "ok"}}, 0, 1},
		{"FESC TFESC is, and no FESC", "\xc0123456\xdb\xdd\xc0\x00ok\xc0", []Frame{{0, 0, "ok"}}, 0, 1},
		{"at the cap FESC FEND begins", "\xc0123456\xdb\xc0\x00ok\xc0", []Frame{{0, 0, "ok"}}, 0, 1},
		{"two bytes of six count as one", "\xc0\xdb\xdc\xdb\xdc\xdb\xdc\xdb\xdc\xdb\xdc\xdb\xdc\xc0", []Frame{{12, 0, "\xc0\xc0\xc0\xc0\xc0"}}, 0, 0},
	} {
		t.Run(c.why, func(t *testing.T) {
			whole, single := New(6), New(6)
			wantFrames(t, whole.Feed(c.in), c.told...)
			wantState(t, whole, c.held, c.bad)
			wantFrames(t, single.Feed(strings.Split(c.in, "")...), c.told...)
			wantState(t, single, c.held, c.bad)
		})
	}
}

// P2.1: the cap is 1 where it is asked for below 1, 4096 where above.
func TestP21Cap(t *testing.T) {
	for asked, most := range map[int]int{math.MinInt: 1, -1: 1, 0: 1, 1: 1, 2: 2, 400: 400, 4095: 4095, 4096: 4096, 4097: 4096, 1 << 32: 4096, math.MaxInt: 4096} {
		d := New(asked)
		wantState(t, d, 0, 0)
		fits := strings.Repeat("x", most)
		wantFrames(t, d.Feed("\xc0", fits))
		wantState(t, d, most, 0)
		wantFrames(t, d.Feed("\xc0"), Frame{7, 8, fits[1:]})
		wantFrames(t, d.Feed(fits, "x\xc0"))
		wantState(t, d, 0, 1)
	}
}

// P2.1: whatever few bytes come, all is as in the model, at every byte.
func TestP21FewBytes(t *testing.T) {
	const of = "\xc0\xdb\xdc\xdda"
	var try func(s string, n int)
	try = func(s string, n int) {
		for most := 1; most <= 3; most++ {
			wantAsModel(t, most, s)
		}
		for i := 0; n > 0 && i < len(of); i++ {
			try(s+of[i:i+1], n-1)
		}
	}
	try("", 7)
}

// P2.1: so it is with many.
func TestP21AnyBytes(t *testing.T) {
	r := rand.New(rand.NewSource(1))
	for i := 0; i < 3000; i++ {
		wantAsModel(t, 1+r.Intn(20), likely(r, r.Intn(120)))
	}
	for i := 0; i < 300; i++ {
		d, m := New(30), &model{most: 30}
		s := likely(r, r.Intn(600))
		if got, want := d.Feed(cut(r, s)...), m.feed(s); !slices.Equal(got, want) || d.Bad() != m.bad || d.Held() != m.held() {
			t.Fatalf("%q: %#v; want %#v", s, got, want)
		}
	}
}

func wantAsModel(t *testing.T, most int, s string) {
	t.Helper()
	d, m := New(most), &model{most: most}
	for i := range len(s) {
		got, want := d.Feed(s[i:i+1]), m.feed(s[i:i+1])
		if !slices.Equal(got, want) || d.Bad() != m.bad || d.Held() != m.held() {
			t.Fatalf("cap %d, %q at %d: %#v, bad %d, held %d; want %#v, %d, %d", most, s, i, got, d.Bad(), d.Held(), want, m.bad, m.held())
		}
	}
}

// P2.1: from wherever it is, Reset puts a deframer between frames; Bad stays.
func TestP21Reset(t *testing.T) {
	for _, in := range []string{"", "a", "\xc0", "\xc0a", "\xc0abc", "\xc0a\xdb", "\xc0\xdb", "\xc0a\xdbx", "\xc0a\xdb\xc0", "\xc0a\xdb\xc0b", "\xc01234567"} {
		d := New(6)
		d.Feed(in)
		bad := d.Bad()
		d.Reset()
		wantState(t, d, 0, bad)
		wantFrames(t, d.Feed("\xdc\x00lost"))
		wantState(t, d, 0, bad)
		wantFrames(t, d.Feed("\xc0\x00kept\xc0"), Frame{0, 0, "kept"})
		wantState(t, d, 0, bad)
	}
}

// P2.1: no texts, or empty ones, leave a deframer where it is.
func TestP21NoBytes(t *testing.T) {
	d := New(6)
	for _, in := range []string{"x", "\xc0", "\x30", "\xdb", "\xdc"} {
		wantFrames(t, d.Feed(in))
		held := d.Held()
		wantFrames(t, d.Feed())
		wantFrames(t, d.Feed("", "", ""))
		wantState(t, d, held, 0)
	}
	wantFrames(t, d.Feed("", "\xc0", ""), Frame{3, 0, "\xc0"})
}

// P2.1: a nil deframer does nothing, and has nothing.
func TestP21Nil(t *testing.T) {
	var d *Deframer
	wantFrames(t, d.Feed())
	wantFrames(t, d.Feed("\xc0\x00a\xc0", "\xc0\xdbx"))
	d.Reset()
	wantState(t, d, 0, 0)
}

// P2.1: the list is not written into; what was told stays as it is when more comes; deframers share nothing.
func TestP21NothingShared(t *testing.T) {
	d, other := New(20), New(20)
	l := []string{"\xc0\x00ab", "", "c\xdb", "\xdc\xc0", "\x10z"}
	told := d.Feed(l...)
	if !slices.Equal(l, []string{"\xc0\x00ab", "", "c\xdb", "\xdc\xc0", "\x10z"}) {
		t.Errorf("%q", l)
	}
	next := d.Feed("zzzzzz\xc0\x20yyyyyy\xc0", "\xc0wwwwwwwwwww")
	d.Reset()
	wantFrames(t, told, Frame{0, 0, "abc\xc0"})
	wantFrames(t, next, Frame{1, 0, "zzzzzzz"}, Frame{2, 0, "yyyyyy"})
	wantState(t, other, 0, 0)
	next[0].Data = "x"
	wantFrames(t, d.Feed("\xc0\x00q\xc0"), Frame{0, 0, "q"})
	wantFrames(t, other.Feed("q\xc0"))
}

// frames are some of any kind, none of more than most bytes.
func frames(r *rand.Rand, most int) []Frame {
	l := make([]Frame, r.Intn(6))
	for i := range l {
		l[i] = Frame{r.Intn(16), r.Intn(16), likely(r, r.Intn(most))}
	}
	return l
}

func bytesOf(t *testing.T, l []Frame) string {
	t.Helper()
	var b strings.Builder
	for _, f := range l {
		s, e := Encode(f)
		if e != api.OK {
			t.Fatalf("%#v: %d", f, e)
		}
		b.WriteString(s)
	}
	return b.String()
}

// P2.2: cut in two anywhere, behind any bytes without a FEND, frames are told, each once, in order.
func TestP22CutInTwo(t *testing.T) {
	l := []Frame{{1, 0, "\xc0"}, {0, 0, ""}, {12, 0, "\xdb\xdc"}, {13, 11, "\xdb\xc0\xdd"}, {15, 15, "0123456"}, {15, 15, "0123456"}}
	for _, ahead := range []string{"", "\x00", "noise", "\xdb", "\xdb\xdc\xdd", "longer than the cap, by far"} {
		s := ahead + bytesOf(t, l)
		for i := 0; i <= len(s); i++ {
			d, e := New(8), New(8)
			wantFrames(t, append(d.Feed(s[:i]), d.Feed(s[i:])...), l...)
			wantFrames(t, e.Feed(s[:i], s[i:]), l...)
			wantState(t, d, 0, 0)
			wantState(t, e, 0, 0)
		}
	}
}

// P2.2: so it is with any frames, cut into any pieces, when a deframer has seen others already.
func TestP22CutAnywhere(t *testing.T) {
	r := rand.New(rand.NewSource(2))
	d := New(40)
	for i := 0; i < 3000; i++ {
		l := frames(r, 40)
		s := strings.ReplaceAll(likely(r, r.Intn(60)), "\xc0", "") + bytesOf(t, l)
		var told []Frame
		for _, piece := range cut(r, s) {
			told = append(told, d.Feed(piece)...)
		}
		wantFrames(t, told, l...)
		d.Reset()
		wantState(t, d, 0, 0)
		wantFrames(t, New(40).Feed(cut(r, s)...), l...)
	}
}

// P2.2: a frame of the cap's length comes, a longer one doesn't, and the one behind it does.
func TestP22Longest(t *testing.T) {
	for _, most := range []int{1, 2, 3, 400, 4096} {
		for _, c := range []string{"x", "\xc0", "\xdb"} {
			fits, long := Frame{12, 0, strings.Repeat(c, most-1)}, Frame{12, 0, strings.Repeat(c, most)}
			d := New(most)
			wantFrames(t, d.Feed(bytesOf(t, []Frame{fits, long, fits})), fits, fits)
			wantState(t, d, 0, 1)
		}
	}
}

// P2.2: whatever comes, never are more bytes held than the cap; and it is reached.
func TestP22HeldWithinCap(t *testing.T) {
	r := rand.New(rand.NewSource(3))
	for most := 1; most <= 12; most++ {
		d := New(most)
		top := 0
		for range 20000 {
			d.Feed(likely(r, 1))
			top = max(top, d.Held())
		}
		d.Feed("\xc0", strings.Repeat("x", most))
		if top > most || d.Held() != most {
			t.Errorf("cap %d: up to %d were held, and %d of as many", most, top, d.Held())
		}
	}
}
