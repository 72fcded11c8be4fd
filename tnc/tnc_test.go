package tnc

import (
	"math"
	"math/rand"
	"slices"
	"strings"
	"testing"

	"squelch/api"
	"squelch/kiss"
)

// outside are numbers that no parameter may be.
var outside = []int{-1, 256, -2, 257, -255, -256, 512, 1 << 32, 1<<32 + 5, math.MaxInt, math.MinInt}

// noHalf are numbers that no port and no command may be.
var noHalf = []int{-1, 16, 17, 31, 255, 256, -15, -16, 1 << 32, 1<<32 + 5, math.MaxInt, math.MinInt}

// some are right parameters: the usual ones, the edges, and any.
func some() []Params {
	l := []Params{
		{2, 63, 1, 1, false}, {2, 63, 1, 1, true}, {}, {Full: true}, {255, 255, 255, 255, false}, {255, 255, 255, 255, true},
		{TxDelay: 255}, {Persist: 255}, {Slot: 255}, {Tail: 255}, {1, 2, 3, 4, false}, {4, 3, 2, 1, true}, {192, 219, 220, 221, true},
	}
	r := rand.New(rand.NewSource(1))
	for range 40 {
		l = append(l, Params{r.Intn(256), r.Intn(256), r.Intn(256), r.Intn(256), r.Intn(2) == 1})
	}
	return l
}

// with are p with one number each that isn't right.
func with(p Params, n int) []Params {
	a, b, c, d := p, p, p, p
	a.TxDelay, b.Persist, c.Slot, d.Tail = n, n, n, n
	return []Params{a, b, c, d}
}

// wrong are parameters that aren't right.
func wrong() []Params {
	var l []Params
	for _, n := range outside {
		for _, p := range []Params{{2, 63, 1, 1, false}, {}, {255, 255, 255, 255, true}} {
			l = append(l, with(p, n)...)
		}
		l = append(l, Params{n, n, n, n, true})
	}
	return append(l, Params{-1, 1, 0, 0, false}, Params{256, -256, 256, -256, false})
}

// model is what the document says of a frame, for right parameters.
func model(p Params, f kiss.Frame) (Params, api.Errno) {
	if f.Port < 0 || f.Port > 15 || f.Command < 0 || f.Command > 15 {
		return p, api.ErrForm
	}
	if f.Command == 15 && f.Port != 15 {
		return p, api.ErrForm
	}
	if f.Command >= 7 && f.Command <= 14 {
		return p, api.ErrNone
	}
	if f.Command >= 1 && f.Command <= 5 && len(f.Data) == 0 {
		return p, api.ErrShort
	}
	switch f.Command {
	case 1:
		p.TxDelay = int(f.Data[0])
	case 2:
		p.Persist = int(f.Data[0])
	case 3:
		p.Slot = int(f.Data[0])
	case 4:
		p.Tail = int(f.Data[0])
	case 5:
		p.Full = f.Data[0] > 0
	}
	return p, api.OK
}

func wantApply(t *testing.T, p Params, f kiss.Frame, want Params, e api.Errno) {
	t.Helper()
	if q, got := Apply(p, f); q != want || got != e {
		t.Errorf("%v, %#v: %v, %d; want %v, %d", p, f, q, got, want, e)
	}
}

// P3.1: the usual ones.
func TestP31Usual(t *testing.T) {
	want := Params{TxDelay: 2, Persist: 63, Slot: 1, Tail: 1, Full: false}
	p := Usual()
	if p != want || !Right(p) {
		t.Errorf("%v", p)
	}
	p.Slot, p.Full = 9, true
	if Usual() != want {
		t.Errorf("%v", Usual())
	}
}

// P3.1: they are right if all numbers are from 0 to 255, Full or not.
func TestP31Right(t *testing.T) {
	for _, p := range some() {
		if !Right(p) {
			t.Errorf("%v isn't right", p)
		}
	}
	for n := 0; n <= 255; n++ {
		for _, p := range with(Usual(), n) {
			if !Right(p) {
				t.Errorf("%v isn't right", p)
			}
		}
	}
	for _, p := range wrong() {
		if Right(p) {
			t.Errorf("%v is right", p)
		}
	}
}

// P3.1: the document's example, and others by hand.
func TestP31ApplyKnown(t *testing.T) {
	p := Params{2, 63, 1, 1, false}
	for _, c := range []struct {
		f    kiss.Frame
		want Params
	}{
		{kiss.Frame{Command: 2, Data: "\xff"}, Params{2, 255, 1, 1, false}},
		{kiss.Frame{Command: 1, Data: "\x09"}, Params{9, 63, 1, 1, false}},
		{kiss.Frame{Command: 1, Data: "\x00"}, Params{0, 63, 1, 1, false}},
		{kiss.Frame{Command: 2, Data: "\x00"}, Params{2, 0, 1, 1, false}},
		{kiss.Frame{Command: 3, Data: "\x80"}, Params{2, 63, 128, 1, false}},
		{kiss.Frame{Command: 4, Data: "A"}, Params{2, 63, 1, 65, false}},
		{kiss.Frame{Command: 5, Data: "\x01"}, Params{2, 63, 1, 1, true}},
		{kiss.Frame{Command: 5, Data: "\x80"}, Params{2, 63, 1, 1, true}},
		{kiss.Frame{Command: 5, Data: "\x00\x01"}, p},
		{kiss.Frame{Port: 15, Command: 4, Data: "\x07\x08\x09"}, Params{2, 63, 1, 7, false}},
		{kiss.Frame{Command: 0, Data: "\x09"}, p},
		{kiss.Frame{Command: 6, Data: "\x09"}, p},
		{kiss.Frame{Port: 15, Command: 15, Data: "\x09"}, p},
	} {
		wantApply(t, p, c.f, c.want, api.OK)
	}
	wantApply(t, Params{9, 8, 7, 6, true}, kiss.Frame{Command: 5, Data: "\x00"}, Params{9, 8, 7, 6, false}, api.OK)
	for draw := 0; draw < 256; draw++ {
		if q, _ := Apply(p, kiss.Frame{Command: 2, Data: "\xff"}); !Wins(q, draw) {
			t.Errorf("%d doesn't win", draw)
		}
	}
}

// P3.1: every port and command, of any bytes or none; the first byte counts alone, whatever stands behind it.
func TestP31ApplyAll(t *testing.T) {
	var datas []string
	for c := 0; c < 256; c++ {
		datas = append(datas, string([]byte{byte(c)}))
	}
	datas = append(datas, "", "\x00\x00", "\x00rest", "\x01\x00", "\xc0\xdb\xdc\xdd", strings.Repeat("\x05", 5000))
	for _, p := range some() {
		for port := 0; port <= 15; port++ {
			for command := 0; command <= 15; command++ {
				for _, s := range datas {
					f := kiss.Frame{Port: port, Command: command, Data: s}
					want, e := model(p, f)
					if q, got := Apply(p, f); q != want || got != e {
						t.Fatalf("%v, %d, %d, %.20q: %v, %d; want %v, %d", p, port, command, s, q, got, want, e)
					}
				}
			}
		}
	}
}

// P3.1: a port or a command outside 0 .. 15 is refused, never taken modulo, and the parameters stay as they are.
func TestP31ApplyForm(t *testing.T) {
	for _, p := range some() {
		for _, n := range noHalf {
			for k := 0; k <= 15; k++ {
				for _, s := range []string{"", "\x00", "\x09x"} {
					wantApply(t, p, kiss.Frame{Port: n, Command: k, Data: s}, p, api.ErrForm)
					wantApply(t, p, kiss.Frame{Port: k, Command: n, Data: s}, p, api.ErrForm)
				}
			}
			wantApply(t, p, kiss.Frame{Port: n, Command: n, Data: "\x09"}, p, api.ErrForm)
		}
	}
}

// P3.1: 15 is the end with Port 15 alone, with data or none.
func TestP31ApplyEnd(t *testing.T) {
	for _, p := range some() {
		for _, s := range []string{"", "\x00", "\x09x"} {
			for port := 0; port < 15; port++ {
				wantApply(t, p, kiss.Frame{Port: port, Command: 15, Data: s}, p, api.ErrForm)
			}
			wantApply(t, p, kiss.Frame{Port: 15, Command: 15, Data: s}, p, api.OK)
		}
	}
}

// P3.1: no data is too short for the commands that set something, and for no other; 7 to 14 are nothing, with data or none.
func TestP31ApplyData(t *testing.T) {
	p := Params{9, 8, 7, 6, true}
	for command, e := range []api.Errno{0: api.OK, 1: api.ErrShort, 2: api.ErrShort, 3: api.ErrShort, 4: api.ErrShort, 5: api.ErrShort, 6: api.OK} {
		wantApply(t, p, kiss.Frame{Command: command}, p, e)
		wantApply(t, p, kiss.Frame{Port: 15, Command: command}, p, e)
	}
	for command := 7; command <= 14; command++ {
		wantApply(t, p, kiss.Frame{Command: command}, p, api.ErrNone)
		wantApply(t, p, kiss.Frame{Port: 15, Command: command, Data: "\x01"}, p, api.ErrNone)
	}
}

// P3.1: of parameters that aren't right ErrArg comes ahead of all else, and they stay as they are: no frame mends them.
func TestP31ApplyArg(t *testing.T) {
	frames := []kiss.Frame{{}, {Port: 16}, {Command: -1}, {Port: 16, Command: 16}, {Command: 15}, {Port: 15, Command: 15}}
	for command := 0; command <= 15; command++ {
		frames = append(frames, kiss.Frame{Command: command}, kiss.Frame{Port: 15, Command: command, Data: "\x09"})
	}
	for _, p := range wrong() {
		for _, f := range frames {
			wantApply(t, p, f, p, api.ErrArg)
		}
	}
}

// rising are frames of a port, the first one's command 1, the next one's 2, and so on.
func rising(port int, datas ...string) []kiss.Frame {
	var l []kiss.Frame
	for i, s := range datas {
		l = append(l, kiss.Frame{Port: port, Command: 1 + i, Data: s})
	}
	return l
}

// P3.1: five frames, the commands rising, a byte each.
func TestP31FramesKnown(t *testing.T) {
	for _, c := range []struct {
		port int
		p    Params
		want []kiss.Frame
	}{
		{0, Params{2, 63, 1, 1, false}, rising(0, "\x02", "?", "\x01", "\x01", "\x00")},
		{3, Params{10, 11, 12, 13, false}, rising(3, "\n", "\v", "\f", "\r", "\x00")},
		{15, Params{255, 192, 0, 128, false}, rising(15, "\xff", "\xc0", "\x00", "\x80", "\x00")},
	} {
		if got := Frames(c.port, c.p); !slices.Equal(got, c.want) {
			t.Errorf("%d, %v: %#v; want %#v", c.port, c.p, got, c.want)
		}
	}
}

// P3.1: applied to any right parameters, in their order, the frames of each port make them p.
func TestP31FramesMake(t *testing.T) {
	for _, p := range some() {
		for port := 0; port <= 15; port++ {
			l := Frames(port, p)
			if len(l) != 5 {
				t.Fatalf("%d, %v: %d frames", port, p, len(l))
			}
			for i, f := range l {
				if f.Port != port || f.Command != 1+i || f.Data == "" {
					t.Errorf("%d, %v: frame %d is %#v", port, p, i, f)
				}
			}
			for _, q := range some() {
				wantMakes(t, q, l, p)
			}
		}
	}
}

func wantMakes(t *testing.T, q Params, l []kiss.Frame, want Params) {
	t.Helper()
	from := q
	for _, f := range l {
		var e api.Errno
		if q, e = Apply(q, f); e != api.OK {
			t.Fatalf("%v, %#v: %d", q, f, e)
		}
	}
	if q != want {
		t.Fatalf("%v became %v; want %v", from, q, want)
	}
}

// P3.1: so they do when they come by layer 2's bytes.
func TestP31FramesByKiss(t *testing.T) {
	for i, p := range some() {
		d := kiss.New(400)
		var told []kiss.Frame
		for _, f := range Frames(i%16, p) {
			s, e := kiss.Encode(f)
			if e != api.OK {
				t.Fatalf("%#v: %d", f, e)
			}
			told = append(told, d.Feed(s)...)
		}
		wantMakes(t, Usual(), told, p)
	}
}

// P3.1: none, if the parameters aren't right, or the port is outside 0 .. 15.
func TestP31FramesNone(t *testing.T) {
	for _, p := range wrong() {
		for _, port := range []int{0, 1, 15, 16, -1} {
			if l := Frames(port, p); l != nil {
				t.Errorf("%d, %v: %#v", port, p, l)
			}
		}
	}
	for _, port := range noHalf {
		for _, p := range some() {
			if l := Frames(port, p); l != nil {
				t.Errorf("%d, %v: %#v", port, p, l)
			}
		}
	}
}

// P3.1: what is answered is new at each call.
func TestP31NothingShared(t *testing.T) {
	p := Params{9, 8, 7, 6, true}
	l := Frames(3, p)
	want := slices.Clone(l)
	for i := range l {
		l[i] = kiss.Frame{}
	}
	_ = append(l[:0], kiss.Frame{Port: 1})
	if got := Frames(3, p); !slices.Equal(got, want) {
		t.Errorf("%#v; want %#v", got, want)
	}
	wantMakes(t, Usual(), Frames(3, p), p)
}

// P3.1: each draw from 0 to 255 wins if it is at most Persist; others count modulo 256, those below 0 too.
func TestP31Wins(t *testing.T) {
	for persist := 0; persist <= 255; persist++ {
		p := Params{Persist: persist, TxDelay: 255 - persist, Full: persist%2 == 0}
		for draw := 0; draw <= 255; draw++ {
			want := draw <= persist
			for _, d := range []int{draw, draw + 256, draw - 256, draw + 1<<40, draw - 1<<40, math.MaxInt - 255 + draw, math.MinInt + draw} {
				if Wins(p, d) != want {
					t.Fatalf("Persist %d, draw %d: %t", persist, d, !want)
				}
			}
		}
	}
}

// P3.1: known draws, about the edges.
func TestP31WinsKnown(t *testing.T) {
	for draw, want := range map[int]bool{0: true, 63: true, 64: false, 255: false, 256: true, 319: true, 320: false, -1: false, -192: false, -193: true, -256: true, -257: false} {
		if Wins(Usual(), draw) != want {
			t.Errorf("draw %d: %t", draw, !want)
		}
	}
	none, all := Params{Persist: 0}, Params{Persist: 255}
	if !Wins(none, 0) || Wins(none, 1) || Wins(none, 255) || !Wins(all, 0) || !Wins(all, 255) || !Wins(all, -1) {
		t.Error("the edges of Persist")
	}
}

// P3.1: of parameters that aren't right no draw wins, whichever number it is.
func TestP31WinsWrong(t *testing.T) {
	for _, p := range wrong() {
		for draw := -256; draw <= 256; draw++ {
			if Wins(p, draw) {
				t.Fatalf("%v: %d wins", p, draw)
			}
		}
	}
	for _, p := range []Params{{TxDelay: 256, Persist: 255}, {Slot: -1, Persist: 255}, {Tail: 256, Persist: 255}, {Persist: 256}, {Persist: -1}} {
		if Wins(p, 0) {
			t.Errorf("%v: 0 wins", p)
		}
	}
}
