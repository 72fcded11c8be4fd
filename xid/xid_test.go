package xid

import (
	"fmt"
	"math"
	"math/rand"
	"strconv"
	"strings"
	"testing"

	"squelch/api"
)

// bools are both.
var bools = []bool{false, true}

// begin is how the bytes of parameters begin.
const begin = "\x82\x80"

// usual is the usual parameters, by the document.
var usual = Params{N1: 64, K: 4, T1: 20, N2: 5}

// outside are numbers that no parameter may be.
var outside = []int{0, -1, -16, -64, 257, 511, 1 << 16, 1<<16 + 64, 1 << 32, 1<<32 + 16, -1 << 32, math.MaxInt, math.MinInt}

// greatest is the greatest K, by the document.
func greatest(wide, srej bool) int {
	return map[[2]bool]int{{false, false}: 7, {false, true}: 4, {true, false}: 63, {true, true}: 32}[[2]bool{wide, srej}]
}

// modelRight is what the document says of right ones.
func modelRight(p Params) bool {
	if p.N1 < 16 || p.N1 > 256 || p.T1 < 4 || p.T1 > 255 || p.N2 < 1 || p.N2 > 15 {
		return false
	}
	return p.K >= 1 && p.K <= greatest(p.Wide, p.Srej)
}

// some are right parameters: each number at its edges and between, with all that can be done.
func some() []Params {
	var l []Params
	for _, wide := range bools {
		for _, srej := range bools {
			for _, n1 := range []int{16, 17, 64, 255, 256} {
				for _, k := range []int{1, 2, 4, 7, 32, 63} {
					for _, t1 := range []int{4, 20, 255} {
						for _, n2 := range []int{1, 5, 15} {
							l = append(l, Params{wide, srej, n1, min(k, greatest(wide, srej)), t1, n2})
						}
					}
				}
			}
		}
	}
	return append(l, usual, random(1), random(2), random(3), random(4))
}

// random is right parameters that hang on a seed.
func random(seed int64) Params {
	r := rand.New(rand.NewSource(seed))
	p := Params{Wide: r.Intn(2) == 1, Srej: r.Intn(2) == 1, N1: 16 + r.Intn(241), T1: 4 + r.Intn(252), N2: 1 + r.Intn(15)}
	p.K = 1 + r.Intn(greatest(p.Wide, p.Srej))
	return p
}

// with are p with one number each that is n.
func with(p Params, n int) []Params {
	a, b, c, d := p, p, p, p
	a.N1, b.K, c.T1, d.N2 = n, n, n, n
	return []Params{a, b, c, d}
}

// wrong are parameters that aren't right.
func wrong() []Params {
	l := []Params{{}, {Wide: true, Srej: true}}
	for _, wide := range bools {
		for _, srej := range bools {
			p := usual
			p.Wide, p.Srej = wide, srej
			for _, n := range outside {
				l = append(l, with(p, n)...)
			}
			one := with(p, 15)[0]
			two, three, four := with(p, greatest(wide, srej)+1)[1], with(p, 3)[2], with(p, 16)[3]
			l = append(l, one, two, three, four, with(p, 256)[2], with(p, 256)[1])
		}
	}
	return l
}

// P8.1: the usual ones, and they are right.
func TestP81Usual(t *testing.T) {
	p := Usual()
	if p != usual || !Right(p) {
		t.Errorf("%+v", p)
	}
	p.K, p.Wide = 9, true
	if Usual() != usual {
		t.Errorf("%+v", Usual())
	}
}

// P8.1: the greatest K.
func TestP81Most(t *testing.T) {
	for _, wide := range bools {
		for _, srej := range bools {
			if n := Most(wide, srej); n != greatest(wide, srej) {
				t.Errorf("%t, %t: %d", wide, srej, n)
			}
		}
	}
}

// P8.1: they are right if each number is within its range, K within that of Wide and Srej.
func TestP81Right(t *testing.T) {
	for _, p := range some() {
		if !Right(p) {
			t.Errorf("%+v isn't right", p)
		}
		for n := -3; n <= 300; n++ {
			for _, q := range with(p, n) {
				if Right(q) != modelRight(q) {
					t.Fatalf("%+v: %t", q, !modelRight(q))
				}
			}
		}
	}
	for _, p := range wrong() {
		if Right(p) {
			t.Errorf("%+v is right", p)
		}
	}
}

// P8.1: the edges of each range, by hand.
func TestP81RightKnown(t *testing.T) {
	for _, c := range []struct {
		p    Params
		want bool
	}{
		{Params{false, false, 16, 1, 4, 1}, true},
		{Params{false, false, 256, 7, 255, 15}, true},
		{Params{false, false, 64, 8, 20, 5}, false},
		{Params{false, true, 64, 4, 20, 5}, true},
		{Params{false, true, 64, 5, 20, 5}, false},
		{Params{true, false, 64, 63, 20, 5}, true},
		{Params{true, false, 64, 64, 20, 5}, false},
		{Params{true, true, 64, 32, 20, 5}, true},
		{Params{true, true, 64, 33, 20, 5}, false},
		{Params{true, true, 64, 0, 20, 5}, false},
		{Params{false, false, 15, 1, 4, 1}, false},
		{Params{false, false, 257, 1, 4, 1}, false},
		{Params{false, false, 16, 1, 3, 1}, false},
		{Params{false, false, 16, 1, 256, 1}, false},
		{Params{false, false, 16, 1, 4, 0}, false},
		{Params{false, false, 16, 1, 4, 16}, false},
	} {
		if Right(c.p) != c.want {
			t.Errorf("%+v: %t", c.p, !c.want)
		}
	}
}

// modelPut is the bytes of right parameters, written as the document lists them.
func modelPut(p Params) string {
	able := 0
	if p.Wide {
		able += 2
	}
	if p.Srej {
		able += 4
	}
	l := []int{130, 128, 0, 17, 3, 2, able, 0, 6, 2, p.N1 / 256, p.N1 % 256, 8, 1, p.K, 9, 1, p.T1, 10, 1, p.N2}
	var b []byte
	for _, n := range l {
		b = append(b, byte(n))
	}
	return string(b)
}

func wantPut(t *testing.T, p Params, want string, e api.Errno) {
	t.Helper()
	if s, got := Put(p); s != want || got != e {
		t.Errorf("%+v: %q, %d; want %q, %d", p, s, got, want, e)
	}
}

func wantGet(t *testing.T, s string, want Params, e api.Errno) {
	t.Helper()
	if p, got := Get(s); p != want || got != e {
		t.Errorf("%.80q: %+v, %d; want %+v, %d", s, p, got, want, e)
	}
}

// P8.1: the document's example, and other bytes by hand.
func TestP81PutKnown(t *testing.T) {
	s, e := Put(Usual())
	if len(s) != 21 || s[3] != 17 || e != api.OK {
		t.Errorf("%q, %d", s, e)
	}
	wantPut(t, usual, begin+"\x00\x11\x03\x02\x00\x00\x06\x02\x00\x40\x08\x01\x04\x09\x01\x14\x0a\x01\x05", api.OK)
	wantPut(t, Params{true, false, 255, 63, 255, 15}, begin+"\x00\x11\x03\x02\x02\x00\x06\x02\x00\xff\x08\x01\x3f\x09\x01\xff\x0a\x01\x0f", api.OK)
	wantPut(t, Params{false, true, 256, 1, 4, 1}, begin+"\x00\x11\x03\x02\x04\x00\x06\x02\x01\x00\x08\x01\x01\x09\x01\x04\x0a\x01\x01", api.OK)
	wantPut(t, Params{true, true, 16, 32, 128, 8}, begin+"\x00\x11\x03\x02\x06\x00\x06\x02\x00\x10\x08\x01\x20\x09\x01\x80\x0a\x01\x08", api.OK)
}

// P8.1: all right parameters have their bytes, and are got from these again; others have none.
func TestP81PutGet(t *testing.T) {
	for _, p := range some() {
		wantPut(t, p, modelPut(p), api.OK)
		wantGet(t, modelPut(p), p, api.OK)
		for n := range 260 {
			for _, q := range with(p, n) {
				if modelRight(q) {
					wantPut(t, q, modelPut(q), api.OK)
					wantGet(t, modelPut(q), q, api.OK)
				} else {
					wantPut(t, q, "", api.ErrArg)
				}
			}
		}
	}
	for _, p := range wrong() {
		wantPut(t, p, "", api.ErrArg)
	}
}

// told is the bytes that begin as they are to, tell how many follow, and have these fields.
func told(fields ...string) string {
	s := strings.Join(fields, "")
	return begin + string([]byte{byte(len(s) >> 8), byte(len(s))}) + s
}

// P8.1: what isn't there is as usual; what is there may come in any order; unknown numbers are passed over.
func TestP81GetKnown(t *testing.T) {
	for _, c := range []struct {
		s    string
		want Params
	}{
		{told(), usual},
		{told("\x03\x02\x00\x00"), usual},
		{told("\x03\x02\x02\x00"), Params{true, false, 64, 4, 20, 5}},
		{told("\x03\x02\x04\x00"), Params{false, true, 64, 4, 20, 5}},
		{told("\x03\x02\x06\x00"), Params{true, true, 64, 4, 20, 5}},
		{told("\x06\x02\x00\x10"), Params{false, false, 16, 4, 20, 5}},
		{told("\x06\x02\x01\x00"), Params{false, false, 256, 4, 20, 5}},
		{told("\x08\x01\x07"), Params{false, false, 64, 7, 20, 5}},
		{told("\x09\x01\x04"), Params{false, false, 64, 4, 4, 5}},
		{told("\x09\x01\xff"), Params{false, false, 64, 4, 255, 5}},
		{told("\x0a\x01\x0f"), Params{false, false, 64, 4, 20, 15}},
		{told("\x0a\x01\x01", "\x09\x01\x09", "\x08\x01\x3f", "\x06\x02\x00\x7f", "\x03\x02\x02\x00"), Params{true, false, 127, 63, 9, 1}},
		{told("\x08\x01\x20", "\x03\x02\x06\x00"), Params{true, true, 64, 32, 20, 5}},
		{told("\x00\x00", "\x08\x01\x06", "\x63\x05\x08\x01\x07\x08\x01"), Params{false, false, 64, 6, 20, 5}},
		{told("\x02\x02\x00\x00", "\x01\x00", "\x04\x01\x00", "\x05\x02\x08\x00", "\x07\x01\x09", "\x0b\x01\x01", "\xff\x00"), usual},
		{told("\x83\x02\x06\x00", "\x86\x02\x00\x20", "\x88\x01\x01", "\x89\x01\x08", "\x8a\x01\x02"), usual},
		{told("\x82\x80" + strings.Repeat("x", 128)), usual},
		{told("\x42\xff"+strings.Repeat("y", 255), "\x08\x01\x03"), Params{false, false, 64, 3, 20, 5}},
	} {
		wantGet(t, c.s, c.want, api.OK)
	}
}

// P8.1: fewer than four bytes are short, whatever they are; then the beginning counts, ahead of how many follow.
func TestP81GetBegin(t *testing.T) {
	for _, s := range []string{"", "\x82", begin, begin + "\x00", "x", "xyz", "\x00\x00\x00", "\x80\x82\x00"} {
		wantGet(t, s, Params{}, api.ErrShort)
	}
	for c := range 256 {
		b := string([]byte{byte(c)})
		if c != 130 {
			wantGet(t, b+"\x80\x00\x00", Params{}, api.ErrForm)
			wantGet(t, b+"\x80\x00\x09", Params{}, api.ErrForm)
		}
		if c != 128 {
			wantGet(t, "\x82"+b+"\x00\x00", Params{}, api.ErrForm)
			wantGet(t, "\x82"+b+"\x00\x09\x08", Params{}, api.ErrForm)
		}
	}
}

// P8.1: fewer bytes than told are short, more are none, ahead of what they say.
func TestP81GetLength(t *testing.T) {
	fields := modelPut(random(1))[4:]
	for n := range 700 {
		s := begin + string([]byte{byte(n >> 8), byte(n)}) + fields
		switch {
		case n > 17:
			wantGet(t, s, Params{}, api.ErrShort)
		case n < 17:
			wantGet(t, s, Params{}, api.ErrForm)
		}
	}
	wantGet(t, begin+"\x00\x04\x08\x02\x00", Params{}, api.ErrShort) // a length that K never has, but fewer bytes
	wantGet(t, begin+"\x00\x02\x08\x01\x01", Params{}, api.ErrForm)  // the field goes on, but more bytes
	wantGet(t, begin+"\x00\x00"+fields, Params{}, api.ErrForm)
	wantGet(t, begin+"\x11\x00"+fields, Params{}, api.ErrShort) // the highest byte is the first one
	wantGet(t, begin+"\xff\xff", Params{}, api.ErrShort)
}

// P8.1: bodies of as many bytes as two can tell.
func TestP81GetLong(t *testing.T) {
	var l []string
	for c := 11; c < 256; c++ {
		l = append(l, string([]byte{byte(c), 255})+strings.Repeat("z", 255))
	}
	wantGet(t, told(append(l, "\x08\x01\x03")...), Params{false, false, 64, 3, 20, 5}, api.OK)
	long := told(append(l, "\x00\xff"+strings.Repeat("q", 255), "\x01\xff"+strings.Repeat("q", 255), "\x02\xff"+strings.Repeat("q", 255))...)
	wantGet(t, long, usual, api.OK)
	wantGet(t, long+"x", Params{}, api.ErrForm)
	wantGet(t, long[:len(long)-1], Params{}, api.ErrShort)
	full := begin + "\xff\xff" + strings.Repeat("\x63\x01x", 21845)
	wantGet(t, full, Params{}, api.ErrForm)
	wantGet(t, full+"x", Params{}, api.ErrForm)
}

// P8.1: a number that ends within its bytes is short: at its number, or within what it has.
func TestP81GetFieldShort(t *testing.T) {
	for _, whole := range []string{"\x03\x02\x02\x00", "\x06\x02\x00\x40", "\x08\x01\x04", "\x09\x01\x14", "\x0a\x01\x05", "\x63\x03abc"} {
		for n := 1; n < len(whole); n++ {
			wantGet(t, told(whole[:n]), Params{}, api.ErrShort)
			wantGet(t, told("\x62\x01x", whole[:n]), Params{}, api.ErrShort)
		}
	}
	wantGet(t, told("\x63\xff"+strings.Repeat("x", 254)), Params{}, api.ErrShort)
}

// P8.1: nothing is there twice, whatever it says, not even an unknown number.
func TestP81GetTwice(t *testing.T) {
	for c := range 256 {
		for _, bytes := range []string{"", "\x04", "\x00\x40", "abc"} {
			f := string([]byte{byte(c), byte(len(bytes))}) + bytes
			_, e := Get(told(f))
			for _, between := range []string{"", "\x62\x00"} {
				if c != 0x62 || between == "" {
					wantGet(t, told(f, between, f), Params{}, api.ErrForm)
				}
			}
			if known := strings.Contains("\x03\x06\x08\x09\x0a", string(rune(c))); !known && e != api.OK {
				t.Errorf("%q: %d", f, e)
			}
		}
	}
	wantGet(t, told("\x63\x01a", "\x63\x00"), Params{}, api.ErrForm)
	wantGet(t, told("\x63\x00", "\x63\x02ab"), Params{}, api.ErrForm)
	wantGet(t, told("\x08\x01\x04", "\x08\x01\x05"), Params{}, api.ErrForm)
}

// P8.1: a known number has its own length, and no other one.
func TestP81GetFieldLength(t *testing.T) {
	sizes := map[int]int{3: 2, 6: 2, 8: 1, 9: 1, 10: 1}
	for c, size := range sizes {
		for n := range 256 {
			f := string([]byte{byte(c), byte(n)}) + strings.Repeat("\x00", n)
			if n != size {
				wantGet(t, told(f), Params{}, api.ErrForm)
			}
		}
		five := string([]byte{byte(c), byte(size + 1)}) + strings.Repeat("\x00", size) + "\x05"
		wantGet(t, told(five), Params{}, api.ErrForm)
	}
}

// P8.1: of what can be done all but two bits are none.
func TestP81GetAble(t *testing.T) {
	for a := range 256 {
		for b := range 256 {
			s := told("\x03\x02" + string([]byte{byte(a), byte(b)}))
			if a&^6 != 0 || b != 0 {
				wantGet(t, s, Params{}, api.ErrForm)
				continue
			}
			p := usual
			p.Wide, p.Srej = a&2 != 0, a&4 != 0
			wantGet(t, s, p, api.OK)
		}
	}
}

// P8.1: what isn't right together is refused, with the usual ones for what isn't there.
func TestP81GetTogether(t *testing.T) {
	for _, s := range []string{
		"\x06\x02\x00\x0f", "\x06\x02\x01\x01", "\x06\x02\xff\xff", "\x06\x02\x40\x00", "\x08\x01\x00", "\x08\x01\x08", "\x09\x01\x03", "\x09\x01\x00", "\x0a\x01\x00", "\x0a\x01\x10",
		"\x03\x02\x04\x00\x08\x01\x05", "\x08\x01\x05\x03\x02\x04\x00", "\x03\x02\x02\x00\x08\x01\x40", "\x03\x02\x06\x00\x08\x01\x21", "\x08\x01\xff\x03\x02\x06\x00",
	} {
		wantGet(t, told(s), Params{}, api.ErrForm)
	}
	for n := range 1 << 16 {
		high, low := byte(n>>8), byte(n)
		if p, e := Get(told("\x06\x02" + string([]byte{high, low}))); (e == api.OK) != (n >= 16 && n <= 256) || e == api.OK && p.N1 != n {
			t.Fatalf("N1 %d: %+v, %d", n, p, e)
		}
	}
}

// P8.1: number by number, from the left: the first fault is told; whether they are right together comes last.
func TestP81GetOrder(t *testing.T) {
	for _, c := range []struct {
		fields string
		e      api.Errno
	}{
		{"\x03\x02\x01\x00" + "\x08", api.ErrForm},
		{"\x03\x02\x00\x01" + "\x08\x01", api.ErrForm},
		{"\x08\x02\x00\x04" + "\x09", api.ErrForm},
		{"\x63\x00\x63\x00" + "\x09", api.ErrForm},
		{"\x08\x01\x00" + "\x09", api.ErrShort},
		{"\x06\x02\xff\xff" + "\x09\x01", api.ErrShort},
		{"\x63\x00" + "\x63", api.ErrShort},
		{"\x08\x01\x04" + "\x08\x01", api.ErrShort},
		{"\x08\x02\x04", api.ErrShort},
		{"\x03\x02\x01", api.ErrShort},
		{"\x03\x03\x01\x00", api.ErrShort},
	} {
		wantGet(t, told(c.fields), Params{}, c.e)
	}
}

// modelFields is what the document says of fields, from the left.
func modelFields(b []byte) (Params, api.Errno) {
	p, seen := usual, [256]bool{}
	for len(b) > 0 {
		if len(b) < 2 {
			return Params{}, api.ErrShort
		}
		c, n := int(b[0]), int(b[1])
		if len(b) < 2+n {
			return Params{}, api.ErrShort
		}
		v := b[2 : 2+n]
		if seen[c] {
			return Params{}, api.ErrForm
		}
		seen[c] = true
		if (c == 3 || c == 6) && n != 2 || (c == 8 || c == 9 || c == 10) && n != 1 {
			return Params{}, api.ErrForm
		}
		switch c {
		case 3:
			if v[0] != 0 && v[0] != 2 && v[0] != 4 && v[0] != 6 || v[1] != 0 {
				return Params{}, api.ErrForm
			}
			p.Wide, p.Srej = v[0] == 2 || v[0] == 6, v[0] >= 4
		case 6:
			p.N1 = int(v[0])*256 + int(v[1])
		case 8:
			p.K = int(v[0])
		case 9:
			p.T1 = int(v[0])
		case 10:
			p.N2 = int(v[0])
		}
		b = b[2+n:]
	}
	if !modelRight(p) {
		return Params{}, api.ErrForm
	}
	return p, api.OK
}

// modelGet is what the document says of bytes.
func modelGet(s string) (Params, api.Errno) {
	b := []byte(s)
	if len(b) < 4 {
		return Params{}, api.ErrShort
	}
	if b[0] != 130 || b[1] != 128 {
		return Params{}, api.ErrForm
	}
	n := int(b[2])*256 + int(b[3])
	if len(b)-4 < n {
		return Params{}, api.ErrShort
	}
	if len(b)-4 > n {
		return Params{}, api.ErrForm
	}
	return modelFields(b[4:])
}

// P8.1: every cut of the bytes, and each byte spoilt to each other one.
func TestP81GetSpoilt(t *testing.T) {
	for seed := range 12 {
		s := modelPut(random(int64(seed)))
		for n := range len(s) {
			wantGet(t, s[:n], Params{}, api.ErrShort)
			if n >= 4 {
				cut := told(s[4:n])
				p, e := modelGet(cut)
				wantGet(t, cut, p, e)
			}
		}
		for i := range len(s) {
			for c := range 256 {
				b := []byte(s)
				b[i] = byte(c)
				p, e := modelGet(string(b))
				wantGet(t, string(b), p, e)
			}
		}
	}
}

// P8.1: all short bodies of the bytes that matter, and many random lists of fields.
func TestP81GetModel(t *testing.T) {
	letters := "\x00\x01\x02\x03\x04\x06\x08\x09\x0a"
	var walk func(s string, more int)
	walk = func(s string, more int) {
		p, e := modelGet(told(s))
		wantGet(t, told(s), p, e)
		for i := range len(letters) {
			if more > 0 {
				walk(s+letters[i:i+1], more-1)
			}
		}
	}
	walk("", 5)
	r := rand.New(rand.NewSource(8))
	got := map[api.Errno]int{}
	for range 60000 {
		s := told(randomFields(r))
		p, e := modelGet(s)
		wantGet(t, s, p, e)
		got[e]++
	}
	if got[api.OK] < 1000 || got[api.ErrShort] < 1000 || got[api.ErrForm] < 1000 {
		t.Errorf("the model says %v", got)
	}
}

// randomFields is fields of which most are as they are to be.
func randomFields(r *rand.Rand) string {
	var b []byte
	for range r.Intn(6) {
		c := []int{3, 6, 8, 9, 10, 99, 2}[r.Intn(7)]
		switch c {
		case 3:
			b = append(b, 3, 2, byte(2*r.Intn(4)), 0)
		case 6:
			b = append(b, 6, 2, 0, byte(r.Intn(256)))
		case 99, 2:
			b = append(b, byte(c), 2, byte(r.Intn(12)), byte(r.Intn(3)))
		default:
			b = append(b, byte(c), 1, byte(1+r.Intn(12)))
		}
	}
	switch r.Intn(4) {
	case 0:
		b = b[:len(b)-min(len(b), 1+r.Intn(2))]
	case 1:
		if len(b) > 0 {
			b[r.Intn(len(b))] = byte(r.Intn(12))
		}
	}
	return string(b)
}

// P8.1: what is agreed is the same whoever asks, is right, and is what the document says.
func TestP81Agree(t *testing.T) {
	l := some()
	for i, a := range l {
		for j := i % 5; j < len(l); j += 5 {
			b := l[j]
			want := Params{a.Wide && b.Wide, a.Srej && b.Srej, least(a.N1, b.N1), least(a.K, b.K), -least(-a.T1, -b.T1), least(a.N2, b.N2)}
			want.K = least(want.K, greatest(want.Wide, want.Srej))
			p, e := Agree(a, b)
			q, f := Agree(b, a)
			if p != want || e != api.OK || q != p || f != e || !Right(p) {
				t.Fatalf("%+v, %+v: %+v, %d and %+v, %d; want %+v", a, b, p, e, q, f, want)
			}
		}
		if p, e := Agree(a, a); p != a || e != api.OK {
			t.Errorf("%+v with itself: %+v, %d", a, p, e)
		}
	}
}

func least(a, b int) int {
	if a < b {
		return a
	}
	return b
}

// P8.1: agreements by hand.
func TestP81AgreeKnown(t *testing.T) {
	for _, c := range []struct{ a, b, want Params }{
		{usual, usual, usual},
		{Params{true, true, 256, 32, 30, 10}, usual, Params{false, false, 64, 4, 30, 5}},
		{Params{true, true, 256, 32, 30, 10}, Params{true, false, 64, 50, 20, 3}, Params{true, false, 64, 32, 30, 3}},
		{Params{true, false, 16, 63, 255, 15}, Params{false, false, 256, 7, 4, 1}, Params{false, false, 16, 7, 255, 1}},
		{Params{true, true, 100, 32, 4, 2}, Params{false, true, 101, 4, 5, 1}, Params{false, true, 100, 4, 5, 1}},
		{Params{true, false, 100, 63, 4, 2}, Params{false, true, 101, 4, 5, 1}, Params{false, false, 100, 4, 5, 1}},
		{Params{true, true, 16, 1, 4, 1}, Params{true, true, 256, 32, 255, 15}, Params{true, true, 16, 1, 255, 1}},
	} {
		for _, x := range [][2]Params{{c.a, c.b}, {c.b, c.a}} {
			if p, e := Agree(x[0], x[1]); p != c.want || e != api.OK {
				t.Errorf("%+v: %+v, %d; want %+v", x, p, e, c.want)
			}
		}
	}
}

// P8.1: nothing is agreed with what isn't right, on either side, or on both.
func TestP81AgreeWrong(t *testing.T) {
	for _, p := range wrong() {
		for _, q := range []Params{usual, random(1), random(2), p, {}} {
			for _, x := range [][2]Params{{p, q}, {q, p}} {
				if got, e := Agree(x[0], x[1]); got != (Params{}) || e != api.ErrArg {
					t.Errorf("%+v: %+v, %d", x, got, e)
				}
			}
		}
	}
}

// modelText is the words of right parameters.
func modelText(p Params) string {
	s := fmt.Sprintf("N1=%d K=%d T1=%d N2=%d", p.N1, p.K, p.T1, p.N2)
	if p.Srej {
		s = "SREJ " + s
	}
	if p.Wide {
		s = "WIDE " + s
	}
	return s
}

func wantParse(t *testing.T, s string, want Params, e api.Errno) {
	t.Helper()
	if p, got := Parse(s); p != want || got != e {
		t.Errorf("%.80q: %+v, %d; want %+v, %d", s, p, got, want, e)
	}
}

// P8.1: words by hand.
func TestP81TextKnown(t *testing.T) {
	for s, p := range map[string]Params{
		"N1=64 K=4 T1=20 N2=5":               usual,
		"WIDE SREJ N1=256 K=32 T1=30 N2=10":  {true, true, 256, 32, 30, 10},
		"WIDE N1=16 K=63 T1=255 N2=15":       {true, false, 16, 63, 255, 15},
		"SREJ N1=100 K=1 T1=4 N2=1":          {false, true, 100, 1, 4, 1},
		"WIDE SREJ N1=255 K=10 T1=100 N2=15": {true, true, 255, 10, 100, 15},
	} {
		if got := Text(p); got != s {
			t.Errorf("%+v: %q; want %q", p, got, s)
		}
		wantParse(t, s, p, api.OK)
	}
}

// P8.1: all right parameters have words, and are read from these again; others have none.
func TestP81TextParse(t *testing.T) {
	for _, p := range some() {
		s := modelText(p)
		if got := Text(p); got != s {
			t.Errorf("%+v: %q; want %q", p, got, s)
		}
		wantParse(t, s, p, api.OK)
		for n := range 260 {
			for _, q := range with(p, n) {
				if modelRight(q) {
					wantParse(t, modelText(q), q, api.OK)
				} else {
					wantParse(t, modelText(q), Params{}, api.ErrForm)
				}
			}
		}
	}
	for _, p := range wrong() {
		if s := Text(p); s != "" {
			t.Errorf("%+v: %q", p, s)
		}
		wantParse(t, modelText(p), Params{}, api.ErrForm)
	}
}

// P8.1: words that aren't just so are none.
func TestP81ParseWrong(t *testing.T) {
	for _, s := range []string{
		"", " ", "WIDE", "SREJ", "WIDE SREJ", "N1=64", "N1=64 K=4 T1=20", "K=4 T1=20 N2=5", "N1=64 K=4 N2=5",
		" N1=64 K=4 T1=20 N2=5", "N1=64 K=4 T1=20 N2=5 ", "N1=64  K=4 T1=20 N2=5", "N1=64\tK=4 T1=20 N2=5", "N1=64 K=4 T1=20 N2=5\n",
		"n1=64 K=4 T1=20 N2=5", "N1=64 k=4 T1=20 N2=5", "wide N1=64 K=4 T1=20 N2=5", "Wide N1=64 K=4 T1=20 N2=5",
		"SREJ WIDE N1=64 K=4 T1=20 N2=5", "WIDE WIDE N1=64 K=4 T1=20 N2=5", "SREJ SREJ N1=64 K=4 T1=20 N2=5", "N1=64 K=4 T1=20 N2=5 WIDE", "N1=64 WIDE K=4 T1=20 N2=5",
		"WIDE= N1=64 K=4 T1=20 N2=5", "WIDE=1 N1=64 K=4 T1=20 N2=5", "SREJ=0 N1=64 K=4 T1=20 N2=5", "WIDESREJ N1=64 K=4 T1=20 N2=5", "WIDE  SREJ N1=64 K=4 T1=20 N2=5",
		"K=4 N1=64 T1=20 N2=5", "N1=64 K=4 N2=5 T1=20", "N1=64 N1=64 K=4 T1=20 N2=5", "N1=64 K=4 T1=20 N2=5 N2=5", "N1=64 K=3 K=4 T1=20 N2=5", "N1=64 K=4 T1=20 N2=5 X=1", "N1=64 K=4 T1=20 N2=5 X",
		"N1=064 K=4 T1=20 N2=5", "N1=64 K=04 T1=20 N2=5", "N1=+64 K=4 T1=20 N2=5", "N1=64 K=-4 T1=20 N2=5", "N1=64 K=4 T1=0x14 N2=5", "N1=6_4 K=4 T1=20 N2=5", "N1=64. K=4 T1=20 N2=5", "N1=64 K=4 T1=2e1 N2=5",
		"N1= K=4 T1=20 N2=5", "N1 K=4 T1=20 N2=5", "N1==64 K=4 T1=20 N2=5", "N1=64= K=4 T1=20 N2=5", "N1 =64 K=4 T1=20 N2=5", "N1:64 K:4 T1:20 N2:5", "N1=64,K=4,T1=20,N2=5", "N1=６４ K=4 T1=20 N2=5",
		"N1=18446744073709551680 K=4 T1=20 N2=5", "N1=4294967360 K=4 T1=20 N2=5", "N1=64 K=4 T1=20 N2=99999999999999999999", "N1=64 K=4 T1=20 N2=-9223372036854775803", "N1=64 K=4 T1=20 N2=16", "N1=64 K=8 T1=20 N2=5", "SREJ N1=64 K=5 T1=20 N2=5",
		"N1=64 K=4 T1=20 N2=5\x00", "\x00", "\xff", "N1=64\u00a0K=4 T1=20 N2=5", strings.Repeat("WIDE ", 5000), strings.Repeat(" ", 5000), strings.Repeat("N1=64 ", 5000), "N1=" + strings.Repeat("0", 5000) + "64 K=4 T1=20 N2=5",
	} {
		wantParse(t, s, Params{}, api.ErrForm)
	}
}

// P8.1: words with one letter left out, added or altered are those of the parameters whose Text they are, or none.
func TestP81ParseSpoilt(t *testing.T) {
	all := map[string]Params{}
	for _, p := range []Params{usual, {true, true, 99, 19, 199, 11}, {true, false, 128, 63, 4, 1}, {false, true, 16, 4, 255, 15}} {
		for n := range 260 {
			for _, q := range with(p, n) {
				if modelRight(q) {
					all[modelText(q)] = q
				}
			}
		}
		for _, s := range spoilt(modelText(p)) {
			q, is := all[s]
			if is {
				wantParse(t, s, q, api.OK)
			} else {
				wantParse(t, s, Params{}, api.ErrForm)
			}
		}
	}
}

// spoilt are a text with one letter left out, added or altered.
func spoilt(s string) []string {
	var l []string
	letters := "0123456789 =+-WIDESREJNKTx\x00\xff"
	for i := range len(s) + 1 {
		if i < len(s) {
			l = append(l, s[:i]+s[i+1:])
		}
		for j := range len(letters) {
			l = append(l, s[:i]+letters[j:j+1]+s[i:])
			if i < len(s) {
				l = append(l, s[:i]+letters[j:j+1]+s[i+1:])
			}
		}
	}
	return l
}

// P8.1: each word cut anywhere is none, but where its last number is one still.
func TestP81ParseCut(t *testing.T) {
	s := "WIDE SREJ N1=256 K=32 T1=30 N2=15"
	for n := range len(s) {
		want, e := Params{}, api.ErrForm
		if n == len(s)-1 {
			want, e = Params{true, true, 256, 32, 30, 1}, api.OK
		}
		wantParse(t, s[:n], want, e)
	}
	for n := range 20 {
		want, e := Params{true, true, 256, 32, 30, n}, api.OK
		if n < 1 || n > 15 {
			want, e = Params{}, api.ErrForm
		}
		wantParse(t, "WIDE SREJ N1=256 K=32 T1=30 N2="+strconv.Itoa(n), want, e)
	}
}
