package fcs

import (
	"math/rand"
	"strings"
	"testing"
	"unsafe"

	"squelch/api"
)

// slowSum is the sum as the document's words tell it, bit by bit, without a table.
func slowSum(s string) uint16 {
	r := uint16(0xFFFF)
	for i := 0; i < len(s); i++ {
		for b := 0; b < 8; b++ {
			unlike := r&1 != uint16(s[i])>>b&1
			r >>= 1
			if unlike {
				r ^= 0x8408
			}
		}
	}
	return ^r
}

func slowSeal(s string) string {
	sum := slowSum(s)
	return s + string([]byte{byte(sum & 0xFF), byte(sum >> 8)})
}

// slowFix tries each bit.
func slowFix(s string) (string, int, api.Errno) {
	sealed := func(s string) bool { return s == slowSeal(s[:len(s)-2]) }
	if len(s) < 2 {
		return "", -1, api.ErrShort
	}
	if sealed(s) {
		return s[:len(s)-2], -1, api.OK
	}
	if len(s) <= 340 {
		for k := 0; k < 8*len(s); k++ {
			if x := flip(s, k); sealed(x) {
				return x[:len(x)-2], k, api.OK
			}
		}
	}
	return "", -1, api.ErrSum
}

func flip(s string, bits ...int) string {
	b := []byte(s)
	for _, k := range bits {
		b[k/8] ^= 1 << (k % 8)
	}
	return string(b)
}

func noise(r *rand.Rand, n int) string {
	b := make([]byte, n)
	r.Read(b)
	return string(b)
}

// samples are texts of the lengths that matter, all zeros and all ones among them.
func samples() []string {
	r := rand.New(rand.NewSource(1))
	l := []string{"", "\x00", "\xff", "\x00\x00", "\xff\xff", "a", "ab", "123456789", strings.Repeat("\x00", 40), strings.Repeat("\xff", 40)}
	for n := 1; n < 40; n++ {
		l = append(l, noise(r, n))
	}
	for _, n := range []int{255, 256, 257, 330, 331, 337, 338, 339, 340, 341, 700} {
		l = append(l, noise(r, n))
	}
	return l
}

func wantOpen(t *testing.T, x *Table, s, text string, e api.Errno) {
	t.Helper()
	if got, err := x.Open(s); got != text || err != e {
		t.Errorf("Open(%q): %q, %d; want %q, %d", s, got, err, text, e)
	}
}

func wantFix(t *testing.T, x *Table, s, text string, k int, e api.Errno) {
	t.Helper()
	if got, bit, err := x.Fix(s); got != text || bit != k || err != e {
		t.Errorf("Fix(%q): %q, %d, %d; want %q, %d, %d", s, got, bit, err, text, k, e)
	}
}

// P1.1: the table has what eight steps make of a register that holds a byte alone.
func TestP11Table(t *testing.T) {
	x := New()
	if len(x) != 256 || x[0] != 0 || x[1] != 0x1189 || x[128] != 0x8408 || x[255] != 0x0F78 {
		t.Errorf("%x %x %x %x", x[0], x[1], x[128], x[255])
	}
	for b := range x {
		r := uint16(b)
		for i := 0; i < 8; i++ {
			if r&1 == 1 {
				r = r>>1 ^ 0x8408
			} else {
				r >>= 1
			}
		}
		if x[b] != r {
			t.Errorf("%d: %x, want %x", b, x[b], r)
		}
	}
}

// P1.1: a table is its caller's own; what is written into one is not seen in the next.
func TestP11TableIsNew(t *testing.T) {
	x := New()
	x[1] = 0
	if y := New(); y == x || y[1] != 0x1189 {
		t.Error("two tables share memory")
	}
}

// P1.1: known sums, by the document and by the standard.
func TestP11KnownSums(t *testing.T) {
	x := New()
	for s, want := range map[string]uint16{"123456789": 0x906E, "": 0, "\x00": 0xF078, "\xff": 0xFF00, "\xff\xff": 0xFFFF, "A": 0xA3F5} {
		if got := x.Sum(s); got != want || slowSum(s) != want {
			t.Errorf("%q: %x, and bit by bit %x; want %x", s, got, slowSum(s), want)
		}
	}
}

// P1.1: the sum is as the words tell it, and does not hang on how the texts are cut.
func TestP11Sum(t *testing.T) {
	x := New()
	if x.Sum() != 0 || x.Sum("", "") != 0 {
		t.Error(x.Sum(), x.Sum("", ""))
	}
	for _, s := range samples() {
		want := slowSum(s)
		if got := x.Sum(s); got != want {
			t.Errorf("%q: %x, want %x", s, got, want)
		}
		for i := range s {
			if got := x.Sum(s[:i], "", s[i:]); got != want {
				t.Errorf("%q cut at %d: %x, want %x", s, i, got, want)
			}
		}
		if got := x.Sum(strings.Split(s, "")...); got != want {
			t.Errorf("%q, in single texts: %x, want %x", s, got, want)
		}
	}
}

// P1.1: a sealed text is the text, and its sum, the lower byte first.
func TestP11Seal(t *testing.T) {
	x := New()
	if s := x.Seal("123456789"); s != "123456789\x6e\x90" {
		t.Errorf("%q", s)
	}
	if x.Seal() != "\x00\x00" || x.Seal("", "") != "\x00\x00" {
		t.Errorf("%q %q", x.Seal(), x.Seal("", ""))
	}
	for _, s := range samples() {
		want := slowSeal(s)
		if got := x.Seal(s); got != want {
			t.Errorf("%q: %q, want %q", s, got, want)
		}
		h := len(s) / 2
		if got := x.Seal(s[:h], "", s[h:]); got != want {
			t.Errorf("%q in parts: %q, want %q", s, got, want)
		}
	}
}

// P1.1: what is handed in as a list is not written into.
func TestP11ListIsLeft(t *testing.T) {
	x := New()
	l := []string{"ab", "", "c"}
	x.Sum(l...)
	x.Seal(l...)
	if l[0] != "ab" || l[1] != "" || l[2] != "c" {
		t.Errorf("%q", l)
	}
}

// P1.1: what was sealed is opened; Fix tells it with -1, whatever its length.
func TestP11OpenSealed(t *testing.T) {
	x := New()
	for _, s := range samples() {
		wantOpen(t, x, slowSeal(s), s, api.OK)
		wantFix(t, x, slowSeal(s), s, -1, api.OK)
	}
}

// P1.1: fewer than two bytes are too short, for Fix too.
func TestP11Short(t *testing.T) {
	x := New()
	for _, s := range []string{"", "\x00", "a", "\xff"} {
		wantOpen(t, x, s, "", api.ErrShort)
		wantFix(t, x, s, "", -1, api.ErrShort)
	}
	wantOpen(t, x, "\x00\x00", "", api.OK)
	wantFix(t, x, "\x00\x00", "", -1, api.OK)
}

// P1.1: an end that isn't the sum of the rest.
func TestP11WrongSum(t *testing.T) {
	x := New()
	for _, s := range []string{"ab", "\xff\xff", "\x00\x01", "123456789\x90\x6e", "123456789", "123456789\x6e\x91", "123456789\x6f\x90", "023456789\x6e\x90"} {
		wantOpen(t, x, s, "", api.ErrSum)
	}
	for hi := 0; hi < 256; hi++ {
		for lo := 0; lo < 256; lo++ {
			e := api.ErrSum
			if hi == 0x90 && lo == 0x6E {
				e = api.OK
			}
			if _, got := x.Open("123456789" + string([]byte{byte(lo), byte(hi)})); got != e {
				t.Fatalf("%x %x: %d", lo, hi, got)
			}
		}
	}
}

// P1.1: what is opened or mended shares no memory with what was handed in.
func TestP11OpenCopies(t *testing.T) {
	x := New()
	s := slowSeal("abc")
	text, _ := x.Open(s)
	whole, _, _ := x.Fix(s)
	if unsafe.StringData(text) == unsafe.StringData(s) || unsafe.StringData(whole) == unsafe.StringData(s) {
		t.Error("memory is shared")
	}
}

// P1.1: a nil table tells ErrArg, ahead of all else.
func TestP11Nil(t *testing.T) {
	var x *Table
	for _, s := range []string{"", "a", "\x00\x00", "ab", slowSeal("abc"), flip(slowSeal("abc"), 3), strings.Repeat("a", 400)} {
		if x.Sum(s) != 0 || x.Seal(s) != "" {
			t.Errorf("%q: %x %q", s, x.Sum(s), x.Seal(s))
		}
		wantOpen(t, x, s, "", api.ErrArg)
		wantFix(t, x, s, "", -1, api.ErrArg)
	}
	if x.Sum() != 0 || x.Seal() != "" {
		t.Error(x.Sum(), x.Seal())
	}
}

// P1.1: of 340 bytes a bit is mended, of 341 it isn't.
func TestP11FixLimit(t *testing.T) {
	x := New()
	r := rand.New(rand.NewSource(2))
	for _, k := range []int{0, 7, 8, 1000, 2700, 2719} {
		in, out := noise(r, 338), noise(r, 339)
		wantFix(t, x, flip(slowSeal(in), k), in, k, api.OK)
		wantFix(t, x, flip(slowSeal(out), k), "", -1, api.ErrSum)
	}
	out := noise(r, 339)
	wantFix(t, x, flip(slowSeal(out), 2727), "", -1, api.ErrSum)
	wantFix(t, x, flip(slowSeal(noise(r, 4998)), 5), "", -1, api.ErrSum)
}

// P1.1: of two turned bits none is mended.
func TestP11FixTwoBits(t *testing.T) {
	x := New()
	s := slowSeal("two bits")
	for k := 0; k < 8*len(s); k++ {
		for j := 0; j < k; j++ {
			wantFix(t, x, flip(s, j, k), "", -1, api.ErrSum)
		}
	}
	r := rand.New(rand.NewSource(3))
	long := slowSeal(noise(r, 338))
	for i := 0; i < 2000; i++ {
		if j, k := r.Intn(2720), r.Intn(2720); j != k {
			wantFix(t, x, flip(long, j, k), "", -1, api.ErrSum)
		}
	}
}

// P1.1: of any bytes Fix tells what trying each bit tells, of three turned bits too.
func TestP11FixAnyBytes(t *testing.T) {
	x := New()
	r := rand.New(rand.NewSource(4))
	mended := 0
	try := func(s string) {
		text, k, e := slowFix(s)
		wantFix(t, x, s, text, k, e)
		if k >= 0 {
			mended++
		}
	}
	for i := 0; i < 400; i++ {
		try(noise(r, r.Intn(12)))
		s := slowSeal(noise(r, 30+r.Intn(30)))
		n := 8 * len(s)
		try(flip(s, r.Intn(n), r.Intn(n), r.Intn(n)))
	}
	for lo := 0; lo < 256; lo++ {
		for hi := 0; hi < 256; hi += 5 {
			try(string([]byte{byte(lo), byte(hi)}))
		}
	}
	if mended == 0 {
		t.Error("no bytes were mended")
	}
}

// P1.2: whatever is turned in up to two bytes beside one another, the sum is seen to be wrong.
func TestP12TwoBytes(t *testing.T) {
	x := New()
	for _, text := range []string{"", "\x00", "q", "ab", "ten bytes."} {
		s := []byte(slowSeal(text))
		for i := 0; i+1 < len(s); i++ {
			for turned := 1; turned < 1<<16; turned++ {
				s[i] ^= byte(turned)
				s[i+1] ^= byte(turned >> 8)
				got, e := x.Open(string(s))
				if got != "" || e != api.ErrSum {
					t.Fatalf("%q, %x turned at %d: %q, %d", text, turned, i, got, e)
				}
				s[i] ^= byte(turned)
				s[i+1] ^= byte(turned >> 8)
			}
		}
	}
}

// P1.2: so it is in long texts, at their ends and between.
func TestP12LongTexts(t *testing.T) {
	x := New()
	r := rand.New(rand.NewSource(5))
	for _, n := range []int{331, 338, 5000} {
		s := []byte(slowSeal(noise(r, n)))
		for _, i := range []int{0, 1, n / 2, n - 2, n - 1, n} {
			for range 300 {
				turned := 1 + r.Intn(1<<16-1)
				s[i] ^= byte(turned)
				s[i+1] ^= byte(turned >> 8)
				wantOpen(t, x, string(s), "", api.ErrSum)
				s[i] ^= byte(turned)
				s[i+1] ^= byte(turned >> 8)
			}
		}
	}
}

// P1.3: each bit that is turned is found, and turned back; those of the sum too.
func TestP13EachBit(t *testing.T) {
	x := New()
	for _, text := range samples() {
		s := slowSeal(text)
		if len(s) > 340 {
			continue
		}
		for k := 0; k < 8*len(s); k++ {
			wantFix(t, x, flip(s, k), text, k, api.OK)
		}
	}
}
