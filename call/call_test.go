package call

import (
	"math"
	"math/rand"
	"regexp"
	"slices"
	"strconv"
	"strings"
	"testing"
	"unsafe"

	"squelch/api"
)

// The document's words, as patterns.
var (
	rightBase = regexp.MustCompile(`^[A-Z0-9]{1,6}$`)
	rightWord = regexp.MustCompile(`^([A-Za-z0-9]{1,6})(?:-([0-9]|1[0-5]))?$`)
)

// noSsid are numbers that no Ssid may be.
var noSsid = []int{-1, 16, 17, -15, -16, 31, 32, 255, 256, 1 << 32, 1<<32 + 5, math.MaxInt, math.MinInt}

// noBase are texts that no Base may be; among them signs whose great or small letters are of ASCII, and bytes that are no signs.
var noBase = []string{"", "ABCDEFG", "1234567", strings.Repeat("A", 262), " ", "A ", " A", "A B", "a", "Ab", "n0call", "A-", "-", "A-1", "-1", "A*", "A,B", "A>B", "A/", "A:", "@", "A[", "`", "{", "A\x00", "\x00", "A\n", "\n", "\x80", "\xc1", "A\xff", "\u00c4", "\u00e4", "\u017f", "\u0131", "\u212a", "\uff21", "\u0660"}

// bases are right ones: of each length, of each letter.
func bases() []string {
	l := []string{"A", "Z", "0", "9", "AB", "ABC", "A1", "1A", "N0CALL", "W1AW", "ZZZZZZ", "000000", "999999", "AAAAAA", "12345", "ABCDEF"}
	for i := 0; i < 26; i++ {
		l = append(l, string(rune('A'+i)))
	}
	for i := 0; i < 10; i++ {
		l = append(l, strconv.Itoa(i))
	}
	const letters = "ABCDEFGHIJKLMNOPQRSTUVWXYZ0123456789"
	r := rand.New(rand.NewSource(1))
	for range 200 {
		b := make([]byte, 1+r.Intn(6))
		for i := range b {
			b[i] = letters[r.Intn(len(letters))]
		}
		l = append(l, string(b))
	}
	return l
}

// rights are right calls: each base with each number.
func rights() []api.Call {
	var l []api.Call
	for _, s := range bases() {
		for n := 0; n <= 15; n++ {
			l = append(l, api.Call{Base: s, Ssid: n})
		}
	}
	return l
}

// wrongs are calls that aren't right.
func wrongs() []api.Call {
	l := []api.Call{{}, {Ssid: 15}}
	for _, n := range noSsid {
		l = append(l, api.Call{Base: "A", Ssid: n}, api.Call{Base: "N0CALL", Ssid: n}, api.Call{Ssid: n})
	}
	for _, s := range noBase {
		l = append(l, api.Call{Base: s}, api.Call{Base: s, Ssid: 15})
	}
	return l
}

// slowRight is what the words say, by a pattern.
func slowRight(c api.Call) bool {
	return rightBase.MatchString(c.Base) && 0 <= c.Ssid && c.Ssid <= 15
}

// slowPut is a right call's bytes, by the words.
func slowPut(c api.Call, mark, last bool) string {
	var b []byte
	for _, x := range []byte((c.Base + "      ")[:6]) {
		b = append(b, 2*x)
	}
	n := 64 + 32 + 2*c.Ssid
	if mark {
		n += 128
	}
	if last {
		n++
	}
	return string(append(b, byte(n)))
}

// slowParse is what a pattern tells of a word.
func slowParse(s string) (api.Call, api.Errno) {
	m := rightWord.FindStringSubmatch(s)
	if m == nil {
		return api.Call{}, api.ErrCall
	}
	n, _ := strconv.Atoi(m[2])
	return api.Call{Base: strings.ToUpper(m[1]), Ssid: n}, api.OK
}

// slowGet is what the words say of bytes, one rule behind the other.
func slowGet(s string) (api.Call, bool, bool, api.Errno) {
	if len(s) < 7 {
		return api.Call{}, false, false, api.ErrShort
	}
	if len(s) > 7 {
		return api.Call{}, false, false, api.ErrLong
	}
	base, blanks := "", false
	for i := 0; i < 6; i++ {
		blanks = blanks || s[i] == 64
		switch {
		case blanks && s[i] != 64, s[i]%2 == 1:
			return api.Call{}, false, false, api.ErrForm
		case !blanks:
			base += string([]byte{s[i] / 2})
		}
	}
	x := int(s[6])
	if !rightBase.MatchString(base) || x/64%2 == 0 || x/32%2 == 0 {
		return api.Call{}, false, false, api.ErrForm
	}
	return api.Call{Base: base, Ssid: x / 2 % 16}, x >= 128, x%2 == 1, api.OK
}

func wantParse(t *testing.T, s string, want api.Call, e api.Errno) {
	t.Helper()
	if c, got := Parse(s); c != want || got != e {
		t.Errorf("Parse(%q): %#v, %d; want %#v, %d", s, c, got, want, e)
	}
}

func wantPut(t *testing.T, c api.Call, mark, last bool, want string, e api.Errno) {
	t.Helper()
	if s, got := Put(c, mark, last); s != want || got != e {
		t.Errorf("Put(%#v, %t, %t): %q, %d; want %q, %d", c, mark, last, s, got, want, e)
	}
}

func wantGet(t *testing.T, s string, want api.Call, mark, last bool, e api.Errno) {
	t.Helper()
	if c, m, l, got := Get(s); c != want || m != mark || l != last || got != e {
		t.Errorf("Get(%q): %#v, %t, %t, %d; want %#v, %t, %t, %d", s, c, m, l, got, want, mark, last, e)
	}
}

// wantGetModel holds Get against the model.
func wantGetModel(t *testing.T, s string) {
	t.Helper()
	c, mark, last, e := slowGet(s)
	wantGet(t, s, c, mark, last, e)
}

// P4.1: calls that are right, and calls that aren't.
func TestP41Right(t *testing.T) {
	for _, c := range rights() {
		if !Right(c) {
			t.Errorf("%#v isn't right", c)
		}
	}
	for _, c := range wrongs() {
		if Right(c) {
			t.Errorf("%#v is right", c)
		}
	}
}

// P4.1: each byte, at each place of a base.
func TestP41RightEachByte(t *testing.T) {
	for n := 1; n <= 7; n++ {
		for i := 0; i < n; i++ {
			for x := 0; x < 256; x++ {
				b := []byte("ABC123Z"[:n])
				b[i] = byte(x)
				c := api.Call{Base: string(b), Ssid: x % 16}
				if Right(c) != slowRight(c) {
					t.Errorf("%q: %t", c.Base, Right(c))
				}
			}
		}
	}
}

// P4.1: known words of calls.
func TestP41TextKnown(t *testing.T) {
	for want, c := range map[string]api.Call{
		"N0CALL-7":  {Base: "N0CALL", Ssid: 7},
		"N0CALL":    {Base: "N0CALL"},
		"A-1":       {Base: "A", Ssid: 1},
		"A-9":       {Base: "A", Ssid: 9},
		"A-10":      {Base: "A", Ssid: 10},
		"9-15":      {Base: "9", Ssid: 15},
		"123456-12": {Base: "123456", Ssid: 12},
	} {
		if got := Text(c); got != want {
			t.Errorf("%#v: %q, want %q", c, got, want)
		}
	}
}

// P4.1: a call that isn't right has no word, and no bytes.
func TestP41Wrong(t *testing.T) {
	for _, c := range wrongs() {
		if got := Text(c); got != "" {
			t.Errorf("%#v: %q", c, got)
		}
		for _, mark := range []bool{false, true} {
			for _, last := range []bool{false, true} {
				wantPut(t, c, mark, last, "", api.ErrCall)
			}
		}
	}
}

// P4.1: a call's word leads to it, in small letters too, and as the words say.
func TestP41TextAndParse(t *testing.T) {
	for _, c := range rights() {
		s := Text(c)
		want := c.Base
		if c.Ssid > 0 {
			want += "-" + strconv.Itoa(c.Ssid)
		}
		if s != want {
			t.Errorf("%#v: %q, want %q", c, s, want)
		}
		wantParse(t, s, c, api.OK)
		wantParse(t, strings.ToLower(s), c, api.OK)
		wantParse(t, c.Base+"-"+strconv.Itoa(c.Ssid), c, api.OK)
	}
}

// P4.1: known words, small letters, and the number 0 written out.
func TestP41ParseKnown(t *testing.T) {
	for s, c := range map[string]api.Call{
		"n0call-7":  {Base: "N0CALL", Ssid: 7},
		"N0call":    {Base: "N0CALL"},
		"w1aw":      {Base: "W1AW"},
		"a":         {Base: "A"},
		"z-0":       {Base: "Z"},
		"A-0":       {Base: "A"},
		"0-0":       {Base: "0"},
		"aZ-9":      {Base: "AZ", Ssid: 9},
		"az-10":     {Base: "AZ", Ssid: 10},
		"abcdef-15": {Base: "ABCDEF", Ssid: 15},
	} {
		wantParse(t, s, c, api.OK)
	}
}

// P4.1: words that are none.
func TestP41ParseNone(t *testing.T) {
	for _, s := range []string{
		"", "-", "-1", "-0", "--1", "a-", "a--1", "a-1-", "a-1-1", "a-01", "a-00", "a-007", "a-16", "a-20", "a-99", "a-100", "a-150", "a-+1", "a-+0", "a--0", "a- 1", "a-1 ", " a-1", "a -1", "a ", " a", "a b",
		"a-x", "a-1x", "a-x1", "a-0x1", "a-1_0", "a-1.0", "a-1e1", "a-\u0661", "a-\x00", "a-18446744073709551616", "a-18446744073709551617", "a-4294967297", "a-9223372036854775808", "a-" + strings.Repeat("0", 5000), "a-" + strings.Repeat("1", 5000),
		"abcdefg", "abcdefg-1", "1234567", "ABCDEF7-15", "a*", "a-1*", "a>b", "a,b", "a\n", "a-1\n", "\ta", "a_b", "a.b", "@", "[", "`", "{", "/", ":", "\x00", "a\x00", "\x80", "\xe1", "\u00e4", "\u017f", "a\u0131", "\u212a", "\uff21", strings.Repeat("a", 5000),
	} {
		wantParse(t, s, api.Call{}, api.ErrCall)
	}
}

// P4.1: all short texts of the bytes that matter, and any bytes about a word.
func TestP41ParseAll(t *testing.T) {
	const bytes = "Aaz09156- *+"
	level := []string{""}
	for range 5 {
		var next []string
		for _, s := range level {
			for i := range len(bytes) {
				x := s + bytes[i:i+1]
				next = append(next, x)
				c, e := slowParse(x)
				wantParse(t, x, c, e)
			}
		}
		level = next
	}
	for _, s := range []string{"a", "ab-1", "N0CALL-15", "n0cal-0"} {
		for i := range len(s) {
			for x := 0; x < 256; x++ {
				put := string([]byte{byte(x)})
				for _, word := range []string{s[:i] + put + s[i+1:], s[:i] + put + s[i:], s + put} {
					c, e := slowParse(word)
					wantParse(t, word, c, e)
				}
			}
		}
	}
}

// P4.1: each number behind "-", with leading noughts or without.
func TestP41ParseNumbers(t *testing.T) {
	for n := -300; n <= 3000; n++ {
		want, e := api.Call{}, api.ErrCall
		if n >= 0 && n <= 15 {
			want, e = api.Call{Base: "K", Ssid: n}, api.OK
		}
		s := strconv.Itoa(n)
		wantParse(t, "k-"+s, want, e)
		wantParse(t, "k-0"+s, api.Call{}, api.ErrCall)
		wantParse(t, "k-00"+s, api.Call{}, api.ErrCall)
		wantParse(t, "k-+"+s, api.Call{}, api.ErrCall)
	}
}

// P4.1: known bytes, the document's example among them.
func TestP41PutKnown(t *testing.T) {
	wantPut(t, api.Call{Base: "N0CALL", Ssid: 7}, false, false, "\x9c\x60\x86\x82\x98\x98\x6e", api.OK)
	wantPut(t, api.Call{Base: "A"}, false, false, "\x82\x40\x40\x40\x40\x40\x60", api.OK)
	wantPut(t, api.Call{Base: "A"}, false, true, "\x82\x40\x40\x40\x40\x40\x61", api.OK)
	wantPut(t, api.Call{Base: "A"}, true, false, "\x82\x40\x40\x40\x40\x40\xe0", api.OK)
	wantPut(t, api.Call{Base: "Z9", Ssid: 15}, true, true, "\xb4\x72\x40\x40\x40\x40\xff", api.OK)
	wantPut(t, api.Call{Base: "Z9", Ssid: 15}, false, false, "\xb4\x72\x40\x40\x40\x40\x7e", api.OK)
	wantPut(t, api.Call{Base: "00000", Ssid: 8}, false, true, "\x60\x60\x60\x60\x60\x40\x71", api.OK)
}

// P4.1: a call's bytes are as the words say, and lead to it, its mark, and whether it is the last one.
func TestP41PutAndGet(t *testing.T) {
	for _, c := range rights() {
		for _, mark := range []bool{false, true} {
			for _, last := range []bool{false, true} {
				s := slowPut(c, mark, last)
				wantPut(t, c, mark, last, s, api.OK)
				wantGet(t, s, c, mark, last, api.OK)
			}
		}
	}
}

// P4.1: fewer than seven bytes are too short, more are too long, whatever they are.
func TestP41GetLength(t *testing.T) {
	s := slowPut(api.Call{Base: "N0CALL", Ssid: 7}, true, true)
	for n := range 7 {
		wantGet(t, s[:n], api.Call{}, false, false, api.ErrShort)
		wantGet(t, "\xff\xff\xff\xff\xff\xff"[:n], api.Call{}, false, false, api.ErrShort)
	}
	for _, x := range []string{s + "x", s + "\x00", s + s, "\x40" + s, strings.Repeat("\xff", 8), strings.Repeat("\x00", 5000)} {
		wantGet(t, x, api.Call{}, false, false, api.ErrLong)
	}
}

// P4.1: bytes that are no call's, by the document's rules.
func TestP41GetForm(t *testing.T) {
	for _, s := range []string{
		"\x40\x40\x40\x40\x40\x40\x60", // no letters
		"\x40\x82\x40\x40\x40\x40\x60", // a letter behind a blank
		"\x82\x40\x84\x40\x40\x40\x60",
		"\x82\x84\x86\x88\x40\x8a\x60",
		"\x82\x84\x40\x40\x40\x40\x20", // 64 is 0
		"\x82\x84\x40\x40\x40\x40\x40", // 32 is 0
		"\x82\x84\x40\x40\x40\x40\x00",
		"\x82\x84\x40\x40\x40\x40\x9f",
		"\x83\x84\x40\x40\x40\x40\x60", // odd ones
		"\x82\x84\x40\x40\x40\x41\x60",
		"\x82\x84\x86\x88\x8a\x8d\x60",
		"\xc2\x84\x40\x40\x40\x40\x60", // a small letter
		"\x82\x5a\x62\x40\x40\x40\x60", // "-"
		"\x00\x00\x00\x00\x00\x00\x60",
		"\x82\x00\x00\x00\x00\x00\x60",
		"\x00\x00\x00\x00\x00\x00\x00",
		"\xff\xff\xff\xff\xff\xff\xff",
		"AB    \x60",
	} {
		wantGet(t, s, api.Call{}, false, false, api.ErrForm)
	}
}

// P4.1: each byte at each place, two at once too, and any bytes.
func TestP41GetAll(t *testing.T) {
	for _, base := range []string{"A", "AB", "AB1", "ABCDE", "Z0Z0Z0"} {
		for i := range 7 {
			for x := range 256 {
				b := []byte(slowPut(api.Call{Base: base, Ssid: 5}, true, false))
				b[i] = byte(x)
				wantGetModel(t, string(b))
				for k := range 7 {
					for _, y := range []byte{0x40, 0x41, 0x82, 0x83, 0xb4, 0x60, 0x72, 0x00, 0xff, 0x5e, 0x74, 0xb6, 0x80} {
						two := slices.Clone(b)
						two[k] = y
						wantGetModel(t, string(two))
					}
				}
			}
		}
	}
	r := rand.New(rand.NewSource(2))
	for range 20000 {
		b := make([]byte, 7)
		r.Read(b)
		wantGetModel(t, string(b))
		for i := range b {
			b[i] = "\x40\x82\xb4\x60\x72\x60\x61"[r.Intn(7)]
		}
		wantGetModel(t, string(b))
	}
}

// P4.1: what Get tells, Put writes as it was.
func TestP41GetAndPut(t *testing.T) {
	for x := range 256 {
		s := "\x82\x84\x62\x40\x40\x40" + string([]byte{byte(x)})
		c, mark, last, e := Get(s)
		if (e == api.OK) != (x&96 == 96) {
			t.Errorf("%x: %d", x, e)
		}
		if e == api.OK {
			wantPut(t, c, mark, last, s, api.OK)
		}
	}
}

// P4.1: known orders; of calls that aren't right too.
func TestP41LessKnown(t *testing.T) {
	rising := []api.Call{
		{Ssid: -1}, {}, {Ssid: 3}, {Base: "\x00"}, {Base: " "}, {Base: "0", Ssid: 15}, {Base: "9"}, {Base: "A", Ssid: math.MinInt}, {Base: "A"}, {Base: "A", Ssid: 1}, {Base: "A", Ssid: 2}, {Base: "A", Ssid: 9}, {Base: "A", Ssid: 10}, {Base: "A", Ssid: 15}, {Base: "A", Ssid: math.MaxInt},
		{Base: "A0"}, {Base: "AA", Ssid: 15}, {Base: "AAZ"}, {Base: "AB"}, {Base: "AB", Ssid: 1}, {Base: "ABC"}, {Base: "B"}, {Base: "ZZZZZZ", Ssid: 15}, {Base: "ZZZZZZA"}, {Base: "a"}, {Base: "\x7f"}, {Base: "\u00e4"}, {Base: "\xff"},
	}
	for i, a := range rising {
		for k, b := range rising {
			if Less(a, b) != (i < k) {
				t.Errorf("%#v, %#v: %t", a, b, i >= k)
			}
		}
	}
}

// P4.1: the order of any two right calls, byte by byte.
func TestP41Less(t *testing.T) {
	slow := func(a, b api.Call) bool {
		for i := 0; i < len(a.Base) && i < len(b.Base); i++ {
			if a.Base[i] != b.Base[i] {
				return a.Base[i] < b.Base[i]
			}
		}
		if len(a.Base) != len(b.Base) {
			return len(a.Base) < len(b.Base)
		}
		return a.Ssid < b.Ssid
	}
	l := rights()
	r := rand.New(rand.NewSource(3))
	for _, a := range l {
		if Less(a, a) {
			t.Errorf("%#v stands ahead of itself", a)
		}
		for range 50 {
			b := l[r.Intn(len(l))]
			if Less(a, b) != slow(a, b) {
				t.Errorf("%#v, %#v: %t", a, b, Less(a, b))
			}
			b.Base = a.Base
			if Less(a, b) != (a.Ssid < b.Ssid) {
				t.Errorf("%#v, %#v: %t", a, b, Less(a, b))
			}
		}
	}
}

// P4.1: calls of which no two are alike; those of one base, or of one number, are not.
func TestP41Distinct(t *testing.T) {
	a, b, a1 := api.Call{Base: "A"}, api.Call{Base: "B"}, api.Call{Base: "A", Ssid: 1}
	for _, l := range [][]api.Call{nil, {}, {a}, {a1}, {a, b}, {b, a}, {a, a1}, {a1, a}, {a, b, a1}, {{Base: "A1"}, a1}, {{Base: "A1", Ssid: 1}, {Base: "A", Ssid: 11}}} {
		if !Distinct(l...) {
			t.Errorf("%#v aren't distinct", l)
		}
	}
	for _, l := range [][]api.Call{{a, a}, {a1, a1}, {a, b, a}, {a, a, b}, {b, a, a}, {a, b, a1, b}, {a, a, a}} {
		if Distinct(l...) {
			t.Errorf("%#v are distinct", l)
		}
	}
	for _, c := range wrongs() {
		for _, l := range [][]api.Call{{c}, {c, c}, {a, c}, {c, a}, {a, c, b}, {a, b, c}, {a, c, a}} {
			if Distinct(l...) {
				t.Errorf("%#v are distinct", l)
			}
		}
	}
}

// P4.1: of long lists too, wherever the two that are alike stand.
func TestP41DistinctMany(t *testing.T) {
	var l []api.Call
	for x := range 500 {
		for n := range 16 {
			l = append(l, api.Call{Base: "K" + strconv.Itoa(x), Ssid: n})
		}
	}
	want := slices.Clone(l)
	if !Distinct(l...) {
		t.Error("they aren't distinct")
	}
	r := rand.New(rand.NewSource(4))
	for range 100 {
		i, k := r.Intn(len(l)), r.Intn(len(l))
		was := l[i]
		l[i] = l[k]
		if Distinct(l...) != (i == k) {
			t.Errorf("%d and %d are alike", i, k)
		}
		l[i] = was
	}
	if !slices.Equal(l, want) {
		t.Error("the list was written into")
	}
}

// P4.1: what is answered shares no memory with an argument.
func TestP41NothingShared(t *testing.T) {
	within := func(a, b string) bool {
		at, from := uintptr(unsafe.Pointer(unsafe.StringData(a))), uintptr(unsafe.Pointer(unsafe.StringData(b)))
		return at >= from && at < from+uintptr(len(b))
	}
	for _, s := range []string{"N0CALL", "N0CALL-7", "n0call-0"} {
		word := strings.Clone(s)
		c, _ := Parse(word)
		text := Text(c)
		if within(c.Base, word) || within(text, c.Base) {
			t.Errorf("%q: memory is shared", s)
		}
		bytes, _ := Put(c, false, false)
		if x, _, _, _ := Get(bytes); within(x.Base, bytes) || within(bytes, c.Base) {
			t.Errorf("%q: memory is shared", s)
		}
	}
}
