package path

import (
	"math/rand"
	"reflect"
	"regexp"
	"slices"
	"strconv"
	"strings"
	"testing"
	"unsafe"

	"squelch/api"
)

// marks are all pairs of ToMark and FromMark.
var marks = [][2]bool{{false, false}, {false, true}, {true, false}, {true, true}}

// wrongCalls aren't right.
var wrongCalls = []api.Call{{}, {Ssid: 3}, {Base: "A", Ssid: -1}, {Base: "A", Ssid: 16}, {Base: "A", Ssid: 1<<32 + 1}, {Base: "ABCDEFG"}, {Base: "a"}, {Base: "A B"}, {Base: "A "}, {Base: "A*"}, {Base: "A,B"}, {Base: "A>B"}, {Base: "A-1"}, {Base: "\u00c4"}}

// wrongBytes are seven bytes that are no call's.
var wrongBytes = []string{
	"\x40\x40\x40\x40\x40\x40\x60", "\x40\x40\x40\x40\x40\x40\x61", "\x82\x40\x84\x40\x40\x40\x60", "\x83\x40\x40\x40\x40\x40\x60", "\x82\x40\x40\x40\x40\x41\x61", "\x82\x40\x40\x40\x40\x40\x20", "\x82\x40\x40\x40\x40\x40\x41",
	"\xc2\x40\x40\x40\x40\x40\x60", "\x54\x40\x40\x40\x40\x40\x60", "\x00\x00\x00\x00\x00\x00\x00", "\xff\xff\xff\xff\xff\xff\xff", "junkjun",
}

// digiCalls are nine calls, two of them alike.
var digiCalls = []api.Call{{Base: "C"}, {Base: "D", Ssid: 1}, {Base: "WIDE1", Ssid: 1}, {Base: "9", Ssid: 15}, {Base: "C"}, {Base: "N0CALL", Ssid: 7}, {Base: "ZZZZZZ", Ssid: 10}, {Base: "A"}, {Base: "B", Ssid: 2}}

func c(base string) api.Call { return api.Call{Base: base} }

// line is n digipeaters, of whom those Has it whose bit of bits is set.
func line(n, bits int) []Digi {
	var l []Digi
	for i := range n {
		l = append(l, Digi{Call: digiCalls[i], Has: bits>>i&1 == 1})
	}
	return l
}

// rights are right paths: of each number of digipeaters, however many have sent it, with all marks.
func rights() []Path {
	var l []Path
	for n := 0; n <= 8; n++ {
		for reach := 0; reach <= n; reach++ {
			for _, m := range marks {
				l = append(l,
					Path{To: c("B"), From: c("A"), ToMark: m[0], FromMark: m[1], Digis: line(n, 1<<reach-1)},
					Path{To: api.Call{Base: "N0CALL", Ssid: 15}, From: api.Call{Base: "W1AW", Ssid: 9}, ToMark: m[0], FromMark: m[1], Digis: line(n, 1<<reach-1)})
			}
		}
	}
	return l
}

// wrongs are paths that aren't right.
func wrongs() []Path {
	var l []Path
	for _, w := range wrongCalls {
		for n := 0; n <= 8; n++ {
			l = append(l, Path{To: w, From: c("A"), Digis: line(n, 1)}, Path{To: c("B"), From: w, ToMark: true, Digis: line(n, 0)}, Path{To: w, From: w, Digis: line(n, 1<<n-1)})
			for i := range n {
				p := Path{To: c("B"), From: c("A"), ToMark: true, Digis: line(n, 1<<i-1)}
				p.Digis[i].Call = w
				l = append(l, p)
			}
		}
	}
	for _, bits := range []int{0, 1, 1<<8 - 1, 1<<9 - 1, 1 << 8} {
		l = append(l, Path{To: c("B"), From: c("A"), FromMark: true, Digis: line(9, bits)})
	}
	for n := 2; n <= 8; n++ {
		for bits := range 1 << n {
			if bits&(bits+1) != 0 {
				l = append(l, Path{To: c("B"), From: c("A"), ToMark: true, Digis: line(n, bits)})
			}
		}
	}
	long := Path{To: c("B"), From: c("A")}
	for range 5000 {
		long.Digis = append(long.Digis, Digi{Call: c("C")})
	}
	return append(l, Path{}, Path{ToMark: true}, Path{Digis: line(3, 0)}, long)
}

// slowCall is a right call's bytes, by the words of layer 4.
func slowCall(x api.Call, mark, last bool) string {
	b := make([]byte, 7)
	for i, y := range []byte((x.Base + "      ")[:6]) {
		b[i] = 2 * y
	}
	b[6] = byte(96 + 2*x.Ssid)
	if mark {
		b[6] += 128
	}
	if last {
		b[6]++
	}
	return string(b)
}

// slowPut is a right path's bytes, by the words.
func slowPut(p Path) string {
	s := slowCall(p.To, p.ToMark, false) + slowCall(p.From, p.FromMark, len(p.Digis) == 0)
	for i, d := range p.Digis {
		s += slowCall(d.Call, d.Has, i+1 == len(p.Digis))
	}
	return s
}

var callBytes = regexp.MustCompile(`^[A-Z0-9]{1,6} *$`)

// slowGet is what the words say of bytes: how many calls there are ahead of what is wrong, or till the last one, is found out first.
func slowGet(s string) (Path, int, api.Errno) {
	var p Path
	behind := false
	for i := 0; ; i++ {
		if len(s) < 7*i+7 {
			return Path{}, 0, api.ErrShort
		}
		x, base, odd := s[7*i:7*i+7], "", false
		for k := 0; k < 6; k++ {
			base += string([]byte{x[k] / 2})
			odd = odd || x[k]%2 == 1
		}
		if odd || !callBytes.MatchString(base) || x[6]/64%2 == 0 || x[6]/32%2 == 0 {
			return Path{}, 0, api.ErrForm
		}
		got := api.Call{Base: strings.TrimSpace(base), Ssid: int(x[6]) / 2 % 16}
		mark, last := x[6] >= 128, x[6]%2 == 1
		switch {
		case i == 10:
			return Path{}, 0, api.ErrPath
		case i == 0:
			p.To, p.ToMark = got, mark
		case i == 1:
			p.From, p.FromMark = got, mark
		default:
			behind = behind || mark && i > 2 && !p.Digis[i-3].Has
			p.Digis = append(p.Digis, Digi{Call: got, Has: mark})
		}
		switch {
		case last && i == 0:
			return Path{}, 0, api.ErrForm
		case last && behind:
			return Path{}, 0, api.ErrPath
		case last:
			return p, 7*i + 7, api.OK
		}
	}
}

var callWord = regexp.MustCompile(`^([A-Za-z0-9]{1,6})(?:-([0-9]|1[0-5]))?$`)

// slowWord is the call of a word, by the words of layer 4.
func slowWord(s string) (api.Call, bool) {
	m := callWord.FindStringSubmatch(s)
	if m == nil {
		return api.Call{}, false
	}
	n, _ := strconv.Atoi(m[2])
	return api.Call{Base: strings.ToUpper(m[1]), Ssid: n}, true
}

// slowParse is what the words say of a path's word.
func slowParse(s string) (Path, api.Errno) {
	at := strings.Index(s, ">")
	if at < 0 {
		return Path{}, api.ErrForm
	}
	var calls []api.Call
	stars, reach := 0, 0
	for i, word := range append([]string{s[:at]}, strings.Split(s[at+1:], ",")...) {
		if i == 10 {
			return Path{}, api.ErrPath
		}
		if i >= 2 && strings.HasSuffix(word, "*") {
			stars++
			reach = i - 1
			word = word[:len(word)-1]
		}
		x, ok := slowWord(word)
		if !ok {
			return Path{}, api.ErrCall
		}
		calls = append(calls, x)
	}
	if stars > 1 {
		return Path{}, api.ErrForm
	}
	p := Path{From: calls[0], To: calls[1], ToMark: true}
	for i, x := range calls[2:] {
		p.Digis = append(p.Digis, Digi{Call: x, Has: i < reach})
	}
	return p, api.OK
}

// same holds paths against each other, for which an empty list and no list are one.
func same(a, b Path) bool {
	return a.To == b.To && a.From == b.From && a.ToMark == b.ToMark && a.FromMark == b.FromMark && slices.Equal(a.Digis, b.Digis)
}

// none is p as if none had sent it.
func none(p Path) Path {
	p.Digis = slices.Clone(p.Digis)
	for i := range p.Digis {
		p.Digis[i].Has = false
	}
	return p
}

// deep is p with all its memory its own.
func deep(p Path) Path {
	p.To.Base, p.From.Base, p.Digis = strings.Clone(p.To.Base), strings.Clone(p.From.Base), slices.Clone(p.Digis)
	for i := range p.Digis {
		p.Digis[i].Base = strings.Clone(p.Digis[i].Base)
	}
	return p
}

func wantGet(t *testing.T, s string, want Path, n int, e api.Errno) {
	t.Helper()
	p, k, got := Get(s)
	if !same(p, want) || k != n || got != e {
		t.Errorf("Get(%q): %#v, %d, %d; want %#v, %d, %d", s, p, k, got, want, n, e)
	}
}

// wantNone says that no path is got of s, by an error.
func wantNone(t *testing.T, s string, e api.Errno) {
	t.Helper()
	wantGet(t, s, Path{}, 0, e)
}

func wantParse(t *testing.T, s string, want Path, e api.Errno) {
	t.Helper()
	if p, got := Parse(s); !same(p, want) || got != e {
		t.Errorf("Parse(%q): %#v, %d; want %#v, %d", s, p, got, want, e)
	}
}

// P5.1: paths that are right, and paths that aren't: these have no bytes, and no word.
func TestP51Right(t *testing.T) {
	for _, p := range rights() {
		if !Right(p) {
			t.Errorf("%#v isn't right", p)
		}
	}
	for _, p := range wrongs() {
		if Right(p) {
			t.Errorf("%#v is right", p)
		}
		if s, e := Put(p); s != "" || e != api.ErrPath {
			t.Errorf("Put(%#v): %q, %d", p, s, e)
		}
		if s := Text(p); s != "" {
			t.Errorf("Text(%#v): %q", p, s)
		}
	}
	if !Right(Path{To: c("A"), From: c("A"), Digis: []Digi{}}) {
		t.Error("an empty list is none")
	}
}

// P5.1: known bytes.
func TestP51PutKnown(t *testing.T) {
	for want, p := range map[string]Path{
		"\x84\x40\x40\x40\x40\x40\x60\x82\x40\x40\x40\x40\x40\x61": {To: c("B"), From: c("A")},
		"\x84\x40\x40\x40\x40\x40\xe0\x82\x40\x40\x40\x40\x40\x61": {To: c("B"), From: c("A"), ToMark: true},
		"\x84\x40\x40\x40\x40\x40\x60\x82\x40\x40\x40\x40\x40\xe1": {To: c("B"), From: c("A"), FromMark: true},
		"\x9c\x60\x86\x82\x98\x98\x6e\xae\x62\x82\xae\x40\x40\xf2\x86\x40\x40\x40\x40\x40\xe0\x88\x40\x40\x40\x40\x40\x63": {
			To: api.Call{Base: "N0CALL", Ssid: 7}, From: api.Call{Base: "W1AW", Ssid: 9}, FromMark: true, Digis: []Digi{{c("C"), true}, {api.Call{Base: "D", Ssid: 1}, false}}},
	} {
		if s, e := Put(p); s != want || e != api.OK {
			t.Errorf("Put(%#v): %q, %d", p, s, e)
		}
		wantGet(t, want, p, len(want), api.OK)
	}
}

// P5.1: a path's bytes are as the words say, and lead to it, whatever follows them; cut anywhere, they are too short.
func TestP51PutAndGet(t *testing.T) {
	for _, p := range rights() {
		want := slowPut(p)
		if s, e := Put(p); s != want || e != api.OK {
			t.Errorf("Put(%#v): %q, %d; want %q", p, s, e, want)
		}
		for _, more := range []string{"", "x", "\x00", "\xff\xff\xff\xff\xff\xff\xff", want, wrongBytes[0], strings.Repeat("z", 500)} {
			wantGet(t, want+more, p, len(want), api.OK)
		}
		for i := range len(want) {
			wantNone(t, want[:i], api.ErrShort)
		}
	}
}

// P5.1: a call that is none, at each place, ahead of all that follows; if its bytes are there.
func TestP51GetForm(t *testing.T) {
	for _, p := range rights() {
		s := slowPut(p)
		for at := 0; at < len(s); at += 7 {
			for _, w := range wrongBytes {
				wantNone(t, s[:at]+w+s[at+7:], api.ErrForm)
				wantNone(t, s[:at]+w, api.ErrForm)
				wantNone(t, s[:at]+w[:6], api.ErrShort)
			}
		}
	}
}

// P5.1: the first call isn't the last one; a call that is none goes ahead of it.
func TestP51GetFirst(t *testing.T) {
	from := slowCall(c("A"), false, true)
	for _, mark := range []bool{false, true} {
		s := slowCall(c("B"), mark, true)
		for _, more := range []string{"", "x", from, from + from, wrongBytes[0]} {
			wantNone(t, s+more, api.ErrForm)
		}
		for n := range 7 {
			wantNone(t, s[:n], api.ErrShort)
		}
	}
}

// P5.1: more than eight digipeaters: the ninth is read first, and its bytes must be there, and a call's.
func TestP51GetMany(t *testing.T) {
	ten := slowCall(c("B"), true, false) + slowCall(c("A"), false, false)
	for _, x := range digiCalls[:8] {
		ten += slowCall(x, false, false)
	}
	wantNone(t, ten, api.ErrShort)
	for _, mark := range []bool{false, true} {
		for _, last := range []bool{false, true} {
			s := slowCall(c("X"), mark, last)
			for n := range 7 {
				wantNone(t, ten+s[:n], api.ErrShort)
			}
			for _, more := range []string{"", "x", s, s + s, wrongBytes[0]} {
				wantNone(t, ten+s+more, api.ErrPath)
			}
		}
	}
	for _, w := range wrongBytes {
		wantNone(t, ten+w, api.ErrForm)
		wantNone(t, ten+w[:6], api.ErrShort)
	}
}

// P5.1: one that Has it behind one that hasn't, at each place: that is asked when all are read.
func TestP51GetOrder(t *testing.T) {
	for n := 2; n <= 8; n++ {
		for bits := range 1 << n {
			p := Path{To: c("B"), From: c("A"), FromMark: true, Digis: line(n, bits)}
			s := slowPut(p)
			if bits&(bits+1) == 0 {
				wantGet(t, s, p, len(s), api.OK)
				continue
			}
			wantNone(t, s, api.ErrPath)
			wantNone(t, s+"more", api.ErrPath)
			for i := range len(s) {
				wantNone(t, s[:i], api.ErrShort)
			}
			wantNone(t, s[:len(s)-7]+wrongBytes[0], api.ErrForm)
		}
	}
}

// randomBytes are calls' bytes, most of them right, of which each may be the last one.
func randomBytes(r *rand.Rand) string {
	s, reach := "", r.Intn(10)
	for i := range 1 + r.Intn(12) {
		x := digiCalls[r.Intn(len(digiCalls))]
		mark := i > 1 && i-2 < reach
		if r.Intn(8) == 0 {
			mark = !mark
		}
		s += slowCall(x, mark, r.Intn(6) == 0)
	}
	b := []byte(s)
	if r.Intn(3) == 0 {
		b[r.Intn(len(b))] ^= 1 << r.Intn(8)
	}
	if r.Intn(3) == 0 {
		b = b[:r.Intn(len(b)+1)]
	}
	return string(b)
}

// P5.1: any bytes; what Get tells is right, and Put writes it as it was.
func TestP51GetAll(t *testing.T) {
	r := rand.New(rand.NewSource(1))
	counts := map[api.Errno]int{}
	for range 60000 {
		s := randomBytes(r)
		want, n, e := slowGet(s)
		wantGet(t, s, want, n, e)
		counts[e]++
		p, n, e := Get(s)
		if e != api.OK {
			continue
		}
		if back, e := Put(p); !Right(p) || back != s[:n] || e != api.OK {
			t.Errorf("Get(%q): %#v, %d, of which Put makes %q, %d", s, p, n, back, e)
		}
	}
	for _, e := range []api.Errno{api.OK, api.ErrShort, api.ErrForm, api.ErrPath} {
		if counts[e] < 1000 {
			t.Errorf("only %d answers are %d", counts[e], e)
		}
	}
}

// P5.1: each turned bit of a path's bytes.
func TestP51GetTurned(t *testing.T) {
	for _, p := range rights() {
		s := slowPut(p)
		for i := range 8 * len(s) {
			b := []byte(s)
			b[i/8] ^= 1 << (i % 8)
			want, n, e := slowGet(string(b))
			wantGet(t, string(b), want, n, e)
		}
	}
}

// P5.1: the marks alone say what is a command, and what a response.
func TestP51Marks(t *testing.T) {
	for _, p := range append(rights(), wrongs()...) {
		for _, m := range marks {
			p.ToMark, p.FromMark = m[0], m[1]
			if Command(p) != (m == [2]bool{true, false}) || Response(p) != (m == [2]bool{false, true}) {
				t.Errorf("%v: %t, %t", m, Command(p), Response(p))
			}
		}
	}
}

// P5.1: the first digipeater that hasn't sent it; so of paths that aren't right, too.
func TestP51Next(t *testing.T) {
	for n := 0; n <= 9; n++ {
		for bits := range 1 << n {
			p := Path{To: c("B"), From: c("A"), ToMark: true, Digis: line(n, bits)}
			want, ok := api.Call{}, false
			for i := n - 1; i >= 0; i-- {
				if bits>>i&1 == 0 {
					want, ok = digiCalls[i], true
				}
			}
			if got, more := Next(p); got != want || more != ok {
				t.Errorf("%#v: %#v, %t", p, got, more)
			}
		}
	}
	p := Path{To: c("B"), From: c("A"), Digis: []Digi{{c("C"), true}, {c("D"), false}}}
	if got, ok := Next(p); got != c("D") || !ok {
		t.Errorf("%#v, %t", got, ok)
	}
}

// P5.1: that one Has it then, and nothing else is other; if all have, the path is as it is.
func TestP51Sent(t *testing.T) {
	for n := 0; n <= 9; n++ {
		for bits := range 1 << n {
			for _, m := range marks {
				p := Path{To: c("B"), From: c("A"), ToMark: m[0], FromMark: m[1], Digis: line(n, bits)}
				want := deep(p)
				if bits != 1<<n-1 {
					want.Digis = line(n, bits|(bits+1))
				}
				if got, ok := Sent(p); !same(got, want) || ok != (bits != 1<<n-1) {
					t.Errorf("%#v: %#v, %t", p, got, ok)
				}
			}
		}
	}
}

// P5.1: one behind the other sends it on, till all have.
func TestP51SentOn(t *testing.T) {
	p := Path{To: c("B"), From: c("A"), ToMark: true, Digis: line(8, 0)}
	for i := range 8 {
		next, ok := Next(p)
		if next != digiCalls[i] || !ok || !Right(p) {
			t.Errorf("%d: %#v, %t", i, next, ok)
		}
		if p, ok = Sent(p); !ok || !same(p, Path{To: c("B"), From: c("A"), ToMark: true, Digis: line(8, 1<<(i+1)-1)}) {
			t.Errorf("%d: %#v, %t", i, p, ok)
		}
	}
	if next, ok := Next(p); next != (api.Call{}) || ok {
		t.Errorf("%#v, %t", next, ok)
	}
	if q, ok := Sent(p); !same(p, q) || ok {
		t.Errorf("%#v, %t", q, ok)
	}
}

// P5.1: a known way back.
func TestP51BackKnown(t *testing.T) {
	p := Path{To: c("B"), From: c("A"), ToMark: true, Digis: []Digi{{c("C"), true}, {c("D"), true}, {c("E"), false}}}
	want := Path{To: c("A"), From: c("B"), FromMark: true, Digis: []Digi{{c("E"), false}, {c("D"), false}, {c("C"), false}}}
	if got := Back(p); !same(got, want) {
		t.Errorf("%#v", got)
	}
	p.ToMark, p.FromMark, want.ToMark, want.FromMark = false, true, true, false
	if got := Back(p); !same(got, want) {
		t.Errorf("%#v", got)
	}
}

// P5.1: the way back, of paths that aren't right too; Back twice is as none had sent it.
func TestP51Back(t *testing.T) {
	for _, p := range append(rights(), wrongs()...) {
		want := Path{To: p.From, From: p.To, ToMark: !Command(p), FromMark: Command(p)}
		for i := len(p.Digis); i > 0; i-- {
			want.Digis = append(want.Digis, Digi{Call: p.Digis[i-1].Call})
		}
		got := Back(p)
		if !same(got, want) || Right(p) && !Right(got) {
			t.Errorf("Back(%#v): %#v", p, got)
		}
		twice := none(p)
		if !Command(p) { // the way back of a path that is neither is a command, whose way back is a response
			twice.ToMark, twice.FromMark = false, true
		}
		if got := Back(Back(p)); !same(got, twice) {
			t.Errorf("Back twice of %#v: %#v", p, got)
		}
	}
}

// P5.1: a path of calls, none of which has sent it.
func TestP51Via(t *testing.T) {
	for n := 0; n <= 8; n++ {
		for _, command := range []bool{false, true} {
			p, e := Via(c("A"), api.Call{Base: "B", Ssid: 4}, command, digiCalls[:n]...)
			if !same(p, Path{To: api.Call{Base: "B", Ssid: 4}, From: c("A"), ToMark: command, FromMark: !command, Digis: line(n, 0)}) || e != api.OK {
				t.Errorf("%d, %t: %#v, %d", n, command, p, e)
			}
			if Command(p) != command || Response(p) == command {
				t.Errorf("%d, %t: %t, %t", n, command, Command(p), Response(p))
			}
		}
	}
}

// P5.1: a path that isn't right isn't made.
func TestP51ViaWrong(t *testing.T) {
	refused := func(from, to api.Call, digis ...api.Call) {
		t.Helper()
		for _, command := range []bool{false, true} {
			if p, e := Via(from, to, command, digis...); !reflect.ValueOf(p).IsZero() || e != api.ErrPath {
				t.Errorf("%#v, %#v, %#v: %#v, %d", from, to, digis, p, e)
			}
		}
	}
	refused(c("A"), c("B"), digiCalls...)
	refused(c("A"), c("B"), slices.Repeat(digiCalls, 1000)...)
	for _, w := range wrongCalls {
		refused(w, c("B"))
		refused(c("A"), w)
		refused(w, w, w)
		for i := range 8 {
			l := slices.Clone(digiCalls[:8])
			l[i] = w
			refused(c("A"), c("B"), l...)
		}
	}
}

// P5.1: known words; the document's example among them.
func TestP51TextKnown(t *testing.T) {
	for want, p := range map[string]Path{
		"A>B":          {To: c("B"), From: c("A")},
		"A>B,C*,D":     {To: c("B"), From: c("A"), Digis: []Digi{{c("C"), true}, {c("D"), false}}},
		"A>B,C,D":      {To: c("B"), From: c("A"), Digis: []Digi{{c("C"), false}, {c("D"), false}}},
		"A>B,C,D*":     {To: c("B"), From: c("A"), Digis: []Digi{{c("C"), true}, {c("D"), true}}},
		"A>B,C*":       {To: c("B"), From: c("A"), Digis: []Digi{{c("C"), true}}},
		"A>B,C,C*,C,C": {To: c("B"), From: c("A"), Digis: []Digi{{c("C"), true}, {c("C"), true}, {c("C"), false}, {c("C"), false}}},
		"W1AW-9>N0CALL-15,WIDE1-1*,9-10": {To: api.Call{Base: "N0CALL", Ssid: 15}, From: api.Call{Base: "W1AW", Ssid: 9},
			Digis: []Digi{{api.Call{Base: "WIDE1", Ssid: 1}, true}, {api.Call{Base: "9", Ssid: 10}, false}}},
	} {
		for _, m := range marks {
			p.ToMark, p.FromMark = m[0], m[1]
			if got := Text(p); got != want {
				t.Errorf("%#v: %q, want %q", p, got, want)
			}
		}
		p.ToMark, p.FromMark = true, false
		wantParse(t, want, p, api.OK)
		wantParse(t, strings.ToLower(want), p, api.OK)
	}
}

// P5.1: a path's word leads to it, with the marks of a command.
func TestP51TextAndParse(t *testing.T) {
	for _, p := range rights() {
		s := Text(p)
		q, e := Parse(s)
		p.ToMark, p.FromMark = true, false
		if !same(p, q) || e != api.OK || Text(q) != s || !Command(q) {
			t.Errorf("%q: %#v, %d", s, q, e)
		}
		wantParse(t, strings.ToLower(s), p, api.OK)
	}
}

// P5.1: a word without ">" is none, whatever else is wrong with it.
func TestP51ParseArrow(t *testing.T) {
	for _, s := range []string{"", "A", "A,B", "*", ",", "A*,B*", "A-B", "a b", "A<B", "A,B,C,D,E,F,G,H,I,J,K", "\xff", strings.Repeat("A", 5000)} {
		wantParse(t, s, Path{}, api.ErrForm)
	}
}

// P5.1: calls that are none; of several ">" the first one counts, and From and To with a "*" are no calls.
func TestP51ParseCall(t *testing.T) {
	for _, s := range []string{
		">", "A>", ">B", "A>>B", "A>B>C", "A>B,C>D", ">>", "A >B", "A> B", " A>B", "A>B ", "A->B", "A-16>B", "A>B-01", "ABCDEFG>B", "A>ABCDEFG",
		"A*>B", "A>B*", "A*>B*", "A*>B,C*", "A>B*,C", "A>B*,C*", "*>B", "A>*", "A>*B", "*A>B",
		"A>B,", "A>,B", "A>,", "A,B>C", ",A>B", "A>B,,C", "A>B,C,", "A>B, C", "A>B,C ,D", "A>B;C", "A>B,C-16", "A>B,C-16*", "A>B,ABCDEFG",
		"A>B,*", "A>B,C,*", "A>B,*C", "A>B,C**", "A>B,C* ", "A>B,C *", "A>B,C*D", "A>B,C*-1", "A>B,C-*1", "A>B,C-*", "A>B,C*,*", "A>B,C*,D*,", "A>B,C*,D*,*", "A>B,C*,D**",
		"A>B,C,D,E,F,G,H,I,", "A>B,C,D,E,F,G,H,I,J-16", "A>B,,C,D,E,F,G,H,I,J,K", "A>B,C,D,E,F,G,H,I,-,K", "A>B*,C,D,E,F,G,H,I,J,K", "A*>B,C,D,E,F,G,H,I,J,K",
		"\u00e4>B", "A>\u017f", "A>B,\u212a", "A>B,C\u2217", "A>B,C\x00", "A>B\n",
	} {
		wantParse(t, s, Path{}, api.ErrCall)
	}
}

// P5.1: more than eight digipeaters, ahead of what is wrong with the ninth, and of "*".
func TestP51ParseMany(t *testing.T) {
	eight := Path{To: c("B"), From: c("A"), ToMark: true}
	for _, s := range []string{"C", "D", "E", "F", "G", "H", "I", "J"} {
		eight.Digis = append(eight.Digis, Digi{Call: c(s)})
	}
	wantParse(t, "A>B,C,D,E,F,G,H,I,J", eight, api.OK)
	for _, s := range []string{"A>B,C,D,E,F,G,H,I,J", "a>b,c*,d,e,f,g,h,i,j", "A>B,C*,D*,E,F,G,H,I,J", "A>B,C,D,E,F,G,H,I,J*"} {
		for _, ninth := range []string{"K", "K*", "", "*", "K-16", "ABCDEFG", " ", "K>L", "K,", "K,L", ",,,", strings.Repeat(",", 5000)} {
			wantParse(t, s+","+ninth, Path{}, api.ErrPath)
		}
	}
}

// P5.1: "*" behind more than one digipeater, asked when all else is right.
func TestP51ParseStars(t *testing.T) {
	for n := 0; n <= 8; n++ {
		for bits := range 1 << n {
			s := "A>B"
			for i := range n {
				s += ",C" + strconv.Itoa(i)
				if bits>>i&1 == 1 {
					s += "*"
				}
			}
			if bits&(bits-1) != 0 {
				wantParse(t, s, Path{}, api.ErrForm)
				wantParse(t, s+"-", Path{}, api.ErrCall)
				wantParse(t, "-"+s, Path{}, api.ErrCall)
				continue
			}
			p := Path{To: c("B"), From: c("A"), ToMark: true}
			for i := range n {
				p.Digis = append(p.Digis, Digi{Call: c("C" + strconv.Itoa(i)), Has: bits > 0 && 1<<i <= bits})
			}
			wantParse(t, s, p, api.OK)
		}
	}
}

// P5.1: all short words of the letters that matter, ahead of ">" and behind it.
func TestP51ParseAll(t *testing.T) {
	const letters = "aB1->,*"
	level := []string{""}
	for range 6 {
		var next []string
		for _, s := range level {
			for i := range len(letters) {
				x := s + letters[i:i+1]
				next = append(next, x)
				for _, word := range []string{x, "A>B," + x, "A>" + x} {
					p, e := slowParse(word)
					wantParse(t, word, p, e)
				}
			}
		}
		level = next
	}
}

// P5.1: words of pieces, any number of them.
func TestP51ParseAny(t *testing.T) {
	pieces := []string{"A", "b-1", "N0CALL-15", "9", "*", "*", ",", ">", "-", "C-16", " "}
	r := rand.New(rand.NewSource(2))
	for range 60000 {
		s := "a>B-3"
		if r.Intn(10) == 0 {
			s = pieces[r.Intn(len(pieces))] + s
		}
		for range r.Intn(11) {
			s += "," + pieces[r.Intn(4)]
			if r.Intn(12) == 0 {
				s += pieces[r.Intn(len(pieces))]
			}
		}
		p, e := slowParse(s)
		wantParse(t, s, p, e)
	}
}

// P5.1: with an error all else is zero, and without digipeaters there is no list.
func TestP51Zero(t *testing.T) {
	for _, s := range []string{"", "A", ">", "A>B,C*,D*", "A>B,C,", "A>B,C,D,E,F,G,H,I,J,K"} {
		if p, e := Parse(s); e == api.OK || !reflect.ValueOf(p).IsZero() {
			t.Errorf("Parse(%q): %#v, %d", s, p, e)
		}
	}
	three := slowPut(Path{To: c("B"), From: c("A"), Digis: line(1, 0)})
	order := slowPut(Path{To: c("B"), From: c("A"), Digis: line(2, 2)})
	for _, s := range []string{"", three[:20], three[:14] + wrongBytes[0], order, slowCall(c("A"), true, true)} {
		if p, n, e := Get(s); e == api.OK || n != 0 || !reflect.ValueOf(p).IsZero() {
			t.Errorf("Get(%q): %#v, %d, %d", s, p, n, e)
		}
	}
}

// memory tells where the texts and the list of p stand.
func memory(p Path) []uintptr {
	l := []uintptr{at(p.To.Base), at(p.From.Base)}
	for i := range p.Digis {
		l = append(l, at(p.Digis[i].Base), uintptr(unsafe.Pointer(&p.Digis[i])))
	}
	return l
}

func at(s string) uintptr { return uintptr(unsafe.Pointer(unsafe.StringData(s))) }

// P5.1: no argument is written into, and what is answered shares no memory with one.
func TestP51NothingShared(t *testing.T) {
	for _, p := range append(rights(), wrongs()...) {
		p = deep(p)
		was := deep(p)
		sent, _ := Sent(p)
		back := Back(p)
		next, _ := Next(p)
		calls := make([]api.Call, len(p.Digis))
		for i, d := range p.Digis {
			calls[i] = d.Call
		}
		via, _ := Via(p.From, p.To, true, calls...)
		Put(p)
		if text := Text(p); text == "" == Right(p) {
			t.Errorf("%#v: %q", p, text)
		}
		if !same(p, was) {
			t.Errorf("%#v became %#v", was, p)
		}
		mine := memory(p)
		theirs := slices.Concat(memory(sent), memory(back), memory(via), []uintptr{at(next.Base)})
		for _, x := range theirs {
			if x != 0 && slices.Contains(mine, x) {
				t.Fatalf("%#v: memory is shared", p)
			}
		}
		for i := range sent.Digis {
			sent.Digis[i] = Digi{Call: c("X"), Has: i%2 == 0}
			back.Digis[i] = Digi{Call: c("Y"), Has: i%2 == 1}
		}
		if !same(p, was) {
			t.Errorf("%#v became %#v", was, p)
		}
	}
}
