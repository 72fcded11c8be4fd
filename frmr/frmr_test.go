package frmr

import (
	"math"
	"math/rand"
	"strings"
	"testing"
	"unsafe"

	"squelch/api"
	"squelch/ctl"
	"squelch/frame"
	"squelch/path"
)

// bools are both.
var bools = []bool{false, true}

// widths are narrow and wide.
var widths = bools

// numbers are some on both sides of each edge, and far outside.
var numbers = []int{0, 1, 3, 6, 7, 8, 9, 63, 64, 126, 127, 128, 129, 255, 256, 257, 263, 1 << 32, 1<<32 + 1, math.MaxInt, -1, -2, -7, -8, -127, -128, -256, math.MinInt}

// texts are some that controls are, or are not.
var texts = []string{"", "\x00", "\x01", "\x07", "\x21", "\x63", "a", "\xff", "\x00\x00", "\x00\xff", "\xff\x00", "ab", "\xff\xff", "\x00\x00\x00", "abc", "abcd", strings.Repeat("x", 256), strings.Repeat("x", 258), strings.Repeat("y", 5000)}

// most is the greatest that Vs and Vr may be, by the document.
func most(wide bool) int {
	if wide {
		return 127
	}
	return 7
}

// room is how many bytes of a control a report has at most, by the document.
func room(wide bool) int {
	if wide {
		return 2
	}
	return 1
}

// modelRight is what the document says of right ones.
func modelRight(r Report, wide bool) bool {
	if r.Vs < 0 || r.Vr < 0 || r.Vs > most(wide) || r.Vr > most(wide) {
		return false
	}
	return len(r.Control) == 1 || wide && len(r.Control) == 2
}

// modelPut is a right report's bytes, by sums, as the document lists them.
func modelPut(r Report, wide bool) string {
	response, marks := 0, 0
	if r.Response {
		response = 1
	}
	if r.W {
		marks += 1
	}
	if r.X {
		marks += 2
	}
	if r.Y {
		marks += 4
	}
	if r.Z {
		marks += 8
	}
	if !wide {
		return r.Control + string([]byte{byte(r.Vr*32 + response*16 + r.Vs*2), byte(marks)})
	}
	return (r.Control + "\x00")[:2] + string([]byte{byte(r.Vs * 2), byte(r.Vr*2 + response), byte(marks)})
}

// with is r with the four marks that a number from 0 to 15 has, by its digits of two.
func with(r Report, marks int) Report {
	r.W, r.X, r.Y, r.Z = marks%2 == 1, marks/2%2 == 1, marks/4%2 == 1, marks/8 == 1
	return r
}

// reports are all right ones of a control whose numbers are of a list.
func reports(control string, l []int) []Report {
	var all []Report
	for _, vs := range l {
		for _, vr := range l {
			for _, response := range bools {
				for marks := range 16 {
					all = append(all, with(Report{Control: control, Vs: vs, Vr: vr, Response: response}, marks))
				}
			}
		}
	}
	return all
}

// upTo are the numbers from 0 on to the last one.
func upTo(last int) []int {
	var l []int
	for n := range last + 1 {
		l = append(l, n)
	}
	return l
}

func wantPut(t *testing.T, r Report, wide bool, want string, e api.Errno) {
	t.Helper()
	if s, got := Put(r, wide); s != want || got != e {
		t.Errorf("Put(%.80q %+d %+d %t, %t): %q, %d; want %q, %d", r.Control, r.Vs, r.Vr, r.Response, wide, s, got, want, e)
	}
}

func wantGet(t *testing.T, s string, wide bool, want Report, e api.Errno) {
	t.Helper()
	if r, got := Get(s, wide); r != want || got != e {
		t.Errorf("Get(%.80q, %t): %+v, %d; want %+v, %d", s, wide, r, got, want, e)
	}
}

// wantNone says that no report is got of s, by an error.
func wantNone(t *testing.T, s string, wide bool, e api.Errno) {
	t.Helper()
	wantGet(t, s, wide, Report{}, e)
}

// wantBoth says that a report's bytes are these, and lead to it.
func wantBoth(t *testing.T, r Report, wide bool, s string) {
	t.Helper()
	if !Right(r, wide) {
		t.Errorf("%+v, %t isn't right", r, wide)
	}
	wantPut(t, r, wide, s, api.OK)
	if wide {
		r.Control = (r.Control + "\x00")[:2]
	}
	wantGet(t, s, wide, r, api.OK)
}

// P9.1: the document's example, and other bytes by hand.
func TestP91Known(t *testing.T) {
	for s, r := range map[string]Report{
		"\xff\x42\x01": {Control: "\xff", Vs: 1, Vr: 2, W: true}, // 255, 66, 1
		"\x00\x00\x00": {Control: "\x00"},
		"\x21\xb6\x0a": {Control: "\x21", Vs: 3, Vr: 5, Response: true, X: true, Z: true},
		"z\xfe\x0f":    {Control: "z", Vs: 7, Vr: 7, Response: true, W: true, X: true, Y: true, Z: true},
		"z\x0e\x00":    {Control: "z", Vs: 7},
		"z\xe0\x00":    {Control: "z", Vr: 7},
		"z\x10\x00":    {Control: "z", Response: true},
		"\x01\x00\x01": {Control: "\x01", W: true},
		"\x01\x00\x02": {Control: "\x01", X: true},
		"\x01\x00\x04": {Control: "\x01", Y: true},
		"\x01\x00\x08": {Control: "\x01", Z: true},
	} {
		wantBoth(t, r, false, s)
	}
	for s, r := range map[string]Report{
		"\xff\x00\x02\x04\x01": {Control: "\xff", Vs: 1, Vr: 2, W: true},
		"\x00\x00\x00\x00\x00": {Control: "\x00"},
		"\x21\x00\x06\x0b\x0a": {Control: "\x21", Vs: 3, Vr: 5, Response: true, X: true, Z: true},
		"ab\xfe\xff\x0f":       {Control: "ab", Vs: 127, Vr: 127, Response: true, W: true, X: true, Y: true, Z: true},
		"ab\xfe\x00\x00":       {Control: "ab", Vs: 127},
		"ab\x00\xfe\x00":       {Control: "ab", Vr: 127},
		"ab\x00\x01\x00":       {Control: "ab", Response: true},
		"\x00\xff\x10\x80\x04": {Control: "\x00\xff", Vs: 8, Vr: 64, Y: true},
	} {
		wantBoth(t, r, true, s)
	}
}

// P9.1: they are right if each number is within its range, and Control is so; others have no bytes.
func TestP91Right(t *testing.T) {
	for _, wide := range widths {
		for _, control := range texts {
			for _, vs := range numbers {
				for _, vr := range numbers {
					r := with(Report{Control: control, Vs: vs, Vr: vr, Response: vs&1 == 0}, vr&15)
					want := modelRight(r, wide)
					if got := Right(r, wide); got != want {
						t.Errorf("Right(%.80q %d %d, %t): %t", control, vs, vr, wide, got)
					}
					if want {
						wantPut(t, r, wide, modelPut(r, wide), api.OK)
					} else {
						wantPut(t, r, wide, "", api.ErrArg)
					}
				}
			}
		}
	}
}

// P9.1: the edges, by hand.
func TestP91RightKnown(t *testing.T) {
	for _, k := range []struct {
		r            Report
		narrow, wide bool
	}{
		{Report{}, false, false},
		{Report{W: true, X: true, Y: true, Z: true, Response: true}, false, false},
		{Report{Control: "a"}, true, true},
		{Report{Control: "\x00"}, true, true},
		{Report{Control: "ab"}, false, true},
		{Report{Control: "abc"}, false, false},
		{Report{Control: "a", Vs: 7, Vr: 7}, true, true},
		{Report{Control: "a", Vs: 8}, false, true},
		{Report{Control: "a", Vr: 8}, false, true},
		{Report{Control: "a", Vs: 127, Vr: 127}, false, true},
		{Report{Control: "a", Vs: 128}, false, false},
		{Report{Control: "a", Vr: 128}, false, false},
		{Report{Control: "a", Vs: -1}, false, false},
		{Report{Control: "a", Vr: -1}, false, false},
	} {
		if narrow, wide := Right(k.r, false), Right(k.r, true); narrow != k.narrow || wide != k.wide {
			t.Errorf("%+v: %t, %t", k.r, narrow, wide)
		}
	}
}

// P9.1: all right reports have their bytes, and are got from these again; wide, with their control filled up.
func TestP91PutGet(t *testing.T) {
	for c := range 256 {
		for _, r := range reports(string([]byte{byte(c)}), upTo(7)) {
			wantBoth(t, r, false, modelPut(r, false))
		}
	}
	for _, r := range reports("\x21\x42", upTo(127)) {
		wantBoth(t, r, true, modelPut(r, true))
	}
	edges := []int{0, 1, 64, 127}
	for a := range 256 {
		for _, more := range []string{"", "\x00", "\x01", "\x80", "\xff"} {
			for _, r := range reports(string([]byte{byte(a)})+more, edges) {
				wantBoth(t, r, true, modelPut(r, true))
			}
		}
	}
}

// P9.1: narrow, each text of three bytes that begins with one of these controls is a right report's, or none.
func TestP91GetNarrow(t *testing.T) {
	for _, control := range []string{"\x00", "\x07", "z", "\xff"} {
		all := map[string]Report{}
		for _, r := range reports(control, upTo(7)) {
			all[modelPut(r, false)] = r
		}
		if len(all) != 2048 {
			t.Fatalf("%d", len(all))
		}
		for a := range 256 {
			for b := range 256 {
				s := control + string([]byte{byte(a), byte(b)})
				if r, ok := all[s]; ok {
					wantGet(t, s, false, r, api.OK)
				} else {
					wantNone(t, s, false, api.ErrForm)
				}
			}
		}
	}
}

// P9.1: so it is wide, with all numbers' bytes and the marks' bytes that matter.
func TestP91GetWide(t *testing.T) {
	all := map[string]Report{}
	for _, r := range reports("\x07\xf0", upTo(127)) {
		all[modelPut(r, true)] = r
	}
	if len(all) != 1<<19 {
		t.Fatalf("%d", len(all))
	}
	for a := range 256 {
		for b := range 256 {
			for _, c := range []int{0, 1, 2, 4, 5, 8, 10, 15, 16, 17, 31, 32, 64, 128, 255} {
				s := "\x07\xf0" + string([]byte{byte(a), byte(b), byte(c)})
				if r, ok := all[s]; ok {
					wantGet(t, s, true, r, api.OK)
				} else {
					wantNone(t, s, true, api.ErrForm)
				}
			}
		}
	}
	for c := range 256 {
		if s := "\x07\x00\x00\x00" + string([]byte{byte(c)}); c > 15 {
			wantNone(t, s, true, api.ErrForm)
		}
	}
}

// P9.1: fewer bytes are short, more are long, whatever they are.
func TestP91GetLength(t *testing.T) {
	for n := range 20 {
		for _, letter := range []string{"\x00", "\x01", "z", "\xff"} {
			s := strings.Repeat(letter, n)
			switch {
			case n < 3:
				wantNone(t, s, false, api.ErrShort)
			case n > 3:
				wantNone(t, s, false, api.ErrLong)
			}
			switch {
			case n < 5:
				wantNone(t, s, true, api.ErrShort)
			case n > 5:
				wantNone(t, s, true, api.ErrLong)
			}
		}
	}
	for _, n := range []int{256, 259, 261, 1 << 16, 1<<16 + 3, 1<<16 + 5} {
		wantNone(t, strings.Repeat("\x00", n), false, api.ErrLong)
		wantNone(t, strings.Repeat("\x00", n), true, api.ErrLong)
	}
}

// P9.1: bytes that have the right length, but one bit that no report has.
func TestP91GetWrong(t *testing.T) {
	for _, s := range []string{"a\x01\x00", "a\xff\x00", "a\x00\x10", "a\x00\x20", "a\x00\x40", "a\x00\x80", "a\x00\xff", "\xff\xff\xff", "a\x42\x11"} {
		wantNone(t, s, false, api.ErrForm)
	}
	for _, s := range []string{"ab\x01\x00\x00", "ab\xff\x00\x00", "ab\x00\x00\x10", "ab\x00\x00\x20", "ab\x00\x00\x40", "ab\x00\x00\x80", "ab\x00\x01\xff", "\xff\xff\xff\xff\xff"} {
		wantNone(t, s, true, api.ErrForm)
	}
}

// inside asks whether x stands in the memory of s.
func inside(x, s string) bool {
	a, b := uintptr(unsafe.Pointer(unsafe.StringData(x))), uintptr(unsafe.Pointer(unsafe.StringData(s)))
	return a >= b && a < b+uintptr(len(s))
}

// P9.1: what is answered shares no memory with an argument.
func TestP91Memory(t *testing.T) {
	for _, wide := range widths {
		s := strings.Repeat("\x00", 3+2*(room(wide)-1))
		if r, _ := Get(s, wide); r.Control == "" || inside(r.Control, s) {
			t.Errorf("Get: %q", r.Control)
		}
		s = strings.Clone(ab + "\xff\xff\xff")
		if r, _ := Of(s, wide, 0, 0); r.Control == "" || inside(r.Control, s) {
			t.Errorf("Of: %q", r.Control)
		}
		control := strings.Repeat("c", room(wide))
		if x, _ := Put(Report{Control: control}, wide); x == "" || inside(x, control) {
			t.Errorf("Put: %q", x)
		}
	}
}

// ab is the bytes of the path of a command from A to B.
const ab = "\x84\x40\x40\x40\x40\x40\xe0\x82\x40\x40\x40\x40\x40\x61"

// ways are right paths of all marks, and digipeaters.
func ways() []path.Path {
	var l []path.Path
	for _, to := range bools {
		for _, from := range bools {
			for _, n := range []int{0, 1, 2, 8} {
				for sent := range n + 1 {
					p := path.Path{To: api.Call{Base: "B"}, From: api.Call{Base: "N0CALL", Ssid: 7}, ToMark: to, FromMark: from}
					for i := range n {
						p.Digis = append(p.Digis, path.Digi{Call: api.Call{Base: "WIDE", Ssid: i}, Has: i < sent})
					}
					l = append(l, p)
				}
			}
		}
	}
	return l
}

// modelOf is what the document says of a right path and what stands behind its bytes.
func modelOf(p path.Path, behind string, wide bool, vs, vr int) (Report, bool) {
	head, _ := path.Put(p)
	_, e := frame.Decode(head+behind, wide)
	if e == api.OK || behind == "" || vs < 0 || vr < 0 || vs > most(wide) || vr > most(wide) {
		return Report{}, false
	}
	r := Report{Control: behind, Vs: vs, Vr: vr, Response: p.FromMark && !p.ToMark}
	if len(behind) > room(wide) {
		r.Control = behind[:room(wide)]
	}
	c, n, e := ctl.Get(behind, wide)
	rest := len(behind) - n // behind the control
	switch c.Kind {
	case 0:
		r.W = e != api.OK
	case ctl.RR, ctl.RNR, ctl.REJ, ctl.SREJ, ctl.SABM, ctl.SABME, ctl.DISC, ctl.DM, ctl.UA:
		r.X = true
	case ctl.I, ctl.UI:
		r.Y = rest > 257 // Pid stands ahead of Info
	default:
		r.Y = rest > 256
	}
	return r, true
}

func wantOf(t *testing.T, s string, wide bool, vs, vr int, want Report, ok bool) {
	t.Helper()
	if r, got := Of(s, wide, vs, vr); r != want || got != ok {
		t.Errorf("Of(%.80q.. %d, %t, %d, %d): %+v, %t; want %+v, %t", s, len(s), wide, vs, vr, r, got, want, ok)
	}
}

// wantModel says that of p and of what stands behind it is told what the document says; what is told is right.
func wantModel(t *testing.T, p path.Path, behind string, wide bool, vs, vr int) {
	t.Helper()
	head, _ := path.Put(p)
	want, ok := modelOf(p, behind, wide, vs, vr)
	wantOf(t, head+behind, wide, vs, vr, want, ok)
	if r, ok := Of(head+behind, wide, vs, vr); ok && !Right(r, wide) {
		t.Errorf("Of(%.80q, %t, %d, %d): %+v isn't right", behind, wide, vs, vr, r)
	}
}

// P9.1: narrow reports of frames' bytes, by hand.
func TestP91OfNarrow(t *testing.T) {
	x := strings.Repeat("x", 257)
	for behind, want := range map[string]Report{
		"\x07":                 {Control: "\x07", W: true},
		"\xff" + x + x:         {Control: "\xff", W: true},
		"\x17\x00\x00":         {Control: "\x17", W: true},
		"\x01z":                {Control: "\x01", X: true},
		"\xe1\x00" + x:         {Control: "\xe1", X: true}, // X, even where there is too much
		"\x63\x00":             {Control: "\x63", X: true},
		"\x3f" + x:             {Control: "\x3f", X: true},
		"\x00\xf0" + x:         {Control: "\x00", Y: true},
		"\xfe\x00" + x + x:     {Control: "\xfe", Y: true},
		"\x03\xf0" + x:         {Control: "\x03", Y: true},
		"\x87" + x:             {Control: "\x87", Y: true},
		"\xaf" + x + "y":       {Control: "\xaf", Y: true},
		"\xe3" + x:             {Control: "\xe3", Y: true},
		"\x00":                 {Control: "\x00"}, // Pid isn't there
		"\x13":                 {Control: "\x13"},
		"\x01\x00":             {Control: "\x01", X: true},
		"\x01\x03\xf0" + x[1:]: {Control: "\x01", X: true},
	} {
		want.Vs, want.Vr = 7, 2
		wantOf(t, ab+behind, false, 7, 2, want, true)
	}
	for _, behind := range []string{"", "\x01", "\x00\xf0", "\x00\xf0" + x[1:], "\x03\x00", "\x63", "\x73", "\x87" + x[1:], "\x87", "\xaf", "\xe3abc"} {
		wantOf(t, ab+behind, false, 7, 2, Report{}, false)
	}
}

// P9.1: wide ones: two bytes, as many as are there, whatever control they begin with.
func TestP91OfWide(t *testing.T) {
	x := strings.Repeat("x", 257)
	for behind, want := range map[string]Report{
		"\x07":                 {Control: "\x07", W: true},
		"\x07z":                {Control: "\x07z", W: true},
		"\xff\xff\xff":         {Control: "\xff\xff", W: true},
		"\x11\x00":             {Control: "\x11\x00", W: true},
		"\x00":                 {Control: "\x00", W: true}, // a control of two bytes that has one
		"\x01":                 {Control: "\x01", W: true},
		"\x11":                 {Control: "\x11", W: true},
		"\x01\x00z":            {Control: "\x01\x00", X: true},
		"\x0d\xff" + x:         {Control: "\x0d\xff", X: true},
		"\x63\x00":             {Control: "\x63\x00", X: true}, // the second byte is none of the control's
		"\x53zz":               {Control: "\x53z", X: true},
		"\x00\x01":             {Control: "\x00\x01"}, // Pid isn't there
		"\x03":                 {Control: "\x03"},
		"\x00\x01\xf0" + x:     {Control: "\x00\x01", Y: true},
		"\x03\xf0" + x:         {Control: "\x03\xf0", Y: true},
		"\xe3" + x:             {Control: "\xe3x", Y: true},
		"\xfe\xff\x00" + x + x: {Control: "\xfe\xff", Y: true},
	} {
		want.Vs, want.Vr = 127, 8
		wantOf(t, ab+behind, true, 127, 8, want, true)
	}
	for _, behind := range []string{"", "\x01\x00", "\x00\x00\xf0", "\x00\x00\xf0" + x[1:], "\x03\x00", "\x63", "\x7f", "\x87" + x[1:], "\xaf", "\xe3abc"} {
		wantOf(t, ab+behind, true, 127, 8, Report{}, false)
	}
}

// P9.1: whether it was a response hangs on both marks of its path, whatever the digipeaters' are.
func TestP91OfResponse(t *testing.T) {
	for _, p := range ways() {
		head, _ := path.Put(p)
		for _, wide := range widths {
			for behind, want := range map[string]Report{"\xff\xff": {W: true}, "\x63\x01": {X: true}, "\xe3" + strings.Repeat("\x02", 257): {Y: true}, "\x13": {}} {
				want.Control = behind[:min(len(behind), room(wide))]
				want.Vs, want.Vr, want.Response = 1, 2, p.FromMark && !p.ToMark
				wantOf(t, head+behind, wide, 1, 2, want, true)
			}
		}
	}
}

// P9.1: each first byte, with all that may follow about the edges, by each of four paths.
func TestP91OfAll(t *testing.T) {
	l := ways()
	for _, p := range []path.Path{l[0], l[5], l[len(l)-20], l[len(l)-1]} {
		for a := range 256 {
			for _, b := range []string{"", "\x00", "\x01", "\x03", "\x07", "\xfe", "\xff"} {
				for _, n := range []int{0, 1, 2, 253, 254, 255, 256, 257, 258, 259} {
					behind := string([]byte{byte(a)}) + b + strings.Repeat("q", n)
					wantModel(t, p, behind, false, n%8, len(p.Digis)%8)
					wantModel(t, p, behind, true, a/2, n%128)
				}
			}
		}
	}
}

// P9.1: there is none where vs or vr isn't right.
func TestP91OfNumbers(t *testing.T) {
	for _, wide := range widths {
		for _, vs := range numbers {
			for _, vr := range numbers {
				for _, behind := range []string{"\x07", "\x63z", "\x03", "\xe3" + strings.Repeat("\x02", 257), "\x63"} {
					wantModel(t, ways()[3], behind, wide, vs, vr)
				}
			}
		}
	}
	for _, n := range []int{8, 127, 128, -1} {
		wantOf(t, ab+"\x07", false, n, 0, Report{}, false)
		wantOf(t, ab+"\x07", false, 0, n, Report{}, false)
	}
	for _, n := range []int{128, 255, 256, -1} {
		wantOf(t, ab+"\x07", true, n, 0, Report{}, false)
		wantOf(t, ab+"\x07", true, 0, n, Report{}, false)
	}
}

// P9.1: there is none of bytes whose path can't be decoded, or behind which nothing stands.
func TestP91OfNoPath(t *testing.T) {
	order := ab[:13] + "\x60" + ab[:6] + "\x60" + ab[:6] + "\xe1" // one has sent it behind one that hasn't
	many := ab[:13] + "\x60" + strings.Repeat(ab[:6]+"\x60", 8) + ab[7:]
	once := ab[:6] + "\xe1" // its first call is the last one
	for s, e := range map[string]api.Errno{
		"": api.ErrShort, "\xff": api.ErrShort, "junk": api.ErrShort, "\x63z": api.ErrShort,
		once: api.ErrForm, once + "\xff": api.ErrForm, "\x85" + ab[1:] + "\xff\xff": api.ErrForm, strings.Repeat("\xff", 300): api.ErrForm, strings.Repeat("\x00", 300): api.ErrForm,
		order: api.ErrPath, order + "\xff\xff": api.ErrPath, many: api.ErrPath, many + "\xff\xff": api.ErrPath,
	} {
		if _, _, got := path.Get(s); got != e {
			t.Fatalf("%.80q: the path's error is %d", s, got)
		}
		wantOf(t, s, false, 1, 2, Report{}, false)
		wantOf(t, s, true, 1, 2, Report{}, false)
	}
	for _, wide := range widths {
		for _, p := range ways() {
			head, _ := path.Put(p)
			for n := range len(head) + 1 {
				wantOf(t, head[:n], wide, 1, 2, Report{}, false)
			}
		}
	}
}

// P9.1: any bytes behind a path.
func TestP91OfRandom(t *testing.T) {
	r := rand.New(rand.NewSource(9))
	l := ways()
	for range 100000 {
		n := r.Intn(5)
		if r.Intn(5) == 0 {
			n = 250 + r.Intn(15)
		}
		b := make([]byte, n)
		for i := range b {
			b[i] = byte(r.Intn(256))
		}
		for _, wide := range widths {
			wantModel(t, l[r.Intn(len(l))], string(b), wide, r.Intn(most(wide)+5)-2, r.Intn(10)-1)
		}
	}
}
