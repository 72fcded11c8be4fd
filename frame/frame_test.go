package frame

import (
	"fmt"
	"math"
	"math/rand"
	"reflect"
	"slices"
	"strconv"
	"strings"
	"testing"
	"unsafe"

	"squelch/api"
	"squelch/ctl"
	"squelch/path"
)

// widths are narrow and wide.
var widths = []bool{false, true}

// Which kinds have what, by the words of layer 6: in the order of the kinds, the first one's kind is 1.
var (
	kindNames = []string{"I", "RR", "RNR", "REJ", "SREJ", "SABM", "SABME", "DISC", "DM", "UA", "FRMR", "UI", "XID", "TEST"}
	withInfo  = " I FRMR UI XID TEST "
	withPid   = " I UI "
	withNr    = " I RR RNR REJ SREJ "
	withNs    = " I "
)

// noKinds are kinds that aren't any.
var noKinds = []int{0, -1, 15, 16, 255, 257, 1<<32 + 1, math.MaxInt, math.MinInt}

// has asks whether a kind is one of those in a list of names.
func has(list string, kind int) bool {
	return kind >= 1 && kind <= 14 && strings.Contains(list, " "+kindNames[kind-1]+" ")
}

func c(base string) api.Call { return api.Call{Base: base} }

// way is the path from A to B with n digipeaters, of whom the first ones have sent it.
func way(n, sent int) path.Path {
	p := path.Path{To: c("B"), From: api.Call{Base: "N0CALL", Ssid: 7}, ToMark: true}
	for i := range n {
		p.Digis = append(p.Digis, path.Digi{Call: api.Call{Base: "WIDE" + strconv.Itoa(i), Ssid: 15 - i}, Has: i < sent})
	}
	return p
}

// ways are right paths.
func ways() []path.Path {
	l := []path.Path{{To: c("B"), From: c("A")}, {To: c("B"), From: c("A"), FromMark: true}, {To: c("B"), From: c("A"), ToMark: true, FromMark: true}}
	for _, n := range []int{0, 1, 2, 8} {
		for sent := range n + 1 {
			l = append(l, way(n, sent))
		}
	}
	return l
}

// wrongWays are paths that aren't right.
func wrongWays() []path.Path {
	gap, many, lost := way(2, 0), way(8, 0), way(3, 0)
	gap.Digis[1].Has = true
	many.Digis = append(many.Digis, path.Digi{Call: c("C")})
	lost.Digis[2].Base = "lost"
	return []path.Path{{}, {To: c("B")}, {From: c("A")}, {To: c("B"), From: c("a")}, {To: api.Call{Base: "B", Ssid: 16}, From: c("A")}, gap, many, lost}
}

// controls are right controls of all kinds, with their numbers at the edges.
func controls(wide bool) []ctl.Ctl {
	var l []ctl.Ctl
	below := 8
	if wide {
		below = 128
	}
	for kind := 1; kind <= 14; kind++ {
		nrs, nss := []int{0}, []int{0}
		if has(withNr, kind) {
			nrs = []int{0, 1, below / 2, below - 1}
		}
		if has(withNs, kind) {
			nss = []int{0, 1, below / 2, below - 1}
		}
		for _, nr := range nrs {
			for _, ns := range nss {
				l = append(l, ctl.Ctl{Kind: kind, Nr: nr, Ns: ns}, ctl.Ctl{Kind: kind, Nr: nr, Ns: ns, Pf: true})
			}
		}
	}
	return l
}

// text is n bytes, of which no two beside one another are alike.
func text(n int) string {
	b := make([]byte, n)
	for i := range b {
		b[i] = byte(i*7 + 200)
	}
	return string(b)
}

// on is right frames that go along p: all kinds, with what they may have.
func on(p path.Path, wide bool) []Frame {
	var l []Frame
	for _, k := range controls(wide) {
		pids, lengths := []int{0}, []int{0}
		if has(withPid, k.Kind) {
			pids = []int{0, 1, 207, 240, 255}
		}
		if has(withInfo, k.Kind) {
			lengths = []int{0, 1, 2, 255, 256}
		}
		for _, pid := range pids {
			for _, n := range lengths {
				l = append(l, Frame{Path: p, Ctl: k, Pid: pid, Info: text(n)})
			}
		}
	}
	return l
}

// rights are right frames.
func rights(wide bool) []Frame {
	var l []Frame
	for _, p := range ways() {
		l = append(l, on(p, wide)...)
	}
	return l
}

// slowFault is what the words say that is wrong with a frame.
func slowFault(f Frame, wide bool) api.Errno {
	pids := 1 // how many numbers Pid may be
	if has(withPid, f.Ctl.Kind) {
		pids = 256
	}
	switch {
	case !path.Right(f.Path):
		return api.ErrPath
	case !ctl.Right(f.Ctl, wide), f.Pid < 0, f.Pid >= pids:
		return api.ErrArg
	case len(f.Info) > 0 && !has(withInfo, f.Ctl.Kind):
		return api.ErrForm
	case len(f.Info) > 256:
		return api.ErrLong
	}
	return api.OK
}

// slowEncode is a right frame's bytes, by the words.
func slowEncode(f Frame, wide bool) string {
	p, _ := path.Put(f.Path)
	k, _ := ctl.Put(f.Ctl, wide)
	pid := ""
	if has(withPid, f.Ctl.Kind) {
		pid = string([]byte{byte(f.Pid)})
	}
	return p + k + pid + f.Info
}

// slowDecode is what the words say of bytes.
func slowDecode(s string, wide bool) (Frame, api.Errno) {
	p, n, e := path.Get(s)
	if e != api.OK {
		return Frame{}, e
	}
	k, m, e := ctl.Get(s[n:], wide)
	if e != api.OK {
		return Frame{}, e
	}
	f, rest := Frame{Path: p, Ctl: k}, []byte(s)[n+m:]
	switch {
	case has(withPid, k.Kind) && len(rest) == 0:
		return Frame{}, api.ErrShort
	case has(withPid, k.Kind):
		f.Pid, rest = int(rest[0]), rest[1:]
	case !has(withInfo, k.Kind) && len(rest) > 0:
		return Frame{}, api.ErrForm
	}
	if len(rest) > 256 {
		return Frame{}, api.ErrLong
	}
	f.Info = string(rest)
	return f, api.OK
}

// same holds frames against each other, for which an empty list and no list are one.
func same(a, b Frame) bool {
	return a.To == b.To && a.From == b.From && a.ToMark == b.ToMark && a.FromMark == b.FromMark && slices.Equal(a.Digis, b.Digis) && a.Ctl == b.Ctl && a.Pid == b.Pid && a.Info == b.Info
}

// tell is f for a reader: its bytes may be any.
func tell(f Frame) string { return fmt.Sprintf("%.200q", fmt.Sprint(f)) }

// wantEncode says what f's bytes are, and whether it is right.
func wantEncode(t *testing.T, f Frame, wide bool, want string, e api.Errno) {
	t.Helper()
	if s, got := Encode(f, wide); s != want || got != e {
		t.Errorf("Encode(%s, %t): %.300q, %d; want %.300q, %d", tell(f), wide, s, got, want, e)
	}
	if Right(f, wide) != (e == api.OK) {
		t.Errorf("Right(%s, %t): %t", tell(f), wide, e != api.OK)
	}
}

func wantDecode(t *testing.T, s string, wide bool, want Frame, e api.Errno) {
	t.Helper()
	if f, got := Decode(s, wide); !same(f, want) || got != e {
		t.Errorf("Decode(%.300q, %t): %s, %d; want %s, %d", s, wide, tell(f), got, tell(want), e)
	}
}

// wantNone says that no frame is told of s, but an error.
func wantNone(t *testing.T, s string, wide bool, e api.Errno) {
	t.Helper()
	wantDecode(t, s, wide, Frame{}, e)
	if f, _ := Decode(s, wide); !reflect.ValueOf(f).IsZero() {
		t.Errorf("Decode(%.300q, %t): %s isn't the zero one", s, wide, tell(f))
	}
}

// ab is the bytes of the path from A to B, a command.
const ab = "\x84\x40\x40\x40\x40\x40\xe0\x82\x40\x40\x40\x40\x40\x61"

// known are frames from A to B, with the bytes behind ab, narrow and wide, and their words.
var known = []struct {
	control      ctl.Ctl
	pid          int
	info         string
	narrow, wide string
	word         string
}{
	{ctl.Ctl{Kind: ctl.UI}, 240, "hi", "\x03\xf0hi", "\x03\xf0hi", "A>B UI 2"},
	{ctl.Ctl{Kind: ctl.UI, Pf: true}, 0, "", "\x13\x00", "\x13\x00", "A>B UI P"},
	{ctl.Ctl{Kind: ctl.I, Nr: 3, Ns: 5, Pf: true}, 240, "hello", "\x7a\xf0hello", "\x0a\x07\xf0hello", "A>B I S5 R3 P 5"},
	{ctl.Ctl{Kind: ctl.I}, 255, "", "\x00\xff", "\x00\x00\xff", "A>B I S0 R0"},
	{ctl.Ctl{Kind: ctl.RR, Nr: 7}, 0, "", "\xe1", "\x01\x0e", "A>B RR R7"},
	{ctl.Ctl{Kind: ctl.RNR, Nr: 1, Pf: true}, 0, "", "\x35", "\x05\x03", "A>B RNR R1 P"},
	{ctl.Ctl{Kind: ctl.REJ}, 0, "", "\x09", "\x09\x00", "A>B REJ R0"},
	{ctl.Ctl{Kind: ctl.SREJ, Nr: 2}, 0, "", "\x4d", "\x0d\x04", "A>B SREJ R2"},
	{ctl.Ctl{Kind: ctl.SABM, Pf: true}, 0, "", "\x3f", "\x3f", "A>B SABM P"},
	{ctl.Ctl{Kind: ctl.SABME, Pf: true}, 0, "", "\x7f", "\x7f", "A>B SABME P"},
	{ctl.Ctl{Kind: ctl.DISC}, 0, "", "\x43", "\x43", "A>B DISC"},
	{ctl.Ctl{Kind: ctl.DM}, 0, "", "\x0f", "\x0f", "A>B DM"},
	{ctl.Ctl{Kind: ctl.UA}, 0, "", "\x63", "\x63", "A>B UA"},
	{ctl.Ctl{Kind: ctl.FRMR}, 0, "\xff\x42\x01", "\x87\xff\x42\x01", "\x87\xff\x42\x01", "A>B FRMR 3"},
	{ctl.Ctl{Kind: ctl.XID, Pf: true}, 0, "\x82\x80", "\xbf\x82\x80", "\xbf\x82\x80", "A>B XID P 2"},
	{ctl.Ctl{Kind: ctl.TEST}, 0, "\x00", "\xe3\x00", "\xe3\x00", "A>B TEST 1"},
}

// P7.1: known frames: the document's example, and each kind: their bytes and their words.
func TestP71Known(t *testing.T) {
	p := path.Path{To: c("B"), From: c("A"), ToMark: true}
	for _, k := range known {
		f := Frame{Path: p, Ctl: k.control, Pid: k.pid, Info: k.info}
		wantEncode(t, f, false, ab+k.narrow, api.OK)
		wantEncode(t, f, true, ab+k.wide, api.OK)
		wantDecode(t, ab+k.narrow, false, f, api.OK)
		wantDecode(t, ab+k.wide, true, f, api.OK)
		if got := Text(f); got != k.word {
			t.Errorf("Text(%v): %q; want %q", f, got, k.word)
		}
		if got := Kind(ab + k.narrow); got != k.control.Kind {
			t.Errorf("Kind(%q): %d; want %d", ab+k.narrow, got, k.control.Kind)
		}
	}
	if s, _ := Encode(Frame{Path: p, Ctl: ctl.Ctl{Kind: ctl.UI}, Pid: 240, Info: "hi"}, false); len(s) != 18 {
		t.Errorf("%q has %d bytes", s, len(s))
	}
}

// P7.1: right frames have the bytes that the words say, which lead to them.
func TestP71EncodeAndDecode(t *testing.T) {
	for _, wide := range widths {
		for _, f := range rights(wide) {
			s := slowEncode(f, wide)
			wantEncode(t, f, wide, s, api.OK)
			wantDecode(t, s, wide, f, api.OK)
			if len(s) > api.MaxFrame {
				t.Errorf("%s, %t has %d bytes", tell(f), wide, len(s))
			}
		}
	}
}

// P7.1: a frame isn't written into, nor shared: of what is answered, one thing may be changed without the other.
func TestP71NothingShared(t *testing.T) {
	for _, wide := range widths {
		for _, f := range on(way(8, 3), wide) {
			was := f
			was.Digis = slices.Clone(f.Digis)
			s, _ := Encode(f, wide)
			Text(f)
			Done(f)
			if !same(f, was) {
				t.Fatalf("%s became %s", tell(was), tell(f))
			}
			got, _ := Decode(s, wide)
			for _, x := range []string{got.To.Base, got.From.Base, got.Digis[7].Base, got.Info} {
				if x != "" && inside(x, s) {
					t.Errorf("Decode(%.300q, %t): %q is shared", s, wide, x)
				}
			}
			if f.Info != "" && inside(s, f.Info) {
				t.Errorf("Encode(%s, %t) is shared", tell(f), wide)
			}
		}
	}
}

// inside asks whether x stands in the memory of s.
func inside(x, s string) bool {
	a, b := uintptr(unsafe.Pointer(unsafe.StringData(x))), uintptr(unsafe.Pointer(unsafe.StringData(s)))
	return a >= b && a < b+uintptr(len(s))
}

// P7.1: wrong frames, each alone wrong by one thing.
func TestP71EncodeWrong(t *testing.T) {
	for _, wide := range widths {
		for _, k := range controls(wide) {
			good := Frame{Path: way(2, 1), Ctl: k}
			for _, p := range wrongWays() {
				wantEncode(t, Frame{Path: p, Ctl: k}, wide, "", api.ErrPath)
			}
			for _, pid := range []int{-1, 256, 257, 1 << 32, 1<<32 + 240, math.MaxInt, math.MinInt} {
				bad := good
				bad.Pid = pid
				wantEncode(t, bad, wide, "", api.ErrArg)
			}
			for _, pid := range []int{1, 240, 255} {
				bad := good
				bad.Pid = pid
				if !has(withPid, k.Kind) {
					wantEncode(t, bad, wide, "", api.ErrArg)
				}
			}
			for _, n := range []int{1, 256, 257, 258, 5000} {
				bad := good
				bad.Info = text(n)
				switch {
				case !has(withInfo, k.Kind):
					wantEncode(t, bad, wide, "", api.ErrForm)
				case n > 256:
					wantEncode(t, bad, wide, "", api.ErrLong)
				}
			}
		}
		for _, kind := range noKinds {
			wantEncode(t, Frame{Path: way(2, 1), Ctl: ctl.Ctl{Kind: kind}}, wide, "", api.ErrArg)
		}
		wantEncode(t, Frame{}, wide, "", api.ErrPath)
	}
}

// P7.1: numbers from 8 on are right wide alone, and those from 128 on never; where a kind has none they are 0.
func TestP71EncodeNumbers(t *testing.T) {
	for _, k := range []ctl.Ctl{{Kind: ctl.I, Nr: 8}, {Kind: ctl.I, Ns: 8}, {Kind: ctl.I, Nr: 127, Ns: 127}, {Kind: ctl.RR, Nr: 8}, {Kind: ctl.SREJ, Nr: 127}} {
		f := Frame{Path: way(1, 0), Ctl: k}
		wantEncode(t, f, false, "", api.ErrArg)
		wantEncode(t, f, true, slowEncode(f, true), api.OK)
	}
	for _, k := range []ctl.Ctl{{Kind: ctl.I, Nr: 128}, {Kind: ctl.I, Ns: 128}, {Kind: ctl.I, Nr: -1}, {Kind: ctl.RR, Nr: -1}, {Kind: ctl.RR, Ns: 1}, {Kind: ctl.UA, Nr: 1}, {Kind: ctl.UI, Ns: 1}} {
		for _, wide := range widths {
			wantEncode(t, Frame{Path: way(1, 0), Ctl: k}, wide, "", api.ErrArg)
		}
	}
}

// P7.1: frames that are wrong by many things: the error that is named first is told.
func TestP71EncodeOrder(t *testing.T) {
	paths := append(wrongWays(), way(0, 0), way(8, 8))
	var kinds []ctl.Ctl
	for _, kind := range append([]int{1, 2, 3, 4, 5, 6, 7, 8, 9, 10, 11, 12, 13, 14}, noKinds...) {
		kinds = append(kinds, ctl.Ctl{Kind: kind}, ctl.Ctl{Kind: kind, Nr: 9, Pf: true}, ctl.Ctl{Kind: kind, Nr: 128, Ns: -1})
	}
	for _, p := range paths {
		for _, k := range kinds {
			for _, pid := range []int{-1, 0, 1, 255, 256} {
				for _, n := range []int{0, 1, 256, 257} {
					for _, wide := range widths {
						f, want := Frame{Path: p, Ctl: k, Pid: pid, Info: text(n)}, ""
						e := slowFault(f, wide)
						if e == api.OK {
							want = slowEncode(f, wide)
						}
						wantEncode(t, f, wide, want, e)
					}
				}
			}
		}
	}
}

// P7.1: bytes that are none: by their path, by their control, without Pid, with information that may not be.
func TestP71DecodeWrong(t *testing.T) {
	once := "\x84\x40\x40\x40\x40\x40\xe1\x82\x40\x40\x40\x40\x40\x61" // its first call is the last one
	order, _ := path.Put(way(2, 0))
	order = order[:27] + string([]byte{order[27] | 128})
	for s, e := range map[string]api.Errno{
		"": api.ErrShort, "junk": api.ErrShort, ab[:7]: api.ErrShort, ab[:13]: api.ErrShort, "junkjunk": api.ErrForm,
		once + "\x63": api.ErrForm, "\x85" + ab[1:] + "\x63": api.ErrForm, order + "\x63": api.ErrPath,
		strings.Repeat(ab[:7], 10) + ab[7:] + "\x63": api.ErrPath,
		ab: api.ErrShort, ab + "\x07": api.ErrForm, ab + "\xff": api.ErrForm, ab + "\xff" + text(300): api.ErrForm,
		ab + "\x03": api.ErrShort, ab + "\x13": api.ErrShort,
		ab + "\x63x": api.ErrForm, ab + "\x3f\x00": api.ErrForm, ab + "\x43" + text(300): api.ErrForm,
		ab + "\x03\xf0" + text(257): api.ErrLong, ab + "\x87" + text(257): api.ErrLong, ab + "\xaf" + text(257): api.ErrLong, ab + "\xe3" + text(5000): api.ErrLong,
	} {
		wantNone(t, s, false, e)
		wantNone(t, s, true, e)
	}
	for s, e := range map[string]api.Errno{ab + "\x00": api.ErrShort, ab + "\x01x": api.ErrForm, ab + "\x01\x00": api.ErrForm, ab + "\x00\x00" + text(257): api.ErrLong} {
		wantNone(t, s, false, e)
	}
	for s, e := range map[string]api.Errno{ab + "\x00": api.ErrShort, ab + "\x01": api.ErrShort, ab + "\x00\x00": api.ErrShort, ab + "\x11\x00": api.ErrForm, ab + "\x01\x00x": api.ErrForm, ab + "\x00\x00\x00" + text(257): api.ErrLong} {
		wantNone(t, s, true, e)
	}
}

// P7.1: each control of one byte and of two, with all that may follow; bytes that a frame is told of are its own.
func TestP71DecodeAll(t *testing.T) {
	for _, wide := range widths {
		for a := range 256 {
			for _, b := range []string{"", "\x00", "\x01", "\x03", "\x07", "\xfe", "\xff"} {
				for _, n := range []int{0, 1, 255, 256, 257} {
					s := ab + string([]byte{byte(a)}) + b + text(n)
					want, e := slowDecode(s, wide)
					wantDecode(t, s, wide, want, e)
					if e == api.OK {
						wantEncode(t, want, wide, s, api.OK)
					}
				}
			}
		}
	}
}

// P7.1: frames cut anywhere, and with a byte changed.
func TestP71DecodeSpoilt(t *testing.T) {
	r := rand.New(rand.NewSource(7))
	for _, wide := range widths {
		for _, f := range on(way(2, 1), wide) {
			s, _ := Encode(f, wide)
			for n := range min(len(s), 40) {
				want, e := slowDecode(s[:n], wide)
				wantDecode(t, s[:n], wide, want, e)
			}
			for range 50 {
				b := []byte(s)
				b[r.Intn(min(len(b), 40))] = byte(r.Intn(256))
				want, e := slowDecode(string(b), wide)
				wantDecode(t, string(b), wide, want, e)
				if e == api.OK {
					wantEncode(t, want, wide, string(b), api.OK)
				}
			}
		}
	}
}

// P7.1: the kind of right frames' bytes, narrow; from SABM on, of wide ones, too.
func TestP71Kind(t *testing.T) {
	for _, wide := range widths {
		for _, f := range rights(wide) {
			s := slowEncode(f, wide)
			if got := Kind(s); (!wide || f.Ctl.Kind >= ctl.SABM) && got != f.Ctl.Kind {
				t.Errorf("Kind(%.300q): %d; want %d", s, got, f.Ctl.Kind)
			}
		}
	}
	for a := range 256 {
		for _, more := range []string{"", "\x00", "\x03" + text(300)} {
			s := string([]byte{byte(a)}) + more
			k, _, _ := ctl.Get(s, false)
			if got := Kind(ab + s); got != k.Kind {
				t.Errorf("Kind(%.300q): %d; want %d", ab+s, got, k.Kind)
			}
		}
	}
}

// P7.1: bytes of which the path and the control are there have a kind, be the rest as it will; others have none.
func TestP71KindKnown(t *testing.T) {
	for s, want := range map[string]int{
		ab + "\x00": ctl.I, ab + "\x03": ctl.UI, ab + "\xe1x": ctl.RR, ab + "\x63" + text(300): ctl.UA, ab + "\x03\xf0" + text(300): ctl.UI,
		"": 0, "junk": 0, "junkjunkjunkjunk": 0, ab: 0, ab[:13]: 0, ab[:7] + "\x63": 0, "\x63": 0, "\x00": 0, ab[7:] + "\x63": 0, ab + "\x07": 0, ab + "\xff\x63": 0, "\x85" + ab[1:] + "\x63": 0,
	} {
		if got := Kind(s); got != want {
			t.Errorf("Kind(%.300q): %d; want %d", s, got, want)
		}
	}
}

// P7.1: words, with a path's mark; of frames that aren't right, too, if their path and their kind are.
func TestP71Text(t *testing.T) {
	for want, f := range map[string]Frame{
		"N0CALL-7>B UA P":                        {Path: way(0, 0), Ctl: ctl.Ctl{Kind: ctl.UA, Pf: true}},
		"N0CALL-7>B,WIDE0-15,WIDE1-14 UI":        {Path: way(2, 0), Ctl: ctl.Ctl{Kind: ctl.UI}, Pid: 240},
		"N0CALL-7>B,WIDE0-15*,WIDE1-14 UI 256":   {Path: way(2, 1), Ctl: ctl.Ctl{Kind: ctl.UI}, Pid: 240, Info: text(256)},
		"N0CALL-7>B,WIDE0-15* I S127 R100 P 10":  {Path: way(1, 1), Ctl: ctl.Ctl{Kind: ctl.I, Nr: 100, Ns: 127, Pf: true}, Info: text(10)},
		"N0CALL-7>B I S-1 R1000 257":             {Path: way(0, 0), Ctl: ctl.Ctl{Kind: ctl.I, Nr: 1000, Ns: -1}, Pid: 256, Info: text(257)},
		"N0CALL-7>B RNR R5 P 1":                  {Path: way(0, 0), Ctl: ctl.Ctl{Kind: ctl.RNR, Nr: 5, Ns: 3, Pf: true}, Info: "x"},
		"N0CALL-7>B,WIDE0-15 DISC 5000":          {Path: way(1, 0), Ctl: ctl.Ctl{Kind: ctl.DISC, Nr: 1, Ns: 2}, Pid: -3, Info: text(5000)},
		"N0CALL-7>B SREJ R-9223372036854775808":  {Path: way(0, 0), Ctl: ctl.Ctl{Kind: ctl.SREJ, Nr: math.MinInt}},
		"N0CALL-7>B,WIDE0-15,WIDE1-14* FRMR P 3": {Path: way(2, 2), Ctl: ctl.Ctl{Kind: ctl.FRMR, Pf: true}, Info: "abc"},
	} {
		if got := Text(f); got != want {
			t.Errorf("Text(%s): %q; want %q", tell(f), got, want)
		}
	}
}

// P7.1: a frame whose path isn't right, or whose kind is none, has no word.
func TestP71TextNone(t *testing.T) {
	for _, p := range wrongWays() {
		for kind := range kindNames {
			if got := Text(Frame{Path: p, Ctl: ctl.Ctl{Kind: kind + 1}}); got != "" {
				t.Errorf("%v: %q", p, got)
			}
		}
	}
	for _, kind := range noKinds {
		for _, p := range ways() {
			if got := Text(Frame{Path: p, Ctl: ctl.Ctl{Kind: kind, Nr: 1, Pf: true}, Info: "x"}); got != "" {
				t.Errorf("kind %d: %q", kind, got)
			}
		}
	}
	if got := Text(Frame{}); got != "" {
		t.Errorf("the zero one: %q", got)
	}
}

// P7.1: whether all digipeaters have sent it.
func TestP71Done(t *testing.T) {
	for n := range 9 {
		for sent := range n + 1 {
			for _, k := range []ctl.Ctl{{}, {Kind: ctl.UI}, {Kind: ctl.I, Nr: 1, Pf: true}} {
				if got := Done(Frame{Path: way(n, sent), Ctl: k}); got != (n == sent) {
					t.Errorf("%d of %d: %t", sent, n, got)
				}
			}
		}
	}
	for i, p := range wrongWays() {
		if p.Digis != nil && Done(Frame{Path: p}) {
			t.Errorf("wrong path %d: done", i)
		}
	}
}

// markAt is where the byte stands that has the mark of the digipeater with that number, from 0 on.
func markAt(i int) int { return 14 + 7*i + 6 }

// P7.2: from digipeater to digipeater, all bytes but one stay: that one's mark is set in it.
func TestP72OneMark(t *testing.T) {
	for _, wide := range widths {
		for n := range 9 {
			for _, f := range on(way(n, 0), wide) {
				s, _ := Encode(f, wide)
				for i := range n {
					s = wantSent(t, s, wide, markAt(i))
				}
				if last, e := Decode(s, wide); !Done(last) || e != api.OK {
					t.Errorf("%.300q, %t isn't done", s, wide)
				}
			}
		}
	}
}

// P7.2: so it is with any bytes of a frame, not of those alone that Encode made.
func TestP72AnyBytes(t *testing.T) {
	r := rand.New(rand.NewSource(72))
	first, _ := path.Put(way(3, 1))
	for range 100000 {
		n := r.Intn(5)
		if r.Intn(5) == 0 {
			n = r.Intn(262)
		}
		b := make([]byte, n)
		for i := range b {
			b[i] = byte(r.Intn(256))
		}
		s := first + string(b)
		for _, wide := range widths {
			if _, e := Decode(s, wide); e == api.OK {
				wantSent(t, wantSent(t, s, wide, markAt(1)), wide, markAt(2))
			}
		}
	}
}

// wantSent says that s, sent on, differs from it in the mark of the byte with that number alone; it is what was sent on.
func wantSent(t *testing.T, s string, wide bool, at int) string {
	t.Helper()
	f, e := Decode(s, wide)
	sent, ok := path.Sent(f.Path)
	f.Path = sent
	got, e2 := Encode(f, wide)
	if e != api.OK || e2 != api.OK || !ok || len(got) != len(s) {
		t.Fatalf("%.300q, %t: %d, %d, %t, %.300q", s, wide, e, e2, ok, got)
	}
	for i := range s {
		turned := s[i] ^ got[i]
		if i == at && (turned != 128 || s[i] >= 128) || i != at && turned != 0 {
			t.Fatalf("%.300q, %t: the value %d of byte %d was turned", s, wide, turned, i)
		}
	}
	return got
}
