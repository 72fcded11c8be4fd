package ctl

import (
	"math"
	"strings"
	"testing"

	"squelch/api"
)

// kindNames are the kinds' names, in the order of the kinds; the first one's kind is 1.
var kindNames = []string{"I", "RR", "RNR", "REJ", "SREJ", "SABM", "SABME", "DISC", "DM", "UA", "FRMR", "UI", "XID", "TEST"}

// noKinds are kinds that aren't any.
var noKinds = []int{0, -1, 15, 16, -14, 255, 256, 257, 1 << 32, 1<<32 + 1, math.MaxInt, math.MinInt}

// numbers are some on both sides of each edge.
var numbers = []int{0, 1, 3, 6, 7, 8, 9, 63, 64, 126, 127, 128, 129, 255, 256, 257, 1 << 32, 1<<32 + 1, math.MaxInt, -1, -2, -8, -128, math.MinInt}

// marks are both of Pf.
var marks = []bool{false, true}

// widths are narrow and wide.
var widths = []bool{false, true}

// below is what the numbers go round at.
func below(wide bool) int {
	if wide {
		return 128
	}
	return 8
}

// slowRight is what the words say of which controls are right.
func slowRight(c Ctl, wide bool) bool {
	m := below(wide)
	switch {
	case c.Kind == 1:
		return c.Nr >= 0 && c.Nr < m && c.Ns >= 0 && c.Ns < m
	case c.Kind >= 2 && c.Kind <= 5:
		return c.Nr >= 0 && c.Nr < m && c.Ns == 0
	case c.Kind >= 6 && c.Kind <= 14:
		return c.Nr == 0 && c.Ns == 0
	}
	return false
}

// slowPut is a right control's bytes, by sums, as the words say them.
func slowPut(c Ctl, wide bool) string {
	pf := 0
	if c.Pf {
		pf = 1
	}
	sups := []int{1, 5, 9, 13}
	others := []int{47, 111, 67, 15, 99, 135, 3, 175, 227}
	switch {
	case c.Kind == 1 && wide:
		return string([]byte{byte(c.Ns * 2), byte(c.Nr*2 + pf)})
	case c.Kind == 1:
		return string([]byte{byte(c.Nr*32 + pf*16 + c.Ns*2)})
	case c.Kind <= 5 && wide:
		return string([]byte{byte(sups[c.Kind-2]), byte(c.Nr*2 + pf)})
	case c.Kind <= 5:
		return string([]byte{byte(c.Nr*32 + pf*16 + sups[c.Kind-2])})
	}
	return string([]byte{byte(others[c.Kind-6] + pf*16)})
}

// rights are all controls that are right.
func rights(wide bool) []Ctl {
	var l []Ctl
	for _, pf := range marks {
		for kind := 1; kind <= 14; kind++ {
			for nr := range below(wide) {
				for ns := range below(wide) {
					if c := (Ctl{kind, nr, ns, pf}); slowRight(c, wide) {
						l = append(l, c)
					}
				}
			}
		}
	}
	return l
}

// byBytes are all right controls, by their bytes.
func byBytes(wide bool) map[string]Ctl {
	m := map[string]Ctl{}
	for _, c := range rights(wide) {
		m[slowPut(c, wide)] = c
	}
	return m
}

// slowGet is what the words say of bytes: the one right control, of all, with whose bytes they begin.
func slowGet(all map[string]Ctl, s string, wide bool) (Ctl, int, api.Errno) {
	if s == "" || wide && len(s) == 1 && s[0]%4 != 3 {
		return Ctl{}, 0, api.ErrShort
	}
	for n := 1; n <= 2 && n <= len(s); n++ {
		if c, ok := all[s[:n]]; ok {
			return c, n, api.OK
		}
	}
	return Ctl{}, 0, api.ErrForm
}

func wantGet(t *testing.T, s string, wide bool, want Ctl, n int, e api.Errno) {
	t.Helper()
	if c, k, got := Get(s, wide); c != want || k != n || got != e {
		t.Errorf("Get(%.20q, %t): %v, %d, %d; want %v, %d, %d", s, wide, c, k, got, want, n, e)
	}
}

// wantNone says that no control is got of s, by an error.
func wantNone(t *testing.T, s string, wide bool, e api.Errno) {
	t.Helper()
	wantGet(t, s, wide, Ctl{}, 0, e)
}

// wantRefused says that a control isn't right, and has no bytes.
func wantRefused(t *testing.T, c Ctl, wide bool) {
	t.Helper()
	if Right(c, wide) {
		t.Errorf("%v, %t is right", c, wide)
	}
	if s, e := Put(c, wide); s != "" || e != api.ErrArg {
		t.Errorf("Put(%v, %t): %q, %d", c, wide, s, e)
	}
}

// P6.1: the kinds are numbers from 1 on, in their order.
func TestP61Constants(t *testing.T) {
	for i, kind := range []int{I, RR, RNR, REJ, SREJ, SABM, SABME, DISC, DM, UA, FRMR, UI, XID, TEST} {
		if kind != i+1 {
			t.Errorf("%s is %d", kindNames[i], kind)
		}
	}
}

// P6.1: the document's example, and known bytes of each kind.
func TestP61Known(t *testing.T) {
	for _, k := range []struct {
		c            Ctl
		narrow, wide string
	}{
		{Ctl{1, 3, 5, true}, "\x7a", "\x0a\x07"}, // 122; 10, 7
		{Ctl{1, 0, 0, false}, "\x00", "\x00\x00"},
		{Ctl{1, 7, 7, true}, "\xfe", "\x0e\x0f"},
		{Ctl{1, 0, 1, false}, "\x02", "\x02\x00"},
		{Ctl{1, 1, 0, false}, "\x20", "\x00\x02"},
		{Ctl{2, 0, 0, false}, "\x01", "\x01\x00"},
		{Ctl{2, 7, 0, true}, "\xf1", "\x01\x0f"},
		{Ctl{3, 4, 0, false}, "\x85", "\x05\x08"},
		{Ctl{4, 1, 0, true}, "\x39", "\x09\x03"},
		{Ctl{5, 6, 0, false}, "\xcd", "\x0d\x0c"},
		{Ctl{6, 0, 0, true}, "\x3f", "\x3f"},
		{Ctl{7, 0, 0, true}, "\x7f", "\x7f"},
		{Ctl{8, 0, 0, true}, "\x53", "\x53"},
		{Ctl{9, 0, 0, true}, "\x1f", "\x1f"},
		{Ctl{10, 0, 0, true}, "\x73", "\x73"},
		{Ctl{11, 0, 0, false}, "\x87", "\x87"},
		{Ctl{12, 0, 0, true}, "\x13", "\x13"},
		{Ctl{13, 0, 0, true}, "\xbf", "\xbf"},
		{Ctl{14, 0, 0, true}, "\xf3", "\xf3"},
	} {
		for _, wide := range widths {
			want := k.narrow
			if wide {
				want = k.wide
			}
			if s, e := Put(k.c, wide); s != want || e != api.OK {
				t.Errorf("Put(%v, %t): %q, %d; want %q", k.c, wide, s, e, want)
			}
			wantGet(t, want, wide, k.c, len(want), api.OK)
		}
	}
	for want, c := range map[string]Ctl{"\xfe\xff": {1, 127, 127, true}, "\x10\xfe": {1, 127, 8, false}, "\x00\x10": {1, 8, 0, false}, "\x0d\xff": {5, 127, 0, true}} {
		if s, e := Put(c, true); s != want || e != api.OK {
			t.Errorf("Put(%v, true): %q, %d; want %q", c, s, e, want)
		}
		wantGet(t, want, true, c, 2, api.OK)
	}
}

// P6.1: all right controls have the bytes that the words say, which lead to them, whatever follows.
func TestP61PutAndGet(t *testing.T) {
	for _, wide := range widths {
		for _, c := range rights(wide) {
			want := slowPut(c, wide)
			if !Right(c, wide) {
				t.Errorf("%v, %t isn't right", c, wide)
			}
			if s, e := Put(c, wide); s != want || e != api.OK {
				t.Errorf("Put(%v, %t): %q, %d; want %q", c, wide, s, e, want)
			}
			for _, more := range []string{"", "\x00", "\x07", "\xff\xff", "z more"} {
				wantGet(t, want+more, wide, c, len(want), api.OK)
			}
		}
	}
}

// P6.1: no two right controls have the same bytes: were it so, Get could not lead back to both.
func TestP61Distinct(t *testing.T) {
	for _, wide := range widths {
		seen := map[string]Ctl{}
		for _, c := range rights(wide) {
			s, _ := Put(c, wide)
			if other, ok := seen[s]; ok {
				t.Errorf("%v and %v are %q, %t", other, c, s, wide)
			}
			seen[s] = c
		}
	}
}

// P6.1: right or not, each kind with all numbers about the edges, and far outside; what isn't right has no bytes.
func TestP61Right(t *testing.T) {
	kinds := append([]int{}, noKinds...)
	for kind := 1; kind <= 14; kind++ {
		kinds = append(kinds, kind)
	}
	for _, wide := range widths {
		for _, kind := range kinds {
			for _, nr := range numbers {
				for _, ns := range numbers {
					for _, pf := range marks {
						c := Ctl{kind, nr, ns, pf}
						if !slowRight(c, wide) {
							wantRefused(t, c, wide)
						} else if !Right(c, wide) {
							t.Errorf("%v, %t isn't right", c, wide)
						}
					}
				}
			}
		}
	}
}

// P6.1: numbers from 8 on are right wide alone, and those from 128 on never.
func TestP61RightKnown(t *testing.T) {
	for _, c := range []Ctl{{1, 8, 0, false}, {1, 0, 8, false}, {1, 127, 127, true}, {2, 8, 0, false}, {5, 127, 0, true}} {
		wantRefused(t, c, false)
		if !Right(c, true) {
			t.Errorf("%v isn't right", c)
		}
	}
	for _, c := range []Ctl{{}, {Pf: true}, {15, 0, 0, false}, {-1, 0, 0, false}, {1, 128, 0, false}, {1, 0, 128, false}, {1, -1, 0, false}, {1, 0, -1, false}, {3, 128, 0, false}, {3, -1, 0, true}, {4, 0, 1, false}, {4, 1, 1, false}, {6, 1, 0, false}, {12, 0, 1, false}, {14, 1, 1, true}} {
		wantRefused(t, c, false)
		wantRefused(t, c, true)
	}
}

// P6.1: no byte at all, each byte, and all pairs of them, narrow and wide; a third one changes nothing.
func TestP61GetAll(t *testing.T) {
	for _, wide := range widths {
		all := byBytes(wide)
		wantNone(t, "", wide, api.ErrShort)
		for a := range 256 {
			s := string([]byte{byte(a)})
			c, n, e := slowGet(all, s, wide)
			wantGet(t, s, wide, c, n, e)
			for b := range 256 {
				s := string([]byte{byte(a), byte(b)})
				c, n, e := slowGet(all, s, wide)
				wantGet(t, s, wide, c, n, e)
				wantGet(t, s+"\x03", wide, c, n, e)
			}
		}
	}
}

// P6.1: known bytes that are no control's, and such as are too few.
func TestP61GetWrong(t *testing.T) {
	for _, s := range []string{"\x07", "\x0b", "\x17", "\x23", "\x33", "\x4f", "\xff", "\xef", "\x8f", "\x2b"} {
		for _, more := range []string{"", "\x00", "\x03\x03", strings.Repeat("\x00", 5000)} {
			wantNone(t, s+more, false, api.ErrForm)
			wantNone(t, s+more, true, api.ErrForm)
		}
	}
	for _, s := range []string{"\x00", "\x01", "\x05", "\x09", "\x0d", "\x11", "\x21", "\xfd", "\xfe", "\xe2", "\x02"} {
		wantNone(t, s, true, api.ErrShort)
		if _, n, e := Get(s, false); n != 1 || e != api.OK {
			t.Errorf("Get(%q, false): %d, %d", s, n, e)
		}
	}
	for _, s := range []string{"\x11\x00", "\x21\x00", "\x15\xff", "\x1d\x01", "\x81\x02", "\xfd\x00", "\x41\x00more"} {
		wantNone(t, s, true, api.ErrForm)
	}
}

// P6.1: control bytes from SABM on are the same narrow and wide.
func TestP61OneByte(t *testing.T) {
	for kind := 6; kind <= 14; kind++ {
		for _, pf := range marks {
			c := Ctl{Kind: kind, Pf: pf}
			narrow, e := Put(c, false)
			wide, f := Put(c, true)
			if narrow != wide || len(narrow) != 1 || e != api.OK || f != api.OK {
				t.Errorf("%v: %q, %d; %q, %d", c, narrow, e, wide, f)
			}
		}
	}
}

// P6.1: which kinds there are, and what they may have; others have nothing, and no name.
func TestP61Kinds(t *testing.T) {
	sups, infos, pids := " RR RNR REJ SREJ ", " I FRMR UI XID TEST ", " I UI "
	for i, name := range kindNames {
		word := " " + name + " "
		kind := i + 1
		if got := Name(kind); got != name {
			t.Errorf("Name(%d): %q; want %q", kind, got, name)
		}
		if Sup(kind) != strings.Contains(sups, word) {
			t.Errorf("Sup of %s: %t", name, Sup(kind))
		}
		if Info(kind) != strings.Contains(infos, word) {
			t.Errorf("Info of %s: %t", name, Info(kind))
		}
		if Pid(kind) != strings.Contains(pids, word) {
			t.Errorf("Pid of %s: %t", name, Pid(kind))
		}
	}
	for _, kind := range noKinds {
		if Sup(kind) || Info(kind) || Pid(kind) || Name(kind) != "" {
			t.Errorf("%d: %t, %t, %t, %q", kind, Sup(kind), Info(kind), Pid(kind), Name(kind))
		}
	}
}
