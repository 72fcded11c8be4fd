package link

import (
	"fmt"
	"math"
	"math/rand"
	"slices"
	"strings"
	"testing"
	"unsafe"

	"squelch/api"
	"squelch/ctl"
	"squelch/frame"
	"squelch/path"
	"squelch/seg"
	"squelch/smooth"
	"squelch/xid"
)

var callA, callB, callC, callD = api.Call{Base: "A", Ssid: 3}, api.Call{Base: "B"}, api.Call{Base: "C"}, api.Call{Base: "D", Ssid: 15}

// able is wide, and asks for frames one by one.
var able = xid.Params{Wide: true, Srej: true, N1: 64, K: 8, T1: 10, N2: 3}

// plainWide is wide, and doesn't.
var plainWide = xid.Params{Wide: true, N1: 32, K: 63, T1: 7, N2: 2}

// cans are what links can do, at the ends of what may be, too.
var cans = []xid.Params{
	xid.Usual(), able, plainWide,
	{N1: 16, K: 1, T1: 4, N2: 1},
	{N1: 256, K: 7, T1: 255, N2: 15},
	{Srej: true, N1: 20, K: 4, T1: 6, N2: 2},
	{Wide: true, Srej: true, N1: 16, K: 32, T1: 4, N2: 1},
	{Wide: true, N1: 256, K: 1, T1: 30, N2: 15},
}

// from is the path from a call to another one, by digipeaters, which all have sent it.
func from(a, b api.Call, command bool, digis ...api.Call) path.Path {
	p := path.Path{To: b, From: a, ToMark: command, FromMark: !command}
	for _, d := range digis {
		p.Digis = append(p.Digis, path.Digi{Call: d, Has: true})
	}
	return p
}

// cmd and res are frames from B to A: commands, and responses.
func cmd(c ctl.Ctl) frame.Frame { return frame.Frame{Path: from(callB, callA, true), Ctl: c} }
func res(c ctl.Ctl) frame.Frame { return frame.Frame{Path: from(callB, callA, false), Ctl: c} }

// kind is a frame from B to A of a kind that has no numbers, as it usually is.
func kind(k int) frame.Frame {
	switch k {
	case ctl.UA, ctl.DM, ctl.FRMR:
		return res(ctl.Ctl{Kind: k, Pf: true})
	}
	return cmd(ctl.Ctl{Kind: k, Pf: true})
}

// info is an I frame from B to A.
func info(ns, nr int, text string) frame.Frame {
	f := cmd(ctl.Ctl{Kind: ctl.I, Ns: ns, Nr: nr})
	f.Pid, f.Info = 240, text
	return f
}

// xidOf is a XID from B to A.
func xidOf(t *testing.T, command bool, p xid.Params) frame.Frame {
	t.Helper()
	s, e := xid.Put(p)
	if e != api.OK {
		t.Fatalf("%+v: %d", p, e)
	}
	return frame.Frame{Path: from(callB, callA, command), Ctl: ctl.Ctl{Kind: ctl.XID, Pf: true}, Info: s}
}

// station is a link of A to B that is down.
func station(t *testing.T, can xid.Params) *Link {
	t.Helper()
	l, e := New(from(callA, callB, true), can)
	if e != api.OK {
		t.Fatal(e)
	}
	return l
}

// isUp is a link of A to B that B called.
func isUp(t *testing.T, can xid.Params, wide bool) *Link {
	t.Helper()
	l := station(t, can)
	k := ctl.SABM
	if wide {
		k = ctl.SABME
	}
	l.Take(kind(k))
	if l.State() != IsUp || l.Wide() != wide {
		t.Fatal(l.State(), l.Wide())
	}
	return l
}

// words are what is told: kinds, with numbers, "c" of a command, "P" of Pf; then the events; "fresh" ahead.
func words(o Out) string {
	var l []string
	if o.Fresh {
		l = append(l, "fresh")
	}
	for _, f := range o.Frames {
		s := ctl.Name(f.Kind)
		if f.Kind == ctl.I {
			s += fmt.Sprint(f.Ns)
		}
		if f.Kind <= ctl.SREJ {
			s += fmt.Sprint("/", f.Nr)
		}
		if path.Command(f.Path) {
			s += "c"
		}
		if f.Pf {
			s += "P"
		}
		l = append(l, s)
	}
	for _, e := range o.Events {
		s := []string{"", "up", "gone", "refused", "failed", "again", "data"}[e.Kind]
		if e.Kind == Data {
			s += "=" + e.Text
		}
		l = append(l, s)
	}
	return strings.Join(l, " ")
}

// want says whether what is told is so.
func want(t *testing.T, what string, o Out, words2 string) {
	t.Helper()
	if s := words(o); s != words2 {
		t.Errorf("%s: %q; want %q", what, s, words2)
	}
}

// send sends a message that has to be taken.
func send(t *testing.T, l *Link, text string) Out {
	t.Helper()
	o, e := l.Send(240, text)
	if e != api.OK {
		t.Fatalf("Send: %d", e)
	}
	return o
}

// till lets ticks go by till something is told: how many, and what.
func till(t *testing.T, l *Link) (int, Out) {
	t.Helper()
	for n := 1; n <= 400; n++ {
		if o := l.Tick(); words(o) != "" {
			return n, o
		}
	}
	t.Fatal("nothing is told")
	return 0, Out{}
}

// P20.1: states and events have the numbers of the document.
func TestP201Constants(t *testing.T) {
	if l := []int{IsDown, IsAsking, IsCalling, IsUp, IsClosing}; !slices.Equal(l, []int{0, 1, 2, 3, 4}) {
		t.Error(l)
	}
	if l := []int{Up, Gone, Refused, Failed, Again, Data}; !slices.Equal(l, []int{1, 2, 3, 4, 5, 6}) {
		t.Error(l)
	}
}

// P20.1: the document's example.
func TestP201Example(t *testing.T) {
	a := station(t, xid.Usual())
	b, e := New(from(callB, callA, true), xid.Usual())
	if e != api.OK {
		t.Fatal(e)
	}
	o, e := a.Connect()
	want(t, "Connect", o, "fresh SABMcP")
	o = b.Take(o.Frames[0])
	want(t, "SABM", o, "fresh UAP up")
	want(t, "UA", a.Take(o.Frames[0]), "fresh up")
	o = send(t, a, "hi")
	want(t, "Send", o, "I0/0c")
	o = b.Take(o.Frames[0])
	want(t, "I", o, "RR/1 data=hi")
	if o.Events[0] != (Event{Kind: Data, Pid: 240, Text: "hi"}) {
		t.Error(o.Events)
	}
	want(t, "RR", a.Take(o.Frames[0]), "")
	if a.Waits() != 0 || e != api.OK {
		t.Error(a.Waits(), e)
	}
}

// P20.1: what New refuses, and the order in which it asks.
func TestP201New(t *testing.T) {
	right := from(callA, callB, true, callC)
	both, none := right, right
	both.FromMark = true
	none.ToMark = false
	noCall, behind := right, right
	noCall.To = api.Call{Base: "b"}
	behind.Digis = []path.Digi{{Call: callC}, {Call: callD, Has: true}}
	for i, p := range []path.Path{{}, from(callA, callB, false, callC), both, none, noCall, behind, from(callA, callB, true, slices.Repeat([]api.Call{callC}, 9)...)} {
		for _, can := range []xid.Params{xid.Usual(), {}} {
			if l, e := New(p, can); l != nil || e != api.ErrPath {
				t.Errorf("path %d: %d", i, e)
			}
		}
	}
	for _, can := range []xid.Params{{}, {N1: 64, K: 8, T1: 20, N2: 5}, {N1: 15, K: 4, T1: 20, N2: 5}, {N1: 64, K: 0, T1: 20, N2: 5}, {N1: 64, K: 4, T1: 3, N2: 5}, {N1: 64, K: 4, T1: 20, N2: 16}, {Srej: true, N1: 64, K: 5, T1: 20, N2: 5}, {N1: 64 + 1<<32, K: 4, T1: 20, N2: 5}, {N1: 64, K: math.MinInt, T1: 20, N2: 5}} {
		if l, e := New(right, can); l != nil || e != api.ErrArg {
			t.Errorf("%+v: %d", can, e)
		}
	}
	for _, can := range cans {
		l, e := New(right, can)
		if e != api.OK || l.State() != IsDown || l.Wide() || l.Params() != can || l.Waits() != 0 || l.Busy() || l.Stats() != (Stats{}) {
			t.Errorf("%+v: %d", can, e)
		}
		want(t, "Tick", l.Tick(), "")
	}
	eight, e := New(from(callA, callB, true, slices.Repeat([]api.Call{callC}, 8)...), xid.Usual())
	if e != api.OK || len(eight.Path().Digis) != 8 {
		t.Error(e)
	}
}

// P20.3: frames go along the path, which none has sent, whatever New was told.
func TestP203Path(t *testing.T) {
	l, e := New(from(callA, callB, true, callC, callD), able)
	if e != api.OK {
		t.Fatal(e)
	}
	o, _ := l.Connect()
	if s := path.Text(o.Frames[0].Path); s != "A-3>B,C,D-15" || path.Text(l.Path()) != s || !path.Command(l.Path()) {
		t.Error(s, path.Text(l.Path()))
	}
	// it was called by another way: that is its path from then on
	call := frame.Frame{Path: from(callB, callA, true, callD), Ctl: ctl.Ctl{Kind: ctl.SABME, Pf: true}}
	o = l.Take(call)
	want(t, "SABME", o, "fresh UAP up")
	if s := path.Text(o.Frames[0].Path); s != "A-3>B,D-15" || !path.Response(o.Frames[0].Path) {
		t.Error(s)
	}
	if s := path.Text(l.Path()); s != "A-3>B,D-15" || !path.Command(l.Path()) {
		t.Error(s)
	}
	o = send(t, l, "x")
	if s := path.Text(o.Frames[0].Path); s != "A-3>B,D-15" || !path.Command(o.Frames[0].Path) {
		t.Error(s)
	}
	// the way back turns the order of the digipeaters
	call.Path = from(callB, callA, true, callD, callC, callB)
	l.Take(call)
	if s := path.Text(l.Path()); s != "A-3>B,B,C,D-15" {
		t.Error(s)
	}
}

// P20.3: a SABM gives the path even where it is refused, or dropped; no other kind does.
func TestP203PathOfKinds(t *testing.T) {
	for k := ctl.I; k <= ctl.TEST; k++ {
		for _, can := range []xid.Params{xid.Usual(), able} {
			for state, l := range all(t, can) {
				f := kind(k)
				f.Path = from(callB, callA, path.Command(f.Path), callC)
				l.Take(f)
				s := "A-3>B"
				if k == ctl.SABM || k == ctl.SABME {
					s = "A-3>B,C"
				}
				if path.Text(l.Path()) != s {
					t.Errorf("%s, %s: %s", state, ctl.Name(k), path.Text(l.Path()))
				}
			}
		}
	}
}

// all is links that are all that they may be.
func all(t *testing.T, can xid.Params) map[string]*Link {
	t.Helper()
	m := map[string]*Link{"down": station(t, can), "up": isUp(t, can, false), "closing": isUp(t, can, false)}
	m["closing"].Disconnect()
	m["again"] = isUp(t, can, false)
	m["again"].Take(kind(ctl.FRMR))
	m["calling"] = station(t, can)
	m["calling"].Connect()
	if !can.Wide {
		return m
	}
	m["calling"].Take(kind(ctl.DM))
	m["asking"] = station(t, can)
	m["asking"].Connect()
	m["calling wide"] = station(t, can)
	m["calling wide"].Connect()
	m["calling wide"].Take(xidOf(t, false, can))
	m["up wide"] = isUp(t, can, true)
	m["closing wide"] = isUp(t, can, true)
	m["closing wide"].Disconnect()
	m["again wide"] = isUp(t, can, true)
	m["again wide"].Take(kind(ctl.FRMR))
	return m
}

// P20.1: what Connect and Disconnect do in each state.
func TestP201ConnectDisconnect(t *testing.T) {
	for _, can := range []xid.Params{xid.Usual(), able} {
		for state, l := range all(t, can) {
			is := l.State()
			o, e := l.Connect()
			switch {
			case state == "down" && can.Wide:
				want(t, state, o, "fresh XIDcP")
				if e != api.OK || l.State() != IsAsking {
					t.Error(state, e, l.State())
				}
			case state == "down":
				want(t, state, o, "fresh SABMcP")
				if e != api.OK || l.State() != IsCalling {
					t.Error(state, e, l.State())
				}
			default:
				want(t, state, o, "")
				if e != api.ErrThere || l.State() != is {
					t.Error(state, e, l.State())
				}
			}
		}
		for state, l := range all(t, can) {
			o, e := l.Disconnect()
			switch {
			case strings.HasPrefix(state, "up"):
				want(t, state, o, "fresh DISCcP")
				if e != api.OK || l.State() != IsClosing {
					t.Error(state, e, l.State())
				}
			case state == "down":
				want(t, state, o, "")
				if e != api.ErrDown || l.State() != IsDown {
					t.Error(state, e, l.State())
				}
			case strings.HasPrefix(state, "closing"):
				want(t, state, o, "")
				if e != api.ErrDown || l.State() != IsClosing {
					t.Error(state, e, l.State())
				}
			default:
				want(t, state, o, "fresh gone")
				if e != api.OK || l.State() != IsDown {
					t.Error(state, e, l.State())
				}
			}
		}
	}
}

// P20.1: a XID tells what the link can do, whatever was agreed.
func TestP201XidBytes(t *testing.T) {
	l := station(t, able)
	o, _ := l.Connect()
	if p, e := xid.Get(o.Frames[0].Info); p != able || e != api.OK {
		t.Error(p, e)
	}
	o = l.Take(xidOf(t, true, plainWide))
	want(t, "XID", o, "XIDP")
	if p, e := xid.Get(o.Frames[0].Info); p != able || e != api.OK {
		t.Error(p, e)
	}
}

// row is what a link tells that takes a frame, and what it is then.
type row struct {
	told  string
	state int
}

// P20.1: what each kind does in each state of a link that isn't wide-able.
func TestP201KindsOfNarrow(t *testing.T) {
	kinds(t, xid.Usual(), map[string]map[int]row{
		"down": {
			ctl.SABM: {"fresh UAP up", IsUp}, ctl.SABME: {"DMP", IsDown}, ctl.DISC: {"DMP", IsDown}, ctl.XID: {"DMP", IsDown},
		},
		"calling": {
			ctl.SABM: {"UAP", IsCalling}, ctl.SABME: {"DMP", IsCalling}, ctl.DISC: {"DMP gone", IsDown}, ctl.XID: {"DMP", IsCalling},
			ctl.UA: {"fresh up", IsUp}, ctl.DM: {"fresh refused", IsDown},
		},
		"again": {
			ctl.SABM: {"UAP", IsCalling}, ctl.SABME: {"DMP", IsCalling}, ctl.DISC: {"DMP gone", IsDown}, ctl.XID: {"DMP", IsCalling},
			ctl.UA: {"fresh again", IsUp}, ctl.DM: {"fresh refused", IsDown},
		},
		"up": {
			ctl.SABM: {"fresh UAP again", IsUp}, ctl.SABME: {"DMP", IsUp}, ctl.DISC: {"UAP gone", IsDown}, ctl.XID: {"DMP", IsUp},
			ctl.DM: {"fresh gone", IsDown}, ctl.FRMR: {"SABMcP", IsCalling},
			ctl.I: {"RR/1P data=", IsUp}, ctl.RR: {"RR/0P", IsUp}, ctl.RNR: {"RR/0P", IsUp}, ctl.REJ: {"RR/0P", IsUp}, ctl.SREJ: {"RR/0P", IsUp},
		},
		"closing": {
			ctl.SABM: {"DMP", IsClosing}, ctl.SABME: {"DMP", IsClosing}, ctl.DISC: {"UAP", IsDown}, ctl.XID: {"DMP", IsClosing},
			ctl.UA: {"fresh gone", IsDown}, ctl.DM: {"fresh gone", IsDown},
		},
	})
}

// P20.1: what each kind does in each state of a link that is wide-able.
func TestP201KindsOfWideAble(t *testing.T) {
	calling := map[int]row{
		ctl.SABM: {"UAP", IsCalling}, ctl.DISC: {"DMP gone", IsDown}, ctl.XID: {"XIDP", IsCalling},
		ctl.UA: {"fresh up", IsUp}, ctl.DM: {"fresh refused", IsDown},
	}
	callingWide := map[int]row{
		ctl.SABM: {"fresh UAP up", IsUp}, ctl.SABME: {"UAP", IsCalling}, ctl.DISC: {"DMP gone", IsDown}, ctl.XID: {"XIDP", IsCalling},
		ctl.UA: {"fresh up", IsUp}, ctl.DM: {"fresh SABMcP", IsCalling}, ctl.FRMR: {"SABMcP", IsCalling},
	}
	up := map[int]row{
		ctl.SABM: {"fresh UAP again", IsUp}, ctl.SABME: {"fresh UAP again", IsUp}, ctl.DISC: {"UAP gone", IsDown}, ctl.XID: {"XIDP", IsUp},
		ctl.DM: {"fresh gone", IsDown}, ctl.FRMR: {"SABMcP", IsCalling},
		ctl.I: {"RR/1P data=", IsUp}, ctl.RR: {"RR/0P", IsUp}, ctl.RNR: {"RR/0P", IsUp}, ctl.REJ: {"RR/0P", IsUp}, ctl.SREJ: {"RR/0P", IsUp},
	}
	closing := map[int]row{
		ctl.SABM: {"DMP", IsClosing}, ctl.SABME: {"DMP", IsClosing}, ctl.DISC: {"UAP", IsDown}, ctl.XID: {"XIDP", IsClosing},
		ctl.UA: {"fresh gone", IsDown}, ctl.DM: {"fresh gone", IsDown},
	}
	with := func(m map[int]row, k int, r row) map[int]row {
		n := map[int]row{}
		for i, x := range m {
			n[i] = x
		}
		n[k] = r
		return n
	}
	kinds(t, able, map[string]map[int]row{
		"down": {
			ctl.SABM: {"fresh UAP up", IsUp}, ctl.SABME: {"fresh UAP up", IsUp}, ctl.DISC: {"DMP", IsDown}, ctl.XID: {"XIDP", IsDown},
		},
		"asking": {
			ctl.SABM: {"fresh UAP up", IsUp}, ctl.SABME: {"fresh UAP up", IsUp}, ctl.DISC: {"DMP gone", IsDown}, ctl.XID: {"XIDP", IsAsking},
			ctl.DM: {"fresh SABMcP", IsCalling}, ctl.FRMR: {"SABMcP", IsCalling},
		},
		"calling": calling, "again": with(calling, ctl.UA, row{"fresh again", IsUp}),
		"calling wide": callingWide, "again wide": with(with(callingWide, ctl.UA, row{"fresh again", IsUp}), ctl.SABM, row{"fresh UAP again", IsUp}),
		"up": up, "up wide": with(up, ctl.FRMR, row{"SABMEcP", IsCalling}),
		"closing": closing, "closing wide": closing,
	})
}

// kinds says whether links do what is said of them; a kind that isn't named does nothing.
func kinds(t *testing.T, can xid.Params, l map[string]map[int]row) {
	t.Helper()
	if len(l) != len(all(t, can)) {
		t.Fatal("a state isn't named")
	}
	for state, rows := range l {
		for k := ctl.I; k <= ctl.TEST; k++ {
			for _, pf := range []bool{true, false} {
				x := all(t, can)[state]
				r, named := rows[k]
				if !named {
					r = row{"", x.State()}
				}
				f := kind(k)
				if f.Pf = pf; k == ctl.XID {
					f.Info = xidOf(t, true, able).Info
				}
				told := r.told
				if !pf { // responses have Pf as it came; what isn't asked for by Pf isn't answered
					told = strings.NewReplacer("RR/0P", "", "UAP", "UA", "DMP", "DM", "XIDP", "XID", "RR/1P", "RR/1").Replace(told)
				}
				want(t, fmt.Sprint(state, " ", ctl.Name(k), " ", pf), x.Take(f), told)
				if x.State() != r.state {
					t.Errorf("%s, %s: it is %d; want %d", state, ctl.Name(k), x.State(), r.state)
				}
			}
		}
	}
}

// P20.1: SABM brings it up narrow, SABME wide; calling wide, SABM brings it up narrow.
func TestP201Wide(t *testing.T) {
	for state, l := range all(t, able) {
		l.Take(kind(ctl.SABM))
		if l.State() == IsUp && l.Wide() {
			t.Error(state)
		}
	}
	for state, l := range all(t, able) {
		l.Take(kind(ctl.SABME))
		if wide := l.State() == IsUp; l.Wide() != wide {
			t.Error(state)
		}
	}
	for state, l := range all(t, able) {
		l.Take(kind(ctl.UA))
		if wide := strings.HasSuffix(state, "wide") && l.State() == IsUp; l.Wide() != wide {
			t.Error(state)
		}
	}
}

// P20.1: a XID that is neither a command nor a response does nothing; a response does so where it isn't awaited.
func TestP201XidMarks(t *testing.T) {
	for _, can := range []xid.Params{xid.Usual(), able} {
		for state, l := range all(t, can) {
			for _, both := range []bool{false, true} {
				f := xidOf(t, true, able)
				f.ToMark, f.FromMark = both, both
				want(t, state, l.Take(f), "")
			}
			if state != "asking" {
				want(t, state, l.Take(xidOf(t, false, able)), "")
			}
		}
	}
}

// P20.1: what is agreed holds when it is up, not ahead of that; else its own ones do, as far as they go.
func TestP201Params(t *testing.T) {
	theirs := xid.Params{Wide: true, N1: 40, K: 50, T1: 90, N2: 2}
	agreed := xid.Params{Wide: true, N1: 40, K: 8, T1: 90, N2: 2}
	narrowOf := func(p xid.Params) xid.Params {
		p.Wide, p.Srej, p.K = false, false, min(p.K, 7)
		return p
	}
	// by an answer
	l := station(t, able)
	l.Connect()
	want(t, "XID", l.Take(xidOf(t, false, theirs)), "SABMEcP")
	if l.Params() != able {
		t.Error(l.Params())
	}
	l.Take(kind(ctl.UA))
	if l.Params() != agreed {
		t.Error(l.Params())
	}
	// while it is up: they hold the next time
	l.Take(xidOf(t, true, able))
	if l.Params() != agreed {
		t.Error(l.Params())
	}
	l.Take(kind(ctl.SABME))
	if l.Params() != able {
		t.Error(l.Params())
	}
	// a command, while it is down; and it comes up narrow
	l = station(t, able)
	l.Take(xidOf(t, true, theirs))
	if l.Params() != able {
		t.Error(l.Params())
	}
	l.Take(kind(ctl.SABM))
	if l.Params() != narrowOf(agreed) {
		t.Error(l.Params())
	}
	// nothing was agreed
	for _, can := range cans {
		l := isUp(t, can, false)
		if l.Params() != narrowOf(can) {
			t.Error(l.Params())
		}
		l.Disconnect()
		if l.Params() != can {
			t.Error(l.Params())
		}
		if can.Wide {
			if l := isUp(t, can, true); l.Params() != can {
				t.Error(l.Params())
			}
		}
	}
	// agreed that it be narrow: it is up wide all the same, if it is called so
	l = station(t, able)
	l.Connect()
	want(t, "XID", l.Take(xidOf(t, false, xid.Params{Srej: true, N1: 30, K: 3, T1: 5, N2: 9})), "SABMcP")
	l.Take(kind(ctl.UA))
	if p := (xid.Params{N1: 30, K: 3, T1: 10, N2: 3}); l.Params() != p {
		t.Error(l.Params())
	}
	l.Take(kind(ctl.SABME))
	if p := (xid.Params{Wide: true, Srej: true, N1: 30, K: 3, T1: 10, N2: 3}); l.Params() != p {
		t.Error(l.Params())
	}
}

// P20.1: bytes that are no parameters: of a command DM, and nothing changes; of a response nothing is agreed, and it calls by SABM.
func TestP201XidOfNone(t *testing.T) {
	good := xidOf(t, true, able).Info
	for _, s := range []string{"", "\x82", good[:3], good[:len(good)-1], good + "\x00", "\x81" + good[1:]} {
		l := station(t, able)
		l.Take(xidOf(t, true, plainWide))
		f := xidOf(t, true, able)
		f.Info = s
		want(t, "a command", l.Take(f), "DMP")
		l.Take(kind(ctl.SABME))
		if l.Params().N1 != plainWide.N1 {
			t.Error(l.Params())
		}
		l = station(t, able)
		l.Take(xidOf(t, true, plainWide))
		l.Connect()
		f = xidOf(t, false, able)
		f.Info = s
		want(t, "a response", l.Take(f), "SABMcP")
		l.Take(kind(ctl.UA))
		if l.Params().N1 != able.N1 {
			t.Error(l.Params())
		}
	}
}

// P20.2: who awaits an answer tells the same again N2 times, each time when T1 went off, which becomes twice as much.
func TestP202T1WhenDown(t *testing.T) {
	for _, can := range cans {
		l := station(t, can)
		l.Connect()
		if can.Wide {
			retold(t, l, can, "XIDcP", "SABMcP", can.T1)
			most := min(can.T1<<can.N2, 255)
			retold(t, l, can, "SABMcP", "failed", most)
		} else {
			retold(t, l, can, "SABMcP", "failed", can.T1)
		}
		if l.State() != IsDown {
			t.Error(l.State())
		}
		for range 1000 {
			want(t, "Tick", l.Tick(), "")
		}
		// again, as if nothing had been
		l.Connect()
		if n, _ := till(t, l); n != can.T1 {
			t.Error(n)
		}
	}
	for _, can := range cans {
		l := isUp(t, can, false)
		l.Disconnect()
		retold(t, l, can, "DISCcP", "gone", can.T1)
		if l.State() != IsDown {
			t.Error(l.State())
		}
	}
}

// retold says whether a frame is told again N2 times, and then something else.
func retold(t *testing.T, l *Link, can xid.Params, again, then string, t1 int) {
	t.Helper()
	for i := range can.N2 + 1 {
		n, o := till(t, l)
		if n != t1 {
			t.Errorf("%+v: time %d: %d ticks; want %d", can, i, n, t1)
		}
		if t1 = min(2*t1, smooth.Most); i < can.N2 {
			want(t, "T1", o, again)
		} else {
			want(t, "T1", o, then)
		}
	}
}

// P20.2: all in all it takes as long as layer 12 says.
func TestP202Sum(t *testing.T) {
	for _, can := range cans {
		if can.Wide {
			continue
		}
		l := station(t, can)
		l.Connect()
		n := 0
		for l.State() == IsCalling {
			l.Tick()
			n++
		}
		if n != smooth.Sum(can.T1, can.N2+1) {
			t.Errorf("%+v: %d", can, n)
		}
	}
}

// P20.2: a call that is answered doesn't count what was told ahead of it.
func TestP202TriesAnew(t *testing.T) {
	l := station(t, able)
	l.Connect()
	for range able.N2 {
		till(t, l)
	}
	want(t, "DM", l.Take(kind(ctl.DM)), "fresh SABMcP")
	for range able.N2 {
		_, o := till(t, l)
		want(t, "T1", o, "SABMcP")
	}
	l.Take(kind(ctl.UA))
	if n, o := till(t, l); n != 300 {
		t.Error(n, words(o))
	}
	for i := range able.N2 {
		n, o := till(t, l)
		if n != able.T1<<i {
			t.Error(i, n)
		}
		want(t, "T1", o, "RR/0cP")
	}
	l.Disconnect()
	for range able.N2 {
		_, o := till(t, l)
		want(t, "T1", o, "DISCcP")
	}
	_, o := till(t, l)
	want(t, "T1", o, "gone")
}

// P20.2: up, it polls when T1 goes off: more than N2 times, one behind the other, it failed.
func TestP202Poll(t *testing.T) {
	for _, can := range cans {
		for _, wide := range []bool{false, can.Wide} {
			l := isUp(t, can, wide)
			want(t, "Send", send(t, l, "x"), "I0/0c")
			retold(t, l, can, "RR/0cP", "failed", can.T1)
			if l.State() != IsDown || l.Stats().Polls != can.N2 || l.Waits() != 0 {
				t.Error(l.State(), l.Stats(), l.Waits())
			}
			l = isUp(t, can, wide)
			l.Hold(true)
			send(t, l, "x")
			retold(t, l, can, "RNR/0cP", "failed", can.T1)
		}
	}
}

// P20.2: an answer, be it to a poll or to an I frame, ends the counting.
func TestP202OneBehindTheOther(t *testing.T) {
	can := xid.Params{N1: 64, K: 4, T1: 10, N2: 2}
	l := isUp(t, can, false)
	send(t, l, "x")
	for range 10 {
		for range can.N2 {
			_, o := till(t, l)
			want(t, "T1", o, "RR/0cP")
		}
		want(t, "answer", l.Take(res(ctl.Ctl{Kind: ctl.RR, Pf: true})), "I0/0c")
	}
	l = isUp(t, can, false)
	send(t, l, "x")
	for i := range 10 {
		send(t, l, "y")
		for range can.N2 {
			_, o := till(t, l)
			want(t, "T1", o, "RR/0cP")
		}
		want(t, "RR", l.Take(res(ctl.Ctl{Kind: ctl.RR, Nr: (i + 1) % 8})), "") // it is polling still
		for range can.N2 {
			_, o := till(t, l)
			want(t, "T1", o, "RR/0cP")
		}
		want(t, "answer", l.Take(res(ctl.Ctl{Kind: ctl.RR, Nr: (i + 1) % 8, Pf: true})), fmt.Sprintf("I%d/0c", (i+1)%8))
	}
	// what is no answer doesn't
	l = isUp(t, can, false)
	send(t, l, "x")
	for range can.N2 {
		till(t, l)
		l.Take(res(ctl.Ctl{Kind: ctl.RR}))
		l.Take(cmd(ctl.Ctl{Kind: ctl.RR, Pf: true}))
		l.Take(res(ctl.Ctl{Kind: ctl.REJ}))
		l.Take(info(0, 0, "z"))
	}
	_, o := till(t, l)
	want(t, "T1", o, "failed")
}

// P20.2: T3 runs while it is up and T1 doesn't, from when T1 stopped.
func TestP202T3(t *testing.T) {
	for _, can := range cans {
		l := isUp(t, can, can.Wide)
		for range 3 {
			for range 150 {
				want(t, "Tick", l.Tick(), "")
			}
			want(t, "RR", l.Take(res(ctl.Ctl{Kind: ctl.RR})), "") // that nothing awaits
			l.Take(info(0, 0, "x"))                               // nor this one
			n, o := till(t, l)
			if n != 150 || l.Stats().Polls == 0 {
				t.Error(n, l.Stats())
			}
			if s := words(o); s != "RR/1cP" {
				t.Error(s)
			}
			want(t, "answer", l.Take(res(ctl.Ctl{Kind: ctl.RR, Pf: true})), "")
		}
		// T1 stops it
		for range 299 {
			want(t, "Tick", l.Tick(), "")
		}
		send(t, l, "x")
		for range 3 {
			want(t, "Tick", l.Tick(), "")
		}
		l.Take(res(ctl.Ctl{Kind: ctl.RR, Nr: 1}))
		if n, o := till(t, l); n != 300 || words(o) != "RR/1cP" {
			t.Error(n, words(o))
		}
		// up anew, both begin anew
		l.Take(kind(ctl.SABM))
		for range 100 {
			want(t, "Tick", l.Tick(), "")
		}
		l.Take(kind(ctl.SABM))
		if n, o := till(t, l); n != 300 || words(o) != "RR/0cP" {
			t.Error(n, words(o))
		}
	}
}

// P20.2: a poll by T3 that isn't answered is told again by T1.
func TestP202T3AndT1(t *testing.T) {
	can := xid.Params{N1: 64, K: 4, T1: 10, N2: 2}
	l := isUp(t, can, false)
	n, o := till(t, l)
	want(t, "T3", o, "RR/0cP")
	if n != 300 {
		t.Error(n)
	}
	retold(t, l, can, "RR/0cP", "failed", 10)
	if l.Stats().Polls != 3 {
		t.Error(l.Stats())
	}
}

// P20.2: T1 is the smoother's: it learns from answers in time, and becomes twice as much when none comes.
func TestP202Smoother(t *testing.T) {
	l := isUp(t, xid.Usual(), false)
	s := smooth.New(20)
	nr := 0
	for _, took := range []int{0, 3, 5, 1, 9, 2, 0, 0, 7, 12} {
		send(t, l, "x")
		for range took {
			want(t, "Tick", l.Tick(), "")
		}
		nr = (nr + 1) % 8
		want(t, "RR", l.Take(res(ctl.Ctl{Kind: ctl.RR, Nr: nr})), "")
		s.Took(took)
		send(t, l, "y")
		n, o := till(t, l)
		want(t, "T1", o, "RR/0cP")
		if n != s.T1() {
			t.Error(n, s.T1())
		}
		s.None()
		// an answer behind a poll teaches nothing
		l.Tick()
		nr = (nr + 1) % 8
		want(t, "answer", l.Take(res(ctl.Ctl{Kind: ctl.RR, Nr: nr, Pf: true})), "")
	}
	// but one to the first poll of T3 does
	if n, _ := till(t, l); n != 300 {
		t.Error(n)
	}
	for range 3 {
		l.Tick()
	}
	l.Take(res(ctl.Ctl{Kind: ctl.RR, Nr: nr, Pf: true}))
	s.Took(3)
	send(t, l, "z")
	if n, _ := till(t, l); n != s.T1() {
		t.Error(n, s.T1())
	}
}

// P20.2: T1 begins anew when a part is acknowledged, and when all is told again; not when more is told.
func TestP202T1Anew(t *testing.T) {
	can := xid.Params{N1: 64, K: 4, T1: 100, N2: 2}
	l := isUp(t, can, false)
	send(t, l, "x")
	for range 60 {
		want(t, "Tick", l.Tick(), "")
	}
	send(t, l, "y")
	if n, _ := till(t, l); n != 40 {
		t.Error(n)
	}
	l = isUp(t, can, false)
	send(t, l, "x")
	send(t, l, "y")
	for range 60 {
		want(t, "Tick", l.Tick(), "")
	}
	want(t, "RR", l.Take(res(ctl.Ctl{Kind: ctl.RR, Nr: 1})), "")
	s := smooth.New(100)
	if n, _ := till(t, l); n != s.Took(60) {
		t.Error(n)
	}
	l = isUp(t, can, false)
	send(t, l, "x")
	for range 60 {
		want(t, "Tick", l.Tick(), "")
	}
	want(t, "RR", l.Take(res(ctl.Ctl{Kind: ctl.RR})), "")
	want(t, "REJ", l.Take(res(ctl.Ctl{Kind: ctl.REJ})), "I0/0c")
	if n, _ := till(t, l); n != 100 {
		t.Error(n)
	}
}

// P20.3: never are more open than K; what is acknowledged makes room.
func TestP203Window(t *testing.T) {
	for _, can := range cans {
		for _, wide := range []bool{false, can.Wide} {
			l := isUp(t, can, wide)
			k, mod := l.Params().K, 8
			if wide {
				mod = 128
			}
			told := 0
			for range min(k, 70) {
				o, e := l.Send(240, "x")
				told += len(o.Frames)
				if e != api.OK || len(o.Frames) != 1 || o.Frames[0].Ns != told-1 || o.Frames[0].Nr != 0 || o.Frames[0].Pf {
					t.Fatal(e, words(o))
				}
			}
			for range api.MaxSend {
				want(t, "full", send(t, l, "x"), "")
			}
			if o, e := l.Send(240, "x"); e != api.ErrFull || words(o) != "" {
				t.Error(e, words(o))
			}
			acked := 0
			for acked < told {
				acked++
				o := l.Take(res(ctl.Ctl{Kind: ctl.RR, Nr: acked % mod}))
				if len(o.Frames) > 1 || told < k+8 && len(o.Frames) != 1 {
					t.Fatal(words(o))
				}
				if told += len(o.Frames); told-acked > k {
					t.Fatal(told, acked)
				}
			}
			if told != k+8 || l.Waits() != 0 || l.Stats() != (Stats{Told: k + 8}) {
				t.Error(told, l.Waits(), l.Stats())
			}
		}
	}
}

// P20.1: numbers that acknowledge: from the eldest open one to the one behind the last; a frame with another one is dropped, whatever else it says.
func TestP201Nr(t *testing.T) {
	for _, wide := range []bool{false, true} {
		mod, firsts := 8, []int{0, 1, 2, 3, 4, 5, 6, 7}
		if wide {
			mod, firsts = 128, []int{0, 1, 63, 64, 124, 127}
		}
		for _, first := range firsts {
			for open := range 5 {
				for _, k := range []int{ctl.I, ctl.RR, ctl.RNR, ctl.REJ} {
					nrs(t, withOpen(t, wide, first, open), k, first, open, mod)
				}
			}
		}
	}
}

// nrs says what frames of a kind acknowledge: first those that may not be, then those that may, from the eldest on.
func nrs(t *testing.T, l *Link, k, first, open, mod int) {
	t.Helper()
	for far := open + 1; far < mod; far++ {
		before := l.Stats()
		f := res(ctl.Ctl{Kind: k, Nr: (first + far) % mod})
		if o := l.Take(f); words(o) != "" || l.Stats() != before || l.Busy() || len(l.outs.Open()) != open {
			t.Fatalf("%s: first %d, open %d, nr %d: %q", ctl.Name(k), first, open, f.Nr, words(o))
		}
	}
	for far := range open + 1 {
		f := res(ctl.Ctl{Kind: k, Nr: (first + far) % mod})
		o := l.Take(f)
		if len(l.outs.Open()) != open-far || l.Busy() != (k == ctl.RNR) {
			t.Fatalf("%s: first %d, open %d, nr %d: %d are open", ctl.Name(k), first, open, f.Nr, len(l.outs.Open()))
		}
		if k == ctl.REJ && len(o.Frames) != open-far {
			t.Fatalf("first %d, open %d, nr %d: %q", first, open, f.Nr, words(o))
		}
	}
}

// withOpen is a link that is up, and of whose I frames some are open, from a number on.
func withOpen(t *testing.T, wide bool, first, open int) *Link {
	t.Helper()
	l := isUp(t, able, wide)
	for i := range first {
		send(t, l, "x")
		l.Take(res(ctl.Ctl{Kind: ctl.RR, Nr: i + 1}))
	}
	for range open {
		send(t, l, "y")
	}
	return l
}

// P20.1: RNR lets new I frames wait till RR, REJ or I comes; SREJ doesn't.
func TestP201Busy(t *testing.T) {
	for _, wide := range []bool{false, true} {
		for _, k := range []int{ctl.I, ctl.RR, ctl.REJ, ctl.SREJ} {
			l := isUp(t, able, wide)
			want(t, "RNR", l.Take(res(ctl.Ctl{Kind: ctl.RNR})), "")
			if !l.Busy() {
				t.Error("busy")
			}
			want(t, "Send", send(t, l, "x"), "")
			want(t, "Send", send(t, l, "y"), "")
			want(t, "RNR", l.Take(res(ctl.Ctl{Kind: ctl.RNR})), "")
			if n := l.Waits(); n != 2 {
				t.Error(n)
			}
			o := l.Take(cmd(ctl.Ctl{Kind: k}))
			if l.Busy() != (k == ctl.SREJ) {
				t.Error(ctl.Name(k), l.Busy())
			}
			switch k {
			case ctl.SREJ:
				want(t, "SREJ", o, "")
			case ctl.I:
				want(t, "I", o, "I0/1c I1/1c data=")
			default:
				want(t, ctl.Name(k), o, "I0/0c I1/0c")
			}
			l.Take(res(ctl.Ctl{Kind: ctl.RNR, Nr: 0}))
			l.Take(kind(ctl.SABM))
			if l.Busy() {
				t.Error("it began anew")
			}
		}
	}
}

// P20.1: REJ: all that is open is told again, from its number on; SREJ: the one with its number, if it is open: it acknowledges nothing.
func TestP201RejSrej(t *testing.T) {
	for _, wide := range []bool{false, true} {
		l := withOpen(t, wide, 2, 4)
		want(t, "REJ", l.Take(res(ctl.Ctl{Kind: ctl.REJ, Nr: 4})), "I4/0c I5/0c")
		if s := l.Stats(); s != (Stats{Told: 8, Again: 2}) {
			t.Error(s)
		}
		want(t, "REJ", l.Take(res(ctl.Ctl{Kind: ctl.REJ, Nr: 6})), "")
		l = withOpen(t, wide, 2, 4)
		for nr := range 8 {
			for _, text := range []string{"SREJ"} {
				told := ""
				if nr >= 2 && nr < 6 {
					told = fmt.Sprintf("I%d/0c", nr)
				}
				want(t, text, l.Take(res(ctl.Ctl{Kind: ctl.SREJ, Nr: nr})), told)
			}
		}
		if len(l.outs.Open()) != 4 || l.Stats() != (Stats{Told: 10, Again: 4}) {
			t.Error(l.outs.Open(), l.Stats())
		}
	}
	// what is told again is the same, but for what came meanwhile
	l := isUp(t, able, false)
	o := send(t, l, "text")
	l.Take(info(0, 0, "x"))
	again := l.Take(res(ctl.Ctl{Kind: ctl.REJ}))
	if f, g := o.Frames[0], again.Frames[0]; g.Nr != 1 || g.Ns != f.Ns || g.Info != "text" || g.Pid != 240 {
		t.Error(words(again))
	}
}

// P20.2: a response with Pf ends a poll: all that is open is told again, and what waited goes; without a poll it is like another one.
func TestP202PollAnswered(t *testing.T) {
	for _, k := range []int{ctl.I, ctl.RR, ctl.RNR, ctl.REJ, ctl.SREJ} {
		l := withOpen(t, false, 0, 3)
		want(t, "no poll", l.Take(res(ctl.Ctl{Kind: ctl.RR, Pf: true})), "")
		till(t, l)
		want(t, "Send", send(t, l, "new"), "")
		want(t, "a command", l.Take(cmd(ctl.Ctl{Kind: ctl.RR, Nr: 1, Pf: true})), "RR/0P")
		want(t, "without Pf", l.Take(res(ctl.Ctl{Kind: ctl.RR, Nr: 1})), "")
		f := res(ctl.Ctl{Kind: k, Nr: 2, Pf: true})
		bad := f
		bad.Nr = 4
		if k != ctl.SREJ {
			want(t, "another Nr", l.Take(bad), "")
		}
		o := l.Take(f)
		switch k {
		case ctl.I:
			want(t, "I", o, "I2/1c I3/1c data=")
		case ctl.RNR:
			want(t, "RNR", o, "I2/0c")
		case ctl.SREJ:
			want(t, "SREJ", o, "I1/0c I2/0c I3/0c")
		default:
			want(t, ctl.Name(k), o, "I2/0c I3/0c")
		}
		want(t, "ended", l.Take(res(ctl.Ctl{Kind: ctl.RR, Nr: 2, Pf: true})), map[bool]string{true: "I3/0c"}[k == ctl.RNR])
	}
}

// P20.3: a command with Pf is answered, once, whatever else is told.
func TestP203Answered(t *testing.T) {
	for _, hold := range []bool{false, true} {
		for _, k := range []int{ctl.I, ctl.RR, ctl.RNR, ctl.REJ, ctl.SREJ} {
			for _, wide := range []bool{false, true} {
				l := withOpen(t, wide, 1, 2)
				l.Hold(hold)
				o := l.Take(cmd(ctl.Ctl{Kind: k, Nr: 1, Pf: true}))
				ready := "RR/0P"
				switch {
				case hold:
					ready = "RNR/0P"
				case k == ctl.I:
					ready = "RR/1P data="
				}
				switch k {
				case ctl.REJ:
					ready = "I1/0c I2/0c " + ready
				case ctl.SREJ:
					ready = "I1/0c " + ready
				}
				want(t, ctl.Name(k), o, ready)
				l = withOpen(t, wide, 1, 2)
				want(t, "another Nr", l.Take(cmd(ctl.Ctl{Kind: ctl.RR, Nr: 4, Pf: true})), "")
			}
		}
	}
}

// P20.1: held: I frames are dropped, and RNR is told each time; what they acknowledge counts.
func TestP201Held(t *testing.T) {
	for _, wide := range []bool{false, true} {
		l := withOpen(t, wide, 0, 2)
		want(t, "Hold", l.Hold(true), "RNR/0")
		want(t, "Hold", l.Hold(true), "")
		for i := range 3 {
			want(t, "I", l.Take(info(i, 1, "x")), "RNR/0")
		}
		if len(l.outs.Open()) != 1 || l.Stats() != (Stats{Told: 2, Dropped: 3}) {
			t.Error(l.outs.Open(), l.Stats())
		}
		want(t, "another Nr", l.Take(info(0, 4, "x")), "")
		want(t, "Hold", l.Hold(false), "RR/0")
		want(t, "Hold", l.Hold(false), "")
		want(t, "I", l.Take(info(0, 1, "x")), "RR/1 data=x")
	}
	// of a link that isn't up nothing is told; it is held when it comes up
	for state, l := range all(t, able) {
		if strings.HasPrefix(state, "up") {
			continue
		}
		want(t, state, l.Hold(true), "")
		want(t, state, l.Hold(true), "")
		want(t, state, l.Hold(false), "")
		l.Hold(true)
		if state != "down" {
			l.Disconnect()
			l.Take(kind(ctl.UA))
		}
		want(t, state, l.Take(kind(ctl.SABM)), "fresh UAP up")
		want(t, state, l.Take(info(0, 0, "x")), "RNR/0")
		want(t, state, l.Take(kind(ctl.SABM)), "fresh UAP again")
		want(t, state, l.Take(info(0, 0, "x")), "RNR/0")
	}
}

// P20.1: narrow: the one that is awaited comes; REJ is told once till then.
func TestP201Narrow(t *testing.T) {
	for _, can := range cans {
		l := isUp(t, can, false)
		for i := range 20 {
			for j := range 8 {
				told := ""
				if j == 1 {
					told = fmt.Sprintf("REJ/%d", i%8)
				}
				if j > 0 {
					want(t, "another one", l.Take(info((i+j)%8, 0, "x")), told)
				}
			}
			want(t, "the one", l.Take(info(i%8, 0, "y")), fmt.Sprintf("RR/%d data=y", (i+1)%8))
			if s := l.Stats(); s != (Stats{Came: i + 1, Dropped: 7 * (i + 1)}) {
				t.Error(s)
			}
		}
	}
	// held, nothing is asked for
	l := isUp(t, able, false)
	l.Hold(true)
	want(t, "held", l.Take(info(3, 0, "x")), "RNR/0")
	l.Hold(false)
	want(t, "not any more", l.Take(info(3, 0, "x")), "REJ/0")
	// and with Pf REJ isn't the answer
	f := info(3, 0, "x")
	f.Pf = true
	want(t, "Pf", l.Take(f), "RR/0P")
	l = isUp(t, able, false)
	want(t, "Pf", l.Take(f), "REJ/0 RR/0P")
}

// P20.1: wide, with Srej: each that is missing is asked for once till it comes.
func TestP201WideSrej(t *testing.T) {
	l := isUp(t, able, true)
	want(t, "0", l.Take(info(0, 0, "a")), "RR/1 data=a")
	want(t, "3", l.Take(info(3, 0, "d")), "SREJ/1 SREJ/2 RR/1")
	want(t, "3 again", l.Take(info(3, 0, "d")), "")
	want(t, "0 again", l.Take(info(0, 0, "a")), "")
	want(t, "5", l.Take(info(5, 0, "f")), "SREJ/4 RR/1")
	want(t, "2", l.Take(info(2, 0, "c")), "RR/1")
	want(t, "1", l.Take(info(1, 0, "b")), "RR/4 data=b data=c data=d")
	want(t, "7", l.Take(info(7, 0, "h")), "SREJ/6 RR/4")
	want(t, "4", l.Take(info(4, 0, "e")), "RR/6 data=e data=f")
	if s := l.Stats(); s != (Stats{Came: 6, Dropped: 2}) {
		t.Error(s)
	}
	// a number that came is asked for again a round later
	l = isUp(t, able, true)
	for i := range 300 {
		want(t, "ahead", l.Take(info((2*i+1)%128, 0, "x")), fmt.Sprintf("SREJ/%d RR/%d", 2*i%128, 2*i%128))
		want(t, "awaited", l.Take(info(2*i%128, 0, "y")), fmt.Sprintf("RR/%d data=y data=x", (2*i+2)%128))
	}
	// I frames of its own acknowledge
	l = isUp(t, able, true)
	l.Take(res(ctl.Ctl{Kind: ctl.RNR}))
	send(t, l, "x")
	want(t, "1", l.Take(info(1, 0, "b")), "SREJ/0 I0/0c")
}

// P20.1: wide, without Srej: REJ is told once till the awaited one comes.
func TestP201WideRej(t *testing.T) {
	l := isUp(t, plainWide, true)
	want(t, "0", l.Take(info(0, 0, "a")), "RR/1 data=a")
	want(t, "3", l.Take(info(3, 0, "d")), "REJ/1 RR/1")
	want(t, "5", l.Take(info(5, 0, "f")), "RR/1")
	want(t, "5 again", l.Take(info(5, 0, "f")), "")
	want(t, "2", l.Take(info(2, 0, "c")), "RR/1")
	want(t, "1", l.Take(info(1, 0, "b")), "REJ/4 RR/4 data=b data=c data=d")
	want(t, "0 again", l.Take(info(0, 0, "a")), "")
	want(t, "4", l.Take(info(4, 0, "e")), "RR/6 data=e data=f")
	want(t, "5 again", l.Take(info(5, 0, "f")), "")
	if s := l.Stats(); s != (Stats{Came: 6, Dropped: 3}) {
		t.Error(s)
	}
}

// P20.1: wide, up to 64 are kept: the awaited one, and what is less than 64 behind it.
func TestP201Ahead(t *testing.T) {
	for _, can := range []xid.Params{able, plainWide} {
		for _, first := range []int{0, 1, 63, 64, 65, 100, 127} {
			for far := range 128 {
				l := isUp(t, can, true)
				for i := range first {
					l.Take(info(i, 0, "x"))
				}
				before := l.Stats()
				l.Take(info((first+far)%128, 0, "y"))
				before.Dropped += map[bool]int{true: 1}[far >= 64]
				before.Came += map[bool]int{true: 1}[far == 0]
				if l.Stats() != before {
					t.Fatal(first, far, l.Stats())
				}
			}
		}
		// all of them, backward: they come at once
		l := isUp(t, can, true)
		for ns := 63; ns > 0; ns-- {
			l.Take(info(ns, 0, string(rune('0'+ns))))
		}
		o := l.Take(info(0, 0, "0"))
		if len(o.Events) != 64 || words(Out{Frames: o.Frames}) != "RR/64" {
			t.Fatal(words(o))
		}
		for i, e := range o.Events {
			if e != (Event{Data, 240, string(rune('0' + i))}) {
				t.Fatal(i, e)
			}
		}
	}
}

// P20.1: messages in pieces, of any protocol, come whole; one that doesn't go on is dropped.
func TestP201Pieces(t *testing.T) {
	for _, can := range cans {
		for _, pid := range []int{0, 8, 240, 255} {
			for _, n := range []int{0, 1, can.N1 - 1, can.N1, can.N1 + 1, 2 * can.N1, 600} {
				w := newPair(t, can, can)
				w.connect(0)
				w.settle(t, 10)
				text := strings.Repeat("abcdefg", 100)[:n]
				w.send(t, 0, pid, text)
				w.settle(t, 2000)
				if l := w[1].came; len(l) != 1 || l[0] != (Event{Data, pid, text}) {
					t.Fatalf("%+v, pid %d, %d bytes: %v", can, pid, n, l)
				}
			}
		}
	}
	l := isUp(t, xid.Usual(), false)
	first, f := info(0, 0, ""), info(1, 0, "x")
	first.Pid, first.Info = 8, "\x82\xf0a"
	f.Pid, f.Info = 8, "\x00b" // one follows, that isn't there
	want(t, "first", l.Take(first), "RR/1")
	want(t, "not the second", l.Take(f), "RR/2")
	want(t, "a message", l.Take(info(2, 0, "c")), "RR/3 data=c")
	// what began is forgotten when it is up anew
	l.Take(kind(ctl.SABM))
	first.Info = "\x81\xf0a"
	l.Take(first)
	l.Take(kind(ctl.SABM))
	f.Ns = 0
	want(t, "anew", l.Take(f), "RR/1")
}

// P20.1: the errors of Send: ErrDown, if it isn't up; then the box's.
func TestP201Send(t *testing.T) {
	for _, can := range []xid.Params{xid.Usual(), able} {
		for state, l := range all(t, can) {
			if strings.HasPrefix(state, "up") {
				continue
			}
			for _, pid := range []int{-1, 240, 256} {
				if o, e := l.Send(pid, strings.Repeat("x", 601)); e != api.ErrDown || words(o) != "" {
					t.Error(state, e)
				}
			}
		}
	}
	l := isUp(t, xid.Usual(), false)
	for range 2 {
		for _, pid := range []int{math.MinInt, -1, 256, 1<<32 + 240, math.MaxInt} {
			for _, n := range []int{1, 601} {
				if o, e := l.Send(pid, strings.Repeat("x", n)); e != api.ErrArg || words(o) != "" {
					t.Error(e)
				}
			}
		}
		if o, e := l.Send(240, strings.Repeat("x", 601)); e != api.ErrLong || words(o) != "" {
			t.Error(e)
		}
		l.Take(res(ctl.Ctl{Kind: ctl.RNR}))
		for range api.MaxSend {
			l.Send(240, "x")
		}
	}
	if o, e := l.Send(240, "x"); e != api.ErrFull || words(o) != "" || l.Waits() != 8 || l.Stats() != (Stats{}) {
		t.Error(e, l.Waits(), l.Stats())
	}
}

// P20.1: what waits, and what came in part, is dropped where it is up anew, or not any more.
func TestP201Dropped(t *testing.T) {
	for _, wide := range []bool{false, true} {
		for what, do := range map[string]func(*Link){
			"SABM":       func(l *Link) { l.Take(kind(ctl.SABM)) },
			"SABME":      func(l *Link) { l.Take(kind(ctl.SABME)) },
			"DISC":       func(l *Link) { l.Take(kind(ctl.DISC)) },
			"DM":         func(l *Link) { l.Take(kind(ctl.DM)) },
			"FRMR":       func(l *Link) { l.Take(kind(ctl.FRMR)) },
			"Disconnect": func(l *Link) { l.Disconnect() },
			"time": func(l *Link) {
				for l.State() == IsUp {
					l.Tick()
				}
			},
		} {
			l := withOpen(t, wide, 3, 2)
			l.Take(info(4, 3, "ahead"))
			begins := info(0, 3, "")
			begins.Pid, begins.Info = 8, "\x82\xf0a"
			l.Take(begins)
			l.Take(res(ctl.Ctl{Kind: ctl.RNR, Nr: 3}))
			send(t, l, "waits")
			if l.gatherer.Open() != 2 || len(l.open) != 2 || l.Waits() != 2 || len(l.kept) != map[bool]int{true: 1}[wide] || !l.Busy() {
				t.Fatal("nothing is to be dropped")
			}
			do(l)
			if l.Waits() != 0 || l.Busy() || len(l.open) != 0 || len(l.kept) != 0 || len(l.asked) != 0 || l.gatherer.Open() != 0 {
				t.Error(what, l.Waits(), l.Busy())
			}
			if l.State() != IsUp {
				l.Take(kind(ctl.UA))
			}
			if l.State() == IsDown {
				l.Take(kind(ctl.SABM))
			}
			want(t, what, send(t, l, "new"), "I0/0c")
			want(t, what, l.Take(info(0, 0, "a")), "RR/1 data=a")
			want(t, what, l.Take(info(1, 0, "b")), "RR/2 data=b")
			want(t, what, l.Take(info(2, 0, "c")), "RR/3 data=c")
		}
	}
}

// P20.1: how many wait: those that have pieces that weren't told, and one for what is open.
func TestP201Waits(t *testing.T) {
	can := xid.Params{N1: 16, K: 2, T1: 20, N2: 5}
	l := isUp(t, can, false)
	for i, n := range []int{1, 1, 2, 3, 4} {
		send(t, l, "x")
		if l.Waits() != n {
			t.Error(i, l.Waits())
		}
	}
	for i, n := range []int{3, 2, 1, 1, 0} {
		l.Take(res(ctl.Ctl{Kind: ctl.RR, Nr: i + 1}))
		if l.Waits() != n {
			t.Error(i, l.Waits())
		}
	}
}

// P20.1: the counts are of all times since it was made.
func TestP201Stats(t *testing.T) {
	l := isUp(t, able, false)
	send(t, l, "x")
	till(t, l)
	l.Take(res(ctl.Ctl{Kind: ctl.RR, Pf: true}))
	l.Take(info(0, 1, "a"))
	l.Take(info(3, 1, "b"))
	s := Stats{Told: 2, Again: 1, Came: 1, Dropped: 1, Polls: 1}
	for _, do := range []func(){func() {}, func() { l.Take(kind(ctl.SABME)) }, func() { l.Disconnect() }, func() { l.Take(kind(ctl.UA)) }, func() { l.Connect() }} {
		if do(); l.Stats() != s {
			t.Error(l.Stats())
		}
	}
	// I frames of a link that isn't up aren't counted, nor those whose Nr may not be
	l.Take(info(0, 0, "a"))
	l.Take(kind(ctl.SABM))
	l.Take(info(0, 1, "a"))
	if l.Stats() != s {
		t.Error(l.Stats())
	}
}

// P20.3: a frame that isn't right does nothing, in no state.
func TestP203Wrong(t *testing.T) {
	noPath, noCall, digi := kind(ctl.SABM), kind(ctl.SABM), kind(ctl.SABM)
	noPath.Path = path.Path{}
	noCall.From = api.Call{Base: "b"}
	digi.Digis = []path.Digi{{Call: callC}, {Call: callD, Has: true}}
	long, pid, text := info(0, 0, strings.Repeat("x", 257)), info(0, 0, "x"), kind(ctl.SABM)
	pid.Pid = 256
	text.Info = "x"
	l := []frame.Frame{{}, noPath, noCall, digi, long, pid, text, cmd(ctl.Ctl{Kind: 0}), cmd(ctl.Ctl{Kind: 15}), cmd(ctl.Ctl{Kind: -1}), cmd(ctl.Ctl{Kind: ctl.SABM, Nr: 1}), cmd(ctl.Ctl{Kind: ctl.RR, Nr: -1}), cmd(ctl.Ctl{Kind: ctl.RR, Nr: 128, Pf: true}), cmd(ctl.Ctl{Kind: ctl.RR, Nr: math.MaxInt, Pf: true}), info(128, 0, "x"), info(-1, 0, "x")}
	for _, can := range []xid.Params{xid.Usual(), able} {
		for i, f := range l {
			for state, x := range all(t, can) {
				is, s := x.State(), x.Stats()
				want(t, fmt.Sprint(state, i), x.Take(f), "")
				if x.State() != is || x.Stats() != s || path.Text(x.Path()) != "A-3>B" {
					t.Error(state, i)
				}
			}
		}
	}
	// numbers beyond 7 are none, unless it is wide
	narrow, wide := isUp(t, able, false), isUp(t, able, true)
	want(t, "narrow", narrow.Take(info(8, 0, "x")), "")
	want(t, "wide", wide.Take(info(8, 0, "x")), "SREJ/0 SREJ/1 SREJ/2 SREJ/3 SREJ/4 SREJ/5 SREJ/6 SREJ/7 RR/0")
}

// P20.1: a nil link.
func TestP201Nil(t *testing.T) {
	var l *Link
	for _, f := range []func() (Out, api.Errno){l.Connect, l.Disconnect, func() (Out, api.Errno) { return l.Send(-1, "x") }} {
		if o, e := f(); words(o) != "" || e != api.ErrDown {
			t.Error(words(o), e)
		}
	}
	for _, o := range []Out{l.Hold(true), l.Hold(false), l.Take(kind(ctl.SABM)), l.Tick()} {
		want(t, "nil", o, "")
	}
	if l.State() != IsDown || l.Wide() || l.Params() != (xid.Params{}) || l.Waits() != 0 || l.Busy() || l.Stats() != (Stats{}) || l.Path().To != (api.Call{}) || len(l.Path().Digis) != 0 {
		t.Error("nil")
	}
}

// P20.1: one that New did not make doesn't panic.
func TestP201Zero(t *testing.T) {
	for range 3 {
		l := &Link{}
		l.Connect()
		for range 100 {
			l.Tick()
			l.Hold(l.State() == IsDown)
			for k := ctl.I; k <= ctl.TEST; k++ {
				l.Take(kind(k))
			}
			l.Send(240, "x")
			l.Path()
		}
		l.Disconnect()
	}
}

// within asks whether x stands in the memory of s.
func within(x, s string) bool {
	if x == "" || s == "" {
		return false
	}
	a, b := uintptr(unsafe.Pointer(unsafe.StringData(x))), uintptr(unsafe.Pointer(unsafe.StringData(s)))
	return a >= b && a < b+uintptr(len(s))
}

// P20.3: what is told shares no memory with what is kept, with arguments, or with one another; arguments are kept by nobody.
func TestP203Memory(t *testing.T) {
	base := strings.Repeat("Q", 3)
	p := from(api.Call{Base: base}, callB, true, callC)
	l, _ := New(p, able)
	p.Digis[0].Call = callD
	if within(l.way.From.Base, base) || l.Path().Digis[0].Call != callC {
		t.Error("New")
	}
	got := l.Path()
	got.Digis[0].Call = callD
	if l.Path().Digis[0].Call != callC || within(got.From.Base, l.way.From.Base) {
		t.Error("Path")
	}
	call := frame.Frame{Path: from(api.Call{Base: base}, callA, true, callC, callD), Ctl: ctl.Ctl{Kind: ctl.SABME}}
	o := l.Take(call)
	call.Digis[0].Call = callB
	o.Frames[0].Digis[0].Call = callB
	if path.Text(l.Path()) != "A-3>QQQ,D-15,C" || within(l.way.To.Base, base) || call.Digis[1].Call != callD || !call.Digis[1].Has {
		t.Error(path.Text(l.Path()))
	}
	text := strings.Repeat("t", 20)
	o = send(t, l, text)
	send(t, l, text)
	if within(l.open[0].Info, text) || within(o.Frames[0].Info, text) || within(o.Frames[0].Info, l.open[0].Info) {
		t.Error("Send")
	}
	o = l.Take(res(ctl.Ctl{Kind: ctl.REJ}))
	if o.Frames[0].Digis[0].Call = callB; o.Frames[1].Digis[0].Call == callB || within(o.Frames[0].Info, l.open[0].Info) || within(o.Frames[0].From.Base, l.way.From.Base) {
		t.Error("REJ")
	}
	data := strings.Repeat("d", 20)
	l.Take(info(1, 0, data))
	if within(l.kept[1].Info, data) {
		t.Error("kept")
	}
	o = l.Take(info(0, 0, data))
	if len(o.Events) != 2 || within(o.Events[0].Text, data) || within(o.Events[1].Text, data) {
		t.Error(words(o))
	}
	if len(l.kept) != 0 || len(l.asked) != 0 {
		t.Error("what came is kept")
	}
	l.Take(res(ctl.Ctl{Kind: ctl.RR, Nr: 2}))
	if len(l.open) != 0 {
		t.Error("what was acknowledged is kept")
	}
}

// P20.1: the same steps lead to the same, and a link knows nothing of another one.
func TestP201Apart(t *testing.T) {
	one, two, alone := isUp(t, able, true), isUp(t, plainWide, true), isUp(t, able, true)
	for i := range 20 {
		for _, step := range []func(l *Link) Out{
			func(l *Link) Out { o, _ := l.Send(240, "x"); return o },
			func(l *Link) Out { return l.Take(info(2*i%128, 0, "y")) },
			func(l *Link) Out { return l.Tick() },
		} {
			a := words(step(one))
			step(two)
			if b := words(step(alone)); a != b {
				t.Fatal(a, b)
			}
		}
	}
}

// steps are what may happen to a link of A to B.
func steps(t *testing.T) []func(*testing.T, twin) {
	l := []func(*testing.T, twin){
		func(t *testing.T, w twin) { w.connect(t) },
		func(t *testing.T, w twin) { w.disconnect(t) },
		func(t *testing.T, w twin) { w.send(t, 240, "0123456789abcdefghij") },
		func(t *testing.T, w twin) { w.hold(t, !w.m.held) },
		func(t *testing.T, w twin) {
			for range 5 {
				w.tick(t)
			}
		},
	}
	take := func(f frame.Frame) {
		l = append(l, func(t *testing.T, w twin) { w.take(t, f) })
	}
	for _, k := range []int{ctl.SABM, ctl.SABME, ctl.DISC, ctl.UA, ctl.DM, ctl.FRMR} {
		take(kind(k))
	}
	take(xidOf(t, true, plainWide))
	take(xidOf(t, false, plainWide))
	for _, nr := range []int{0, 1, 2} {
		take(res(ctl.Ctl{Kind: ctl.RR, Nr: nr, Pf: true}))
		take(info(nr, 0, "i"))
		take(res(ctl.Ctl{Kind: ctl.SREJ, Nr: nr}))
	}
	take(res(ctl.Ctl{Kind: ctl.REJ, Nr: 1}))
	take(cmd(ctl.Ctl{Kind: ctl.RNR, Nr: 1, Pf: true}))
	return l
}

// P20.1: every order of up to three steps, from each state on.
func TestP201AllOrders(t *testing.T) {
	l := steps(t)
	for _, can := range []xid.Params{{N1: 16, K: 2, T1: 4, N2: 1}, {Wide: true, Srej: true, N1: 16, K: 3, T1: 5, N2: 1}, {Wide: true, N1: 16, K: 2, T1: 4, N2: 1}} {
		for _, first := range []int{0, ctl.SABM, ctl.SABME} {
			for i := range len(l) * len(l) * len(l) {
				w := newTwin(t, from(callA, callB, true), can)
				if first != 0 {
					w.take(t, kind(first))
				}
				for _, j := range []int{i % len(l), i / len(l) % len(l), i / len(l) / len(l)} {
					l[j](t, w)
				}
			}
		}
	}
}

// another is a random frame from B to A, mostly one that fits a link as it is.
func another(r *rand.Rand, m *model, stream *[]seg.Piece) frame.Frame {
	c := ctl.Ctl{Kind: ctl.I + r.Intn(ctl.SREJ), Pf: r.Intn(4) == 0}
	if r.Intn([]int{3, 20, 200}[len(m.digis)%3]) == 0 || m.state != IsUp {
		c.Kind = ctl.I + r.Intn(ctl.TEST)
	}
	f := frame.Frame{Path: from(callB, callA, r.Intn(2) == 0), Ctl: c}
	if r.Intn(100) == 0 {
		f.Path = from(callB, callA, r.Intn(2) == 0, [][]api.Call{{}, {callC}, {callC, callD}}[r.Intn(3)]...)
		f.ToMark = r.Intn(2) == 0
	}
	mod := m.modulus()
	if c.Kind <= ctl.SREJ {
		f.Nr = (m.va + r.Intn(m.vs-m.va+1)) % mod
		if r.Intn(8) == 0 {
			f.Nr = r.Intn(mod)
		}
	}
	if c.Kind == ctl.I {
		i := max(m.vr-2+r.Intn(5), 0)
		if r.Intn(6) == 0 {
			i = max(m.vr-70+r.Intn(140), 0)
		}
		if r.Intn(2) == 0 {
			i = m.vr
		}
		for len(*stream) <= i {
			l, _ := seg.Split([]int{8, 207, 240}[r.Intn(3)], strings.Repeat("s", r.Intn(40)), 16)
			*stream = append(*stream, l...)
		}
		f.Ns, f.Pid, f.Info = i%mod, (*stream)[i].Pid, (*stream)[i].Info
	}
	if c.Kind == ctl.XID && r.Intn(4) > 0 {
		f.Info, _ = xid.Put(cans[r.Intn(len(cans))])
	}
	return f
}

// P20.1, P20.2, P20.3: random steps: it tells what the document's words say.
func TestP201Random(t *testing.T) {
	r := rand.New(rand.NewSource(20))
	most, highest := 0, 0
	for i := range 800 {
		can := cans[i%len(cans)]
		w := newTwin(t, from(callA, callB, true, []api.Call{callC, callD}[:i%3]...), can)
		var stream []seg.Piece
		for range 600 {
			switch x := r.Intn(100); {
			case x < 1:
				if r.Intn(8) == 0 {
					w.disconnect(t)
				}
			case x < 4:
				w.connect(t)
			case x < 25:
				w.send(t, r.Intn(256), strings.Repeat("m", r.Intn(50)))
			case x < 28:
				w.hold(t, r.Intn(2) == 0)
			case x < 45:
				for range []int{1 + r.Intn(12), 1 + r.Intn(12), r.Intn(320)}[r.Intn(2)+r.Intn(60)/59] {
					w.tick(t)
				}
			default:
				w.take(t, another(r, w.m, &stream))
			}
		}
		most, highest = max(most, w.m.mostOpen), max(highest, w.m.highest)
	}
	if most < 16 || highest < 60 {
		t.Error("too little happened:", most, highest)
	}
}
