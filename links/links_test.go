package links

import (
	"fmt"
	"math"
	"slices"
	"strings"
	"testing"
	"unsafe"

	"squelch/api"
	"squelch/ctl"
	"squelch/frame"
	"squelch/link"
	"squelch/path"
	"squelch/xid"
)

// able is wide, and asks for frames one by one.
var able = xid.Params{Wide: true, Srej: true, N1: 64, K: 8, T1: 10, N2: 3}

// hasty gives up soon.
var hasty = xid.Params{N1: 16, K: 1, T1: 4, N2: 1}

var wrongCalls = []api.Call{
	{}, {Ssid: 1}, {Base: "a"}, {Base: "ABCDEFG"}, {Base: "A B"}, {Base: "A "}, {Base: " A"}, {Base: "A-1"}, {Base: "Ä"}, {Base: "A\x00"}, {Base: "A", Ssid: -1}, {Base: "A", Ssid: 16},
	{Base: "A", Ssid: 256}, {Base: "A", Ssid: 1 << 32}, {Base: "A", Ssid: math.MinInt}, {Base: "A", Ssid: math.MaxInt},
}

var wrongParams = []xid.Params{
	{}, {N1: 15, K: 1, T1: 4, N2: 1}, {N1: 257, K: 1, T1: 4, N2: 1}, {N1: 16, K: 0, T1: 4, N2: 1}, {N1: 16, K: 8, T1: 4, N2: 1}, {N1: 16, K: 1, T1: 3, N2: 1}, {N1: 16, K: 1, T1: 256, N2: 1},
	{N1: 16, K: 1, T1: 4, N2: 0}, {N1: 16, K: 1, T1: 4, N2: 16}, {Srej: true, N1: 16, K: 5, T1: 4, N2: 1}, {Wide: true, N1: 16, K: 64, T1: 4, N2: 1}, {Wide: true, Srej: true, N1: 16, K: 33, T1: 4, N2: 1},
	{N1: math.MinInt, K: 1, T1: 4, N2: 1}, {N1: 16, K: math.MaxInt, T1: 4, N2: 1},
}

// wides are narrow and wide.
var wides = []bool{false, true}

// via is the path of a frame that came: all digipeaters have sent it.
func via(from, to api.Call, command bool, digis ...api.Call) path.Path {
	p := path.Path{To: to, From: from, ToMark: command, FromMark: !command}
	for _, d := range digis {
		p.Digis = append(p.Digis, path.Digi{Call: d, Has: true})
	}
	return p
}

func bytesOf(t *testing.T, f frame.Frame, wide bool) string {
	t.Helper()
	s, e := frame.Encode(f, wide)
	if e != api.OK {
		t.Fatalf("Encode(%+v, %v): %d", f, wide, e)
	}
	return s
}

// plain is the bytes of a command from a call to A, of a kind without numbers, with Pf.
func plain(t *testing.T, from api.Call, kind int, digis ...api.Call) string {
	t.Helper()
	return bytesOf(t, frame.Frame{Path: via(from, c("A"), true, digis...), Ctl: ctl.Ctl{Kind: kind, Pf: true}, Info: infoOf(t, kind)}, false)
}

// infoOf is what a frame of a kind has that another station sent.
func infoOf(t *testing.T, kind int) string {
	t.Helper()
	if kind != ctl.XID {
		return ""
	}
	s, e := xid.Put(able)
	if e != api.OK {
		t.Fatal(e)
	}
	return s
}

// kindsOf are the kinds of the frames that are told, by number.
func kindsOf(acts []Act) []int {
	var l []int
	for _, a := range acts {
		for _, f := range a.Out.Frames {
			l = append(l, f.Kind)
		}
	}
	return l
}

func eventsOf(acts []Act) []int {
	var l []int
	for _, a := range acts {
		for _, e := range a.Out.Events {
			l = append(l, e.Kind)
		}
	}
	return l
}

// wants says whether just these frames are told, by that link.
func wants(t *testing.T, what string, acts []Act, id int, peer api.Call, kinds ...int) {
	t.Helper()
	if len(acts) != 1 || acts[0].Id != id || acts[0].Peer != peer || !slices.Equal(kindsOf(acts), kinds) {
		t.Errorf("%s: %q; want %v of %d to %v", what, words(acts), kinds, id, peer)
	}
}

// P21.1: there are at most four.
func TestP211Limit(t *testing.T) {
	if api.MaxLinks != 4 {
		t.Errorf("MaxLinks %d", api.MaxLinks)
	}
}

// P21.1: the example.
func TestP211Example(t *testing.T) {
	w := newTwin(t, c("B"), xid.Usual())
	s := bytesOf(t, frame.Frame{Path: via(c("A"), c("B"), true), Ctl: ctl.Ctl{Kind: ctl.SABM, Pf: true}}, false)
	acts := w.take(t, s)
	wants(t, "SABM", acts, 1, c("A"), ctl.UA)
	if w.d.State(1) != link.IsUp || !slices.Equal(eventsOf(acts), []int{link.Up}) || !slices.Equal(w.d.All(), []int{1}) {
		t.Errorf("%q", words(acts))
	}
	if f := acts[0].Out.Frames[0]; frame.Text(f) != "B>A UA P" || !path.Response(f.Path) {
		t.Errorf("%q", frame.Text(f))
	}
}

// P21.1: New, and its errors, the call's ahead of the parameters'.
func TestP211New(t *testing.T) {
	for _, own := range []api.Call{c("A"), n("ABCDEF", 15), n("0", 1), c("Z9")} {
		for _, can := range []xid.Params{xid.Usual(), able, hasty} {
			newTwin(t, own, can)
		}
	}
	for _, own := range wrongCalls {
		for _, can := range append(wrongParams, able) {
			if d, e := New(own, can); d != nil || e != api.ErrCall {
				t.Errorf("New(%v, %v): %v, %d", own, can, d, e)
			}
		}
	}
	for _, can := range wrongParams {
		if d, e := New(c("A"), can); d != nil || e != api.ErrArg {
			t.Errorf("New(A, %v): %v, %d", can, d, e)
		}
	}
}

// P21.1: a new link calls, or asks, along the way that is told.
func TestP211Connect(t *testing.T) {
	for count := range api.MaxDigis + 1 {
		var digis []api.Call
		way := "A>B-15"
		for i := range count {
			digis = append(digis, n("D", i))
			way += ",D" + []string{"", "-1", "-2", "-3", "-4", "-5", "-6", "-7"}[i]
		}
		for _, can := range []xid.Params{xid.Usual(), able} {
			w := newTwin(t, c("A"), can)
			id, acts, e := w.connect(t, n("B", 15), digis...)
			kind, state := ctl.SABM, link.IsCalling
			if can.Wide {
				kind, state = ctl.XID, link.IsAsking
			}
			wants(t, "Connect", acts, 1, n("B", 15), kind)
			if id != 1 || e != api.OK || w.d.State(1) != state || !acts[0].Out.Fresh {
				t.Errorf("%d, %d, %q", id, e, words(acts))
			}
			if f := acts[0].Out.Frames[0]; path.Text(f.Path) != way || !path.Command(f.Path) || !f.Pf {
				t.Errorf("%q", frame.Text(f))
			}
		}
	}
	w := newTwin(t, c("A"), able)
	if id, _, e := w.connect(t, c("B"), []api.Call{}...); id != 1 || e != api.OK {
		t.Errorf("an empty list isn't none: %d", e)
	}
	if id, _, e := w.connect(t, c("C"), c("A"), c("C"), c("A")); id != 2 || e != api.OK {
		t.Errorf("a way back and forth: %d", e)
	}
}

// manyDigis is that many right ones, of which the one at a place may be another one.
func manyDigis(count, place int, x api.Call) []api.Call {
	var l []api.Call
	for i := range count {
		l = append(l, n("D", i))
	}
	if place < count {
		l[place] = x
	}
	return l
}

// P21.1: Connect's errors, in their order; what is refused changes nothing.
func TestP211ConnectErrors(t *testing.T) {
	tooMany := manyDigis(9, 9, c("D"))
	full := newTwin(t, c("A"), xid.Usual())
	for _, peer := range []string{"B", "C", "D", "E"} {
		full.connect(t, c(peer))
	}
	some := newTwin(t, c("A"), able)
	some.connect(t, c("B"))
	for _, w := range []twin{full, some, newTwin(t, c("A"), able)} {
		for _, peer := range append(wrongCalls, c("A")) {
			for _, digis := range [][]api.Call{nil, tooMany, {c("a")}} {
				if _, _, e := w.connect(t, peer, digis...); e != api.ErrCall {
					t.Errorf("to %v: %d", peer, e)
				}
			}
		}
		for _, peer := range []string{"B", "F"} {
			if _, _, e := w.connect(t, c(peer), tooMany...); e != api.ErrPath {
				t.Errorf("by nine: %d", e)
			}
			for i, x := range wrongCalls {
				if _, _, e := w.connect(t, c(peer), manyDigis(1+i%8, i%(1+i%8), x)...); e != api.ErrPath {
					t.Errorf("by %v: %d", x, e)
				}
			}
		}
	}
	for _, w := range []twin{full, some} {
		for _, digis := range [][]api.Call{nil, {c("X")}} {
			if _, _, e := w.connect(t, c("B"), digis...); e != api.ErrThere {
				t.Errorf("to B anew: %d", e)
			}
		}
	}
	if _, _, e := full.connect(t, c("F")); e != api.ErrFull {
		t.Errorf("a fifth one: %d", e)
	}
	if id, _, e := some.connect(t, n("A", 1)); e != api.OK || id != 2 {
		t.Errorf("to A-1: %d, %d: what was refused took a number", id, e)
	}
}

// P21.1: there is one link to a peer, whoever called, and in whichever state.
func TestP211There(t *testing.T) {
	for _, s := range states {
		w := s.twin(t)
		if _, _, e := w.connect(t, c("B")); e != api.ErrThere {
			t.Errorf("%s: %d", s.name, e)
		}
		if id, _, e := w.connect(t, n("B", 1)); e != api.OK || id != 2 {
			t.Errorf("%s: to B-1: %d", s.name, e)
		}
	}
}

// P21.1: numbers rise, though links are forgotten, and whoever calls.
func TestP211Numbers(t *testing.T) {
	w := newTwin(t, c("A"), xid.Usual())
	for want := 1; want < 40; want++ {
		var id int
		if want%2 == 0 {
			id, _, _ = w.connect(t, c("B"))
		} else {
			id = w.take(t, plain(t, c("B"), ctl.SABM))[0].Id
		}
		if id != want {
			t.Fatalf("number %d; want %d", id, want)
		}
		if want%3 == 0 {
			w.take(t, plain(t, c("B"), ctl.DISC))
			continue
		}
		w.disconnect(t, id)
		w.take(t, plain(t, c("B"), ctl.UA))
	}
}

// P21.1: a fifth link isn't made, by Connect or by what comes; one is, where another one is forgotten; the others stay as they are.
func TestP211Full(t *testing.T) {
	for _, can := range []xid.Params{xid.Usual(), able} {
		w := newTwin(t, c("A"), can)
		for i, peer := range []string{"B", "C", "D", "E"} {
			if i%2 == 0 {
				w.connect(t, c(peer))
			} else {
				w.take(t, plain(t, c(peer), ctl.SABM))
			}
		}
		for _, kind := range []int{ctl.SABM, ctl.SABME, ctl.XID, ctl.DISC} {
			wants(t, ctl.Name(kind), w.take(t, plain(t, c("F"), kind, c("X"))), 0, c("F"), ctl.DM)
		}
		if !slices.Equal(w.d.All(), []int{1, 2, 3, 4}) {
			t.Errorf("%v", w.d.All())
		}
		w.take(t, plain(t, c("C"), ctl.DISC))
		wants(t, "a place is free", w.take(t, plain(t, c("F"), ctl.SABM)), 5, c("F"), ctl.UA)
		if !slices.Equal(w.d.All(), []int{1, 3, 4, 5}) || w.d.Find(c("C")) != 0 || w.d.Find(c("F")) != 5 {
			t.Errorf("%v", w.d.All())
		}
		if _, _, e := w.connect(t, c("C")); e != api.ErrFull {
			t.Errorf("%d", e)
		}
	}
}

// marks are the two marks of a command, a response, and of frames that are neither.
var marks = [][2]bool{{true, false}, {false, true}, {false, false}, {true, true}}

// P21.1: what comes of each kind from a station to which there is no link: what makes one, what is answered by DM, and what by nothing.
func TestP211None(t *testing.T) {
	for _, can := range []xid.Params{xid.Usual(), able} {
		for kind := ctl.I; kind <= ctl.TEST; kind++ {
			for _, m := range marks {
				for _, pf := range wides {
					for _, digis := range [][]api.Call{nil, {c("X")}, {c("X"), n("Y", 3), c("Z")}} {
						f := frame.Frame{Path: via(c("B"), c("A"), true, digis...), Ctl: ctl.Ctl{Kind: kind, Pf: pf}, Info: infoOf(t, kind)}
						f.ToMark, f.FromMark = m[0], m[1]
						none(t, newTwin(t, c("A"), can), f)
					}
				}
			}
		}
	}
}

// none holds what one frame is answered by where there is no link to its sender.
func none(t *testing.T, w twin, f frame.Frame) {
	t.Helper()
	acts := w.take(t, bytesOf(t, f, false))
	id, answer, left := 0, 0, 0
	switch {
	case f.Kind == ctl.SABM, f.Kind == ctl.SABME && w.m.can.Wide:
		id, answer, left = 1, ctl.UA, 1
	case f.Kind == ctl.XID && w.m.can.Wide:
		if path.Command(f.Path) {
			id, answer = 1, ctl.XID
		}
	case f.Kind == ctl.SABME, f.Kind == ctl.XID, f.Kind == ctl.DISC:
		answer = ctl.DM
	}
	if len(w.d.All()) != left {
		t.Fatalf("%s: %v", frame.Text(f), w.d.All())
	}
	if answer == 0 {
		if len(acts) != 0 {
			t.Fatalf("%s: %q", frame.Text(f), words(acts))
		}
		return
	}
	wants(t, frame.Text(f), acts, id, c("B"), answer)
	way := "A>B"
	for _, d := range slices.Backward(f.Digis) {
		way += "," + strings.TrimSuffix(path.Text(via(d.Call, c("B"), true)), ">B")
	}
	if g := acts[0].Out.Frames[0]; path.Text(g.Path) != way || !path.Response(g.Path) || g.Pf != f.Pf {
		t.Fatalf("%s is answered by %s; want it along %s", frame.Text(f), frame.Text(g), way)
	}
}

// state is a table of A with a link, number 1, to B.
type state struct {
	name string
	twin func(*testing.T) twin
}

// caller is a table that calls B, and took frames of these kinds.
func caller(can xid.Params, kinds ...int) func(*testing.T) twin {
	return func(t *testing.T) twin {
		t.Helper()
		w := newTwin(t, c("A"), can)
		w.connect(t, c("B"))
		for _, k := range kinds {
			f := frame.Frame{Path: via(c("B"), c("A"), false), Ctl: ctl.Ctl{Kind: k, Pf: true}, Info: infoOf(t, k)}
			w.take(t, bytesOf(t, f, false))
		}
		return w
	}
}

// called is a table that took a frame of a kind.
func called(can xid.Params, kind int) func(*testing.T) twin {
	return func(t *testing.T) twin {
		t.Helper()
		w := newTwin(t, c("A"), can)
		w.take(t, plain(t, c("B"), kind))
		return w
	}
}

// closing is a table that closes what another one has.
func closing(of func(*testing.T) twin) func(*testing.T) twin {
	return func(t *testing.T) twin {
		t.Helper()
		w := of(t)
		w.disconnect(t, 1)
		return w
	}
}

var states = []state{
	{"asking", caller(able)},
	{"calling narrow", caller(xid.Usual())},
	{"calling narrow behind DM", caller(able, ctl.DM)},
	{"calling wide", caller(able, ctl.XID)},
	{"up narrow by Connect", caller(xid.Usual(), ctl.UA)},
	{"up wide by Connect", caller(able, ctl.XID, ctl.UA)},
	{"up narrow", called(xid.Usual(), ctl.SABM)},
	{"up narrow, wide-able", called(able, ctl.SABM)},
	{"up wide", called(able, ctl.SABME)},
	{"closing", closing(called(xid.Usual(), ctl.SABM))},
	{"closing wide", closing(called(able, ctl.SABME))},
}

// P21.1: the states are what their names say.
func TestP211States(t *testing.T) {
	want := []int{link.IsAsking, link.IsCalling, link.IsCalling, link.IsCalling, link.IsUp, link.IsUp, link.IsUp, link.IsUp, link.IsUp, link.IsClosing, link.IsClosing}
	for i, s := range states {
		w := s.twin(t)
		wide := strings.HasPrefix(s.name, "up wide")
		if w.d.State(1) != want[i] || w.d.Wide(1) != wide || w.d.Find(c("B")) != 1 {
			t.Errorf("%s: %d, %v", s.name, w.d.State(1), w.d.Wide(1))
		}
	}
}

// P21.1: each kind, with each numbers' width, marks and Pf, in each state: it goes to the link of its sender, and to that alone.
func TestP211Kinds(t *testing.T) {
	for _, s := range states {
		for kind := ctl.I; kind <= ctl.TEST; kind++ {
			for i := range 8 {
				f := frame.Frame{Path: via(c("B"), c("A"), true, c("X")), Ctl: ctl.Ctl{Kind: kind, Pf: i&4 != 0}, Info: infoOf(t, kind)}
				f.ToMark, f.FromMark = marks[i%4][0], marks[i%4][1]
				if kind == ctl.I {
					f.Pid, f.Info = 240, "hi"
				}
				for _, wide := range wides {
					w := s.twin(t)
					w.take(t, bytesOf(t, f, wide))
					other := f
					other.From = n("B", 1)
					w = s.twin(t)
					before := w.d.State(1)
					w.take(t, bytesOf(t, other, wide))
					if w.d.State(1) != before {
						t.Errorf("%s: %s changed the link to B", s.name, frame.Text(other))
					}
				}
			}
		}
	}
}

// P21.1: bytes are decoded wide where the link to their sender is wide, and they can be; else narrow.
func TestP211Wide(t *testing.T) {
	info := frame.Frame{Path: via(c("B"), c("A"), true), Ctl: ctl.Ctl{Kind: ctl.I}, Pid: 240, Info: "hello"}
	ready := frame.Frame{Path: via(c("B"), c("A"), true), Ctl: ctl.Ctl{Kind: ctl.RR, Pf: true}}
	for _, s := range states[4:9] {
		w := s.twin(t)
		wide := w.d.Wide(1)
		acts := w.take(t, bytesOf(t, info, wide))
		if len(acts) != 1 || len(acts[0].Out.Events) != 1 || acts[0].Out.Events[0] != (link.Event{Kind: link.Data, Pid: 240, Text: "hello"}) {
			t.Errorf("%s: %q", s.name, words(acts))
		}
		wants(t, s.name, w.take(t, bytesOf(t, ready, wide)), 1, c("B"), ctl.RR)
		acts = w.take(t, bytesOf(t, ready, !wide))
		if wide {
			wants(t, "a narrow RR alone can't be read wide", acts, 1, c("B"), ctl.RR)
		} else if len(acts) != 0 {
			t.Errorf("%s: wide bytes came: %q", s.name, words(acts))
		}
	}
}

// P21.1: just the link to the sender tells how its bytes are decoded, not that of another one.
func TestP211WideOfOthers(t *testing.T) {
	w := newTwin(t, c("A"), able)
	w.take(t, plain(t, c("B"), ctl.SABME))
	w.take(t, plain(t, c("C"), ctl.SABM))
	for i, peer := range []string{"B", "C"} {
		for _, wide := range wides {
			f := frame.Frame{Path: via(c(peer), c("A"), true), Ctl: ctl.Ctl{Kind: ctl.RR, Pf: true}}
			acts := w.take(t, bytesOf(t, f, wide))
			if peer == "C" && wide {
				if len(acts) != 0 {
					t.Errorf("%q", words(acts))
				}
				continue
			}
			wants(t, peer, acts, i+1, c(peer), ctl.RR)
			if e := frame.Right(acts[0].Out.Frames[0], w.d.Wide(i+1)); !e {
				t.Error("it isn't right")
			}
		}
	}
}

// P21.1: numbers go beyond seven where the link is wide.
func TestP211WideNumbers(t *testing.T) {
	w := newTwin(t, c("A"), able)
	w.take(t, plain(t, c("B"), ctl.SABME))
	for i := range 200 {
		f := frame.Frame{Path: via(c("B"), c("A"), true), Ctl: ctl.Ctl{Kind: ctl.I, Ns: i % 128}, Pid: 240, Info: "x"}
		acts := w.take(t, bytesOf(t, f, true))
		if !slices.Equal(eventsOf(acts), []int{link.Data}) || acts[0].Out.Frames[0].Nr != (i+1)%128 {
			t.Fatalf("%d: %q", i, words(acts))
		}
	}
}

// P21.1: what isn't for the call changes nothing: to another one, not sent by all digipeaters, from the call itself, or no frame at all.
func TestP211NotFor(t *testing.T) {
	good := bytesOf(t, frame.Frame{Path: via(c("B"), c("A"), true, c("X"), c("Y")), Ctl: ctl.Ctl{Kind: ctl.SABM}}, false)
	for _, s := range append(states, state{"none", func(t *testing.T) twin { return newTwin(t, c("A"), able) }}) {
		w := s.twin(t)
		before := fmt.Sprint(w.d.All(), w.d.State(1))
		for kind := ctl.SABM; kind <= ctl.TEST; kind++ {
			for has := range 4 {
				p := via(c("B"), c("A"), true, c("X"), c("Y"))
				switch has {
				case 0, 1:
					p.Digis[1].Has, p.Digis[0].Has = false, has == 1
				case 2:
					p.To = n("A", 1)
				case 3:
					p.From = c("A")
				}
				if acts := w.take(t, bytesOf(t, frame.Frame{Path: p, Ctl: ctl.Ctl{Kind: kind, Pf: true}, Info: infoOf(t, kind)}, false)); len(acts) != 0 {
					t.Errorf("%s: %s %s: %q", s.name, path.Text(p), ctl.Name(kind), words(acts))
				}
			}
		}
		for i := range good {
			w.take(t, good[:i])
		}
		for _, junk := range []string{"", "x", strings.Repeat("\x00", 20), strings.Repeat("\xff", 400), good + "x", good[:len(good)-1] + "\x00"} {
			if acts := w.take(t, junk); len(acts) != 0 {
				t.Errorf("%s: %q: %q", s.name, junk, words(acts))
			}
		}
		if after := fmt.Sprint(w.d.All(), w.d.State(1)); after != before {
			t.Errorf("%s: %s; want %s", s.name, after, before)
		}
	}
}

// P21.1: each byte of a SABM turned, by each bit.
func TestP211Turned(t *testing.T) {
	good := plain(t, c("B"), ctl.SABM, c("X"))
	for i := range good {
		for bit := range 8 {
			b := []byte(good)
			b[i] ^= 1 << bit
			newTwin(t, c("A"), able).take(t, string(b))
			up := called(able, ctl.SABME)(t)
			up.take(t, string(b))
		}
	}
}

// P21.1: a XID that no link is for is answered, with a number; what was agreed is forgotten, and the number isn't given again.
func TestP211Xid(t *testing.T) {
	w := newTwin(t, c("A"), able)
	theirs := xid.Params{Wide: true, N1: 16, K: 1, T1: 30, N2: 2}
	s, _ := xid.Put(theirs)
	ask := bytesOf(t, frame.Frame{Path: via(c("B"), c("A"), true, c("X")), Ctl: ctl.Ctl{Kind: ctl.XID, Pf: true}, Info: s}, false)
	acts := w.take(t, ask)
	wants(t, "XID", acts, 1, c("B"), ctl.XID)
	if f := acts[0].Out.Frames[0]; path.Text(f.Path) != "A>B,X" || !path.Response(f.Path) || !f.Pf {
		t.Errorf("%s", frame.Text(f))
	}
	if p, _ := xid.Get(acts[0].Out.Frames[0].Info); p != able {
		t.Errorf("%v", p)
	}
	if len(w.d.All()) != 0 || w.d.Find(c("B")) != 0 {
		t.Errorf("%v", w.d.All())
	}
	wants(t, "SABME", w.take(t, plain(t, c("B"), ctl.SABME)), 2, c("B"), ctl.UA)
	acts, _ = w.send(t, 2, 240, strings.Repeat("m", 60))
	if f := acts[0].Out.Frames; len(f) != 1 || len(f[0].Info) != 60 {
		t.Errorf("what was agreed holds still: %q", words(acts))
	}
	none := bytesOf(t, frame.Frame{Path: via(c("C"), c("A"), true), Ctl: ctl.Ctl{Kind: ctl.XID}, Info: "none"}, false)
	wants(t, "bytes that are none", w.take(t, none), 3, c("C"), ctl.DM)
}

// P21.1: what was agreed holds for a link that is there.
func TestP211Agreed(t *testing.T) {
	w := newTwin(t, c("A"), able)
	w.take(t, plain(t, c("B"), ctl.SABM))
	s, _ := xid.Put(xid.Params{Wide: true, N1: 16, K: 1, T1: 30, N2: 2})
	w.take(t, bytesOf(t, frame.Frame{Path: via(c("B"), c("A"), true), Ctl: ctl.Ctl{Kind: ctl.XID, Pf: true}, Info: s}, false))
	w.take(t, plain(t, c("B"), ctl.SABME))
	acts, _ := w.send(t, 1, 240, strings.Repeat("m", 60))
	if f := acts[0].Out.Frames; len(f) != 1 || len(f[0].Info) != 16 {
		t.Errorf("%q", words(acts))
	}
}

// P21.1: the way of a link is the way back of what made it, and of what calls anew.
func TestP211Way(t *testing.T) {
	w := newTwin(t, c("A"), xid.Usual())
	w.take(t, plain(t, c("B"), ctl.SABM, c("X"), c("Y")))
	way := func(want string) {
		t.Helper()
		acts, _ := w.send(t, 1, 240, "hi")
		if s := path.Text(acts[0].Out.Frames[0].Path); s != want {
			t.Errorf("%s; want %s", s, want)
		}
	}
	way("A>B,Y,X")
	w.take(t, plain(t, c("B"), ctl.DISC, c("Z"))) // what isn't a call changes no way
	w.take(t, plain(t, c("B"), ctl.SABM, c("Z")))
	acts, _ := w.send(t, 2, 240, "hi")
	if s := path.Text(acts[0].Out.Frames[0].Path); s != "A>B,Z" {
		t.Errorf("%s", s)
	}
	w.take(t, plain(t, c("B"), ctl.SABM))
	acts, _ = w.send(t, 2, 240, "hi")
	if s := path.Text(acts[0].Out.Frames[0].Path); s != "A>B" {
		t.Errorf("%s", s)
	}
}

// P21.1: a link that is down behind what it did is forgotten, whatever it was: its number is no link's any more.
func TestP211Forgotten(t *testing.T) {
	for _, s := range states {
		for name, end := range map[string]func(twin) []Act{
			"DISC": func(w twin) []Act { return w.take(t, plain(t, c("B"), ctl.DISC)) },
			"time": func(w twin) []Act {
				for range 2000 {
					if l := w.tick(t); len(w.d.All()) == 0 {
						return l
					}
				}
				t.Fatalf("%s: it never fails", s.name)
				return nil
			},
			"Disconnect, DM": func(w twin) []Act {
				l, e := w.disconnect(t, 1)
				if e != api.OK || len(w.d.All()) > 0 {
					l = w.take(t, bytesOf(t, frame.Frame{Path: via(c("B"), c("A"), false), Ctl: ctl.Ctl{Kind: ctl.DM, Pf: true}}, false))
				}
				return l
			},
		} {
			w := s.twin(t)
			l := end(w)
			if len(l) != 1 || l[0].Id != 1 || l[0].Peer != c("B") || len(w.d.All()) != 0 || w.d.Find(c("B")) != 0 {
				t.Errorf("%s, %s: %q, %v", s.name, name, words(l), w.d.All())
			}
			for _, f := range []func(int) ([]Act, api.Errno){w.d.Disconnect, func(id int) ([]Act, api.Errno) { return w.d.Hold(id, true) }, func(id int) ([]Act, api.Errno) { return w.d.Send(id, 240, "x") }} {
				if l, e := f(1); l != nil || e != api.ErrNone {
					t.Errorf("%s, %s: %v, %d", s.name, name, l, e)
				}
			}
			if id, _, e := w.connect(t, c("B")); id != 2 || e != api.OK {
				t.Errorf("%s, %s: %d, %d", s.name, name, id, e)
			}
		}
	}
}

// P21.1: a tick goes by for all links, and those that told something are named, by their numbers.
func TestP211Tick(t *testing.T) {
	w := newTwin(t, c("A"), hasty)
	w.connect(t, c("E"))
	w.take(t, plain(t, c("B"), ctl.SABM))
	w.connect(t, c("D"))
	w.take(t, plain(t, c("C"), ctl.SABM))
	w.tick(t)
	w.send(t, 4, 240, "hi")
	for range 2 {
		if l := w.tick(t); len(l) != 0 {
			t.Errorf("%q", words(l))
		}
	}
	l := w.tick(t)
	if len(l) != 2 || l[0].Id != 1 || l[0].Peer != c("E") || l[1].Id != 3 || l[1].Peer != c("D") || !slices.Equal(kindsOf(l), []int{ctl.SABM, ctl.SABM}) {
		t.Errorf("%q", words(l))
	}
	wants(t, "the next one", w.tick(t), 4, c("C"), ctl.RR)
	var gone []int
	for range 400 {
		for _, a := range w.tick(t) {
			for _, e := range a.Out.Events {
				if e.Kind != link.Failed {
					t.Errorf("%q", words(l))
				}
				gone = append(gone, a.Id)
			}
		}
	}
	if !slices.Equal(gone, []int{1, 3, 4, 2}) || len(w.d.All()) != 0 {
		t.Errorf("%v failed; %v are left", gone, w.d.All())
	}
	if l := w.tick(t); len(l) != 0 {
		t.Errorf("%q", words(l))
	}
}

// P21.1: all four fail with one tick, and each is told.
func TestP211AllFail(t *testing.T) {
	w := newTwin(t, c("A"), hasty)
	for _, peer := range []string{"E", "C", "D", "B"} {
		w.connect(t, c(peer))
	}
	var l []Act
	for len(w.d.All()) > 0 {
		l = w.tick(t)
	}
	if len(l) != 4 || !slices.Equal(eventsOf(l), []int{link.Failed, link.Failed, link.Failed, link.Failed}) || l[0].Peer != c("E") || l[3].Peer != c("B") {
		t.Errorf("%q", words(l))
	}
}

// P21.1: Disconnect in each state: the link's answer, and its error.
func TestP211Disconnect(t *testing.T) {
	for _, s := range states {
		w := s.twin(t)
		state := w.d.State(1)
		l, e := w.disconnect(t, 1)
		switch state {
		case link.IsUp:
			wants(t, s.name, l, 1, c("B"), ctl.DISC)
			if !l[0].Out.Fresh || w.d.State(1) != link.IsClosing {
				t.Errorf("%s: %q", s.name, words(l))
			}
		case link.IsClosing:
			if e != api.ErrDown || l != nil || w.d.State(1) != link.IsClosing {
				t.Errorf("%s: %d, %q", s.name, e, words(l))
			}
		default:
			if e != api.OK || len(w.d.All()) != 0 || !slices.Equal(eventsOf(l), []int{link.Gone}) {
				t.Errorf("%s: %d, %q", s.name, e, words(l))
			}
		}
	}
}

// P21.1: Send in each state: a message goes to the peer; the link's errors.
func TestP211Send(t *testing.T) {
	for _, s := range states {
		w := s.twin(t)
		up := w.d.State(1) == link.IsUp
		l, e := w.send(t, 1, 240, "hi")
		if !up {
			if e != api.ErrDown || l != nil {
				t.Errorf("%s: %d, %q", s.name, e, words(l))
			}
			continue
		}
		wants(t, s.name, l, 1, c("B"), ctl.I)
		if f := l[0].Out.Frames[0]; f.Info != "hi" || f.Pid != 240 || w.d.Waits(1) != 1 {
			t.Errorf("%s: %q", s.name, words(l))
		}
		for _, pid := range []int{-1, 256, math.MinInt, math.MaxInt} {
			if l, e := w.send(t, 1, pid, "hi"); l != nil || e == api.OK {
				t.Errorf("Pid %d: %d", pid, e)
			}
		}
		if _, e := w.send(t, 1, 240, strings.Repeat("x", api.MaxMsg+1)); e == api.OK {
			t.Error("too long a message")
		}
		for range 60 {
			_, e = w.send(t, 1, 240, strings.Repeat("x", api.MaxMsg))
		}
		if e != api.ErrFull {
			t.Errorf("%s: %d", s.name, e)
		}
	}
}

// P21.1: Hold in each state: a link that tells nothing isn't named; what isn't up yet is held when it is.
func TestP211Hold(t *testing.T) {
	for _, s := range states {
		w := s.twin(t)
		up := w.d.State(1) == link.IsUp
		for _, on := range []bool{false, true, true, false} {
			l, e := w.hold(t, 1, on)
			if e != api.OK || !up && l != nil {
				t.Errorf("%s: %d, %q", s.name, e, words(l))
			}
		}
		if !up {
			continue
		}
		l, _ := w.hold(t, 1, true)
		wants(t, s.name, l, 1, c("B"), ctl.RNR)
		if l, _ := w.hold(t, 1, true); l != nil {
			t.Errorf("%s: %q", s.name, words(l))
		}
		l, _ = w.hold(t, 1, false)
		wants(t, s.name, l, 1, c("B"), ctl.RR)
	}
	w := caller(xid.Usual())(t)
	w.hold(t, 1, true)
	w.take(t, plain(t, c("B"), ctl.UA))
	f := frame.Frame{Path: via(c("B"), c("A"), true), Ctl: ctl.Ctl{Kind: ctl.I}, Pid: 240, Info: "x"}
	wants(t, "held ahead", w.take(t, bytesOf(t, f, false)), 1, c("B"), ctl.RNR)
}

// P21.1: numbers of no link.
func TestP211NoLink(t *testing.T) {
	for _, s := range append(states, state{"none", func(t *testing.T) twin { return newTwin(t, c("A"), able) }}) {
		w := s.twin(t)
		for _, id := range w.near() {
			if len(w.d.All()) > 0 && id == 1 {
				continue
			}
			for _, text := range []string{"x", "", strings.Repeat("x", 1000)} {
				for _, pid := range []int{240, -1} {
					if l, e := w.send(t, id, pid, text); l != nil || e != api.ErrNone {
						t.Errorf("%s: Send(%d): %d", s.name, id, e)
					}
				}
			}
			if l, e := w.disconnect(t, id); l != nil || e != api.ErrNone {
				t.Errorf("%s: Disconnect(%d): %d", s.name, id, e)
			}
			for _, on := range wides {
				if l, e := w.hold(t, id, on); l != nil || e != api.ErrNone {
					t.Errorf("%s: Hold(%d): %d", s.name, id, e)
				}
			}
		}
	}
}

// P21.1: what one link is told changes no other one.
func TestP211Others(t *testing.T) {
	w := newTwin(t, c("A"), xid.Usual())
	for _, peer := range []string{"B", "C", "D"} {
		w.take(t, plain(t, c(peer), ctl.SABM))
	}
	w.send(t, 2, 240, "one")
	w.send(t, 2, 240, "two")
	w.send(t, 3, 240, "three")
	if w.d.Waits(1) != 0 || w.d.Waits(2) != 1 || w.d.Waits(3) != 1 {
		t.Errorf("%d, %d, %d wait", w.d.Waits(1), w.d.Waits(2), w.d.Waits(3))
	}
	ack := frame.Frame{Path: via(c("C"), c("A"), false), Ctl: ctl.Ctl{Kind: ctl.RR, Nr: 2}}
	w.take(t, bytesOf(t, ack, false))
	if w.d.Waits(2) != 0 || w.d.Waits(3) != 1 {
		t.Errorf("%d, %d wait", w.d.Waits(2), w.d.Waits(3))
	}
	w.disconnect(t, 2)
	if w.d.State(1) != link.IsUp || w.d.State(2) != link.IsClosing || w.d.State(3) != link.IsUp {
		t.Errorf("%d, %d, %d", w.d.State(1), w.d.State(2), w.d.State(3))
	}
}

// P21.1: Can is for links that are made from now on; what is refused changes nothing.
func TestP211Can(t *testing.T) {
	w := newTwin(t, c("A"), xid.Usual())
	w.take(t, plain(t, c("B"), ctl.SABM))
	for _, p := range wrongParams {
		if e := w.allows(t, p); e != api.ErrArg {
			t.Errorf("Can(%v): %d", p, e)
		}
	}
	wants(t, "not wide-able", w.take(t, plain(t, c("C"), ctl.SABME)), 0, c("C"), ctl.DM)
	if e := w.allows(t, able); e != api.OK {
		t.Errorf("%d", e)
	}
	wants(t, "wide-able", w.take(t, plain(t, c("C"), ctl.SABME)), 2, c("C"), ctl.UA)
	wants(t, "as it was made", w.take(t, plain(t, c("B"), ctl.SABME)), 1, c("B"), ctl.DM)
	_, l, _ := w.connect(t, c("D"))
	wants(t, "it asks", l, 3, c("D"), ctl.XID)
	w.allows(t, hasty)
	_, l, _ = w.connect(t, c("E"))
	wants(t, "it calls", l, 4, c("E"), ctl.SABM)
	wants(t, "as it was made", w.take(t, plain(t, c("C"), ctl.SABME)), 2, c("C"), ctl.UA)
	if e := w.allows(t, wrongParams[0]); e != api.ErrArg || !w.d.Wide(2) {
		t.Errorf("%d", e)
	}
	for range 3 {
		w.tick(t)
	}
	wants(t, "T1 of what may be now", w.tick(t), 4, c("E"), ctl.SABM)
}

// P21.1: a nil table has nothing, and lets nothing be done.
func TestP211Nil(t *testing.T) {
	var d *Table
	for _, peer := range []api.Call{c("B"), {}} {
		if id, l, e := d.Connect(peer, c("X")); id != 0 || l != nil || e != api.ErrArg {
			t.Errorf("Connect: %d, %v, %d", id, l, e)
		}
		if id := d.Find(peer); id != 0 {
			t.Errorf("Find: %d", id)
		}
	}
	for _, p := range []xid.Params{able, {}} {
		if e := d.Can(p); e != api.ErrArg {
			t.Errorf("Can: %d", e)
		}
	}
	for _, id := range []int{0, 1, -1, math.MaxInt} {
		nilLink(t, d, id)
		nilLink(t, &Table{}, id)
	}
	for _, d := range []*Table{nil, {}} {
		for kind := ctl.SABM; kind <= ctl.TEST; kind++ {
			if l := d.Take(plain(t, c("B"), kind)); len(l) != 0 {
				t.Errorf("Take: %v", l)
			}
		}
		if l := d.Tick(); len(l) != 0 {
			t.Errorf("Tick: %v", l)
		}
		if l := d.All(); len(l) != 0 {
			t.Errorf("All: %v", l)
		}
		d.Take("")
	}
	if id, l, e := (&Table{}).Connect(c("B")); id != 0 || l != nil || e != api.ErrPath {
		t.Errorf("Connect of none's: %d, %v, %d", id, l, e)
	}
}

// nilLink asks a table without links for one.
func nilLink(t *testing.T, d *Table, id int) {
	t.Helper()
	if l, e := d.Disconnect(id); l != nil || e != api.ErrNone {
		t.Errorf("Disconnect: %v, %d", l, e)
	}
	if l, e := d.Send(id, 240, "x"); l != nil || e != api.ErrNone {
		t.Errorf("Send: %v, %d", l, e)
	}
	if l, e := d.Hold(id, true); l != nil || e != api.ErrNone {
		t.Errorf("Hold: %v, %d", l, e)
	}
	if p, ok := d.Peer(id); p != (api.Call{}) || ok {
		t.Errorf("Peer: %v, %v", p, ok)
	}
	if d.State(id) != link.IsDown || d.Wide(id) || d.Waits(id) != 0 {
		t.Errorf("%d, %v, %d", d.State(id), d.Wide(id), d.Waits(id))
	}
}

// within tells whether x lies in the memory of s.
func within(x, s string) bool {
	if x == "" || s == "" {
		return false
	}
	a, b := uintptr(unsafe.Pointer(unsafe.StringData(x))), uintptr(unsafe.Pointer(unsafe.StringData(s)))
	return a >= b && a < b+uintptr(len(s))
}

// P21.1: nothing that is handed in is kept or written into, and what is answered is nobody else's.
func TestP211Memory(t *testing.T) {
	own, to := strings.Repeat("A", 1), strings.Repeat("B", 1)
	w := newTwin(t, c("A"), xid.Usual())
	w.d, _ = New(c(own), xid.Usual())
	if within(w.d.own.Base, own) {
		t.Error("New keeps its argument's memory")
	}
	digis := []api.Call{c("X"), c("Y"), c("Z")}
	_, l, _ := w.d.Connect(c(to), digis[:2]...)
	w.m.connect(c("B"), digis[:2])
	digis[0] = c("Q")
	if digis[2] != c("Z") || within(w.d.entries[0].peer.Base, to) || within(l[0].Peer.Base, to) {
		t.Error("Connect")
	}
	kept := w.d.entries[0].peer.Base
	peer, _ := w.d.Peer(1)
	if within(l[0].Peer.Base, kept) || within(peer.Base, kept) || within(l[0].Peer.Base, l[0].Out.Frames[0].To.Base) {
		t.Error("what is answered is what is kept")
	}
	l[0].Out.Frames[0].Digis[0] = path.Digi{}
	w.take(t, plain(t, c("B"), ctl.UA, c("Y"), c("X")))
	w.send(t, 1, 240, "hi")
	ids := w.d.All()
	ids[0] = 9
	w.same(t)
	s := plain(t, c("E"), ctl.DISC, c("X"))
	l = w.take(t, s)
	f := l[0].Out.Frames[0]
	if within(l[0].Peer.Base, s) || within(l[0].Peer.Base, f.To.Base) || within(f.From.Base, w.d.own.Base) {
		t.Error("DM")
	}
}

// P21.1: a link that is forgotten isn't kept.
func TestP211Kept(t *testing.T) {
	w := newTwin(t, c("A"), xid.Usual())
	for _, peer := range []string{"B", "C", "D"} {
		w.take(t, plain(t, c(peer), ctl.SABM))
	}
	w.take(t, plain(t, c("B"), ctl.DISC))
	for _, x := range w.d.entries[len(w.d.entries):cap(w.d.entries)] {
		if x != nil {
			t.Errorf("%d is kept", x.id)
		}
	}
}

// P21.1: two tables have nothing together.
func TestP211Apart(t *testing.T) {
	a, b := newTwin(t, c("A"), xid.Usual()), newTwin(t, c("A"), able)
	a.connect(t, c("B"))
	b.same(t)
	b.take(t, plain(t, c("C"), ctl.SABME))
	a.same(t)
	a.allows(t, hasty)
	b.allows(t, xid.Usual())
	a.tick(t)
	b.same(t)
	if id, _, _ := b.connect(t, c("B")); id != 2 {
		t.Errorf("%d", id)
	}
	a.disconnect(t, 1)
	b.same(t)
	if !slices.Equal(b.d.All(), []int{1, 2}) {
		t.Errorf("%v", b.d.All())
	}
}

// P21.1: all orders of four steps.
func TestP211AllOrders(t *testing.T) {
	info := frame.Frame{Path: via(c("B"), c("A"), true), Ctl: ctl.Ctl{Kind: ctl.I}, Pid: 240, Info: "x"}
	wideInfo, narrowInfo := bytesOf(t, info, true), bytesOf(t, info, false)
	took := func(s string) func(twin) { return func(w twin) { w.take(t, s) } }
	steps := []func(twin){
		took(plain(t, c("B"), ctl.SABM)), took(plain(t, c("B"), ctl.SABME, c("X"))), took(plain(t, c("B"), ctl.XID)), took(plain(t, c("B"), ctl.DISC)), took(plain(t, c("B"), ctl.UA)), took(plain(t, c("B"), ctl.DM)), took(plain(t, c("B"), ctl.FRMR)),
		took(wideInfo), took(narrowInfo), took(plain(t, c("C"), ctl.SABM)),
		func(w twin) { w.connect(t, c("B"), c("Y")) },
		func(w twin) { w.disconnect(t, 1) },
		func(w twin) { w.disconnect(t, 2) },
		func(w twin) { w.send(t, 1, 240, "hi") },
		func(w twin) { w.hold(t, 1, true) },
		func(w twin) { w.allows(t, hasty) },
		func(w twin) {
			for range 4 {
				w.tick(t)
			}
		},
	}
	for i := range len(steps) * len(steps) * len(steps) * len(steps) {
		w := newTwin(t, c("A"), able)
		for range 4 {
			steps[i%len(steps)](w)
			i /= len(steps)
		}
	}
}
