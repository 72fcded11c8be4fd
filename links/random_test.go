package links

import (
	"fmt"
	"math/rand"
	"strings"
	"testing"

	"squelch/api"
	"squelch/ctl"
	"squelch/frame"
	"squelch/link"
	"squelch/path"
	"squelch/xid"
)

// network is stations that hear each other, where frames may be lost, or spoilt.
type network struct {
	r        *rand.Rand
	stations []twin
	way      []string // frames that are on their way: they come to all
	seen     map[string]int
}

var stations = []api.Call{c("A"), n("A", 1), c("B"), c("C"), c("D"), n("E", 15)}

func newNetwork(t *testing.T, seed int64) *network {
	t.Helper()
	w := &network{r: rand.New(rand.NewSource(seed)), seen: map[string]int{}}
	for _, s := range stations {
		w.stations = append(w.stations, newTwin(t, s, w.can()))
	}
	return w
}

// can is what links can do: small, so that much happens soon.
func (w *network) can() xid.Params {
	return []xid.Params{xid.Usual(), able, hasty, {Wide: true, N1: 16, K: 20, T1: 6, N2: 2}}[w.r.Intn(4)]
}

// told puts what is told on its way, and marks what was seen.
func (w *network) told(t *testing.T, x twin, acts []Act, wides map[int]bool) {
	t.Helper()
	for _, a := range acts {
		if a.Id == 0 {
			w.seen["refused"]++
		}
		for _, f := range a.Out.Frames {
			s, e := frame.Encode(f, x.d.Wide(a.Id))
			if e != api.OK {
				s = bytesOf(t, f, wides[a.Id])
			}
			w.way = append(w.way, w.passed(t, s))
		}
		for _, e := range a.Out.Events {
			w.seen[fmt.Sprint("event ", e.Kind)]++
		}
	}
	if len(x.d.All()) == api.MaxLinks {
		w.seen["full"]++
	}
	for _, id := range x.d.All() {
		if x.d.Wide(id) {
			w.seen["wide"]++
		}
	}
}

// passed is bytes that digipeaters sent on; seldom not all of them did.
func (w *network) passed(t *testing.T, s string) string {
	t.Helper()
	p, at, e := path.Get(s)
	if e != api.OK {
		t.Fatal(e)
	}
	for more := true; more && w.r.Intn(40) > 0; {
		p, more = path.Sent(p)
	}
	way, _ := path.Put(p)
	return way + s[at:]
}

// come lets the first bytes that are on their way come to all, be lost, be spoilt, or come twice.
func (w *network) come(t *testing.T) {
	t.Helper()
	if len(w.way) == 0 {
		return
	}
	s := w.way[0]
	switch w.r.Intn(30) {
	case 0, 1:
		w.way = w.way[1:]
		return
	case 2:
		b := []byte(s)
		b[w.r.Intn(len(b))] ^= 1 << w.r.Intn(8)
		s = string(b)
		w.way = w.way[1:]
	case 3:
	default:
		w.way = w.way[1:]
	}
	for _, x := range w.stations {
		wides := x.wides()
		w.told(t, x, x.take(t, s), wides)
	}
}

// step lets something happen.
func (w *network) step(t *testing.T) {
	t.Helper()
	x := w.stations[w.r.Intn(len(w.stations))]
	wides := x.wides()
	id := x.m.last - w.r.Intn(6)
	var acts []Act
	switch k := w.r.Intn(60); {
	case k < 4:
		var digis []api.Call
		for range w.r.Intn(3) {
			digis = append(digis, n("X", w.r.Intn(17)))
		}
		_, acts, _ = x.connect(t, stations[w.r.Intn(len(stations))], digis...)
	case k < 5:
		acts, _ = x.disconnect(t, id)
	case k < 12:
		acts, _ = x.send(t, id, w.r.Intn(258)-1, strings.Repeat("m", w.r.Intn(100)))
	case k < 14:
		acts, _ = x.hold(t, id, w.r.Intn(2) == 0)
	case k < 15:
		x.allows(t, w.can())
	case k < 20:
		acts = x.tick(t)
	case k < 22:
		w.strange(t, x)
		return
	default:
		w.come(t)
		return
	}
	w.told(t, x, acts, wides)
}

// strange is a frame that none of them told.
func (w *network) strange(t *testing.T, x twin) {
	t.Helper()
	f := frame.Frame{Path: via(stations[w.r.Intn(len(stations))], x.m.own, w.r.Intn(2) == 0), Ctl: ctl.Ctl{Kind: ctl.I + w.r.Intn(ctl.TEST), Pf: w.r.Intn(2) == 0}, Info: ""}
	if f.Kind == ctl.XID && w.r.Intn(3) > 0 {
		f.Info, _ = xid.Put(w.can())
	}
	if f.Kind <= ctl.SREJ {
		f.Nr = w.r.Intn(8)
	}
	wides := x.wides()
	w.told(t, x, x.take(t, bytesOf(t, f, w.r.Intn(2) == 0)), wides)
}

// P21.1: stations that call, send, hold and close as they like, while frames are lost, spoilt, come twice, or are strange.
func TestP211Random(t *testing.T) {
	seen := map[string]int{}
	for seed := range int64(30) {
		w := newNetwork(t, seed)
		for range 1500 {
			w.step(t)
		}
		for k, v := range w.seen {
			seen[k] += v
		}
	}
	for _, k := range []string{"refused", "full", "wide", "event 1", "event 2", "event 3", "event 4", "event 5", "event 6"} {
		if seen[k] < 10 {
			t.Errorf("%s was seen %d times", k, seen[k])
		}
	}
}

// P21.1: messages between tables come in order, each once, on each of the links.
func TestP211Messages(t *testing.T) {
	a := newTwin(t, c("A"), able)
	var others []twin
	for _, s := range []string{"B", "C", "D", "E"} {
		can := xid.Usual()
		if s > "C" {
			can = able
		}
		others = append(others, newTwin(t, c(s), can))
	}
	all := append([]twin{a}, others...)
	came := map[string]string{}
	var run func(x twin, acts []Act, wides map[int]bool)
	run = func(x twin, acts []Act, wides map[int]bool) {
		for _, act := range acts {
			for _, e := range act.Out.Events {
				if e.Kind == link.Data {
					came[x.m.own.Base+"<"+act.Peer.Base] += e.Text
				}
			}
			for _, f := range act.Out.Frames {
				s, e := frame.Encode(f, x.d.Wide(act.Id))
				if e != api.OK {
					s = bytesOf(t, f, wides[act.Id])
				}
				for _, y := range all {
					before := y.wides()
					run(y, y.take(t, s), before)
				}
			}
		}
	}
	for i, y := range others {
		if i%2 == 0 {
			_, acts, _ := a.connect(t, y.m.own)
			run(a, acts, nil)
		} else {
			_, acts, _ := y.connect(t, c("A"))
			run(y, acts, nil)
		}
	}
	want := ""
	for i := range 50 {
		text := fmt.Sprint(i, ";")
		want += text
		for _, y := range others {
			acts, _ := a.send(t, a.d.Find(y.m.own), 240, text)
			run(a, acts, nil)
			acts, _ = y.send(t, y.m.last, 240, text)
			run(y, acts, nil)
		}
	}
	for i, y := range others {
		peer := y.m.own.Base
		if came["A<"+peer] != want || came[peer+"<A"] != want {
			t.Errorf("%s: %q, %q", peer, came["A<"+peer], came[peer+"<A"])
		}
		if wide := a.d.Wide(a.d.Find(y.m.own)); wide != (i >= 2) || a.d.Waits(a.d.Find(y.m.own)) != 0 {
			t.Errorf("%s: wide %v, %d wait", peer, wide, a.d.Waits(a.d.Find(y.m.own)))
		}
	}
}
