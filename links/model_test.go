package links

import (
	"fmt"
	"slices"
	"strings"
	"testing"

	"squelch/api"
	"squelch/ctl"
	"squelch/frame"
	"squelch/link"
	"squelch/path"
	"squelch/xid"
)

func c(base string) api.Call { return api.Call{Base: base} }

func n(base string, ssid int) api.Call { return api.Call{Base: base, Ssid: ssid} }

// words are what is told, whole: each act's number and peer, what is void, each frame with its marks and bytes, each event.
func words(acts []Act) string {
	var l []string
	for _, a := range acts {
		s := fmt.Sprintf("%d %s-%d:", a.Id, a.Peer.Base, a.Peer.Ssid)
		if a.Out.Fresh {
			s += " fresh"
		}
		for _, f := range a.Out.Frames {
			s += fmt.Sprintf(" [%s %v%v %d %q]", frame.Text(f), f.ToMark, f.FromMark, f.Pid, f.Info)
		}
		for _, e := range a.Out.Events {
			s += fmt.Sprintf(" {%d %d %q}", e.Kind, e.Pid, e.Text)
		}
		l = append(l, s)
	}
	return strings.Join(l, "\n")
}

// mine is a link of a model.
type mine struct {
	id   int
	peer api.Call
	l    *link.Link
}

// model is a table in the document's words, of real links.
type model struct {
	own  api.Call
	can  xid.Params
	all  []mine
	last int
}

func (m *model) find(peer api.Call) int {
	for i, x := range m.all {
		if x.peer == peer {
			return i
		}
	}
	return -1
}

func (m *model) numbered(id int) int {
	for i, x := range m.all {
		if x.id == id {
			return i
		}
	}
	return -1
}

// told is what the link at i told, and forgets it if it is down.
func (m *model) told(i int, o link.Out) []Act {
	x := m.all[i]
	if x.l.State() == link.IsDown {
		m.all = append(slices.Clone(m.all[:i]), m.all[i+1:]...)
	}
	if words([]Act{{Out: o}}) == words([]Act{{}}) {
		return nil
	}
	return []Act{{x.id, x.peer, o}}
}

func (m *model) add(peer api.Call, digis []api.Call) int {
	p, e := path.Via(m.own, peer, true, digis...)
	l, f := link.New(p, m.can)
	if e != api.OK || f != api.OK {
		panic("a model's link isn't right")
	}
	m.last++
	m.all = append(m.all, mine{m.last, peer, l})
	return len(m.all) - 1
}

func rightCall(c api.Call) bool {
	return c.Base != "" && len(c.Base) <= api.MaxBase && strings.Trim(c.Base, "ABCDEFGHIJKLMNOPQRSTUVWXYZ0123456789") == "" && c.Ssid >= 0 && c.Ssid <= api.MaxSsid
}

func (m *model) connect(peer api.Call, digis []api.Call) (int, []Act, api.Errno) {
	switch {
	case !rightCall(peer), peer == m.own:
		return 0, nil, api.ErrCall
	case len(digis) > api.MaxDigis, slices.ContainsFunc(digis, func(d api.Call) bool { return !rightCall(d) }):
		return 0, nil, api.ErrPath
	case m.find(peer) >= 0:
		return 0, nil, api.ErrThere
	case len(m.all) == 4:
		return 0, nil, api.ErrFull
	}
	i := m.add(peer, digis)
	o, _ := m.all[i].l.Connect()
	return m.last, m.told(i, o), api.OK
}

// do lets the link with a number do something.
func (m *model) do(id int, f func(*link.Link) (link.Out, api.Errno)) ([]Act, api.Errno) {
	i := m.numbered(id)
	if i < 0 {
		return nil, api.ErrNone
	}
	o, e := f(m.all[i].l)
	if e != api.OK {
		return nil, e
	}
	return m.told(i, o), api.OK
}

// makes says whether a kind makes a link.
func (m *model) makes(kind int) bool {
	return kind == ctl.SABM || m.can.Wide && (kind == ctl.SABME || kind == ctl.XID)
}

func (m *model) take(s string) []Act {
	narrow, e := frame.Decode(s, false)
	wide, we := frame.Decode(s, true)
	f := narrow
	if e != api.OK {
		f = wide
	}
	if e != api.OK && we != api.OK || f.To != m.own || f.From == m.own {
		return nil
	}
	var digis []api.Call
	for _, d := range f.Digis {
		if !d.Has {
			return nil
		}
		digis = append([]api.Call{d.Call}, digis...)
	}
	i := m.find(f.From)
	if i >= 0 && m.all[i].l.Wide() && we == api.OK {
		return m.told(i, m.all[i].l.Take(wide))
	}
	if e != api.OK {
		return nil
	}
	if i < 0 && m.makes(f.Kind) && len(m.all) < 4 {
		i = m.add(f.From, digis)
	}
	if i >= 0 {
		return m.told(i, m.all[i].l.Take(narrow))
	}
	if !m.makes(f.Kind) && f.Kind != ctl.SABME && f.Kind != ctl.XID && f.Kind != ctl.DISC {
		return nil
	}
	dm := frame.Frame{Ctl: ctl.Ctl{Kind: ctl.DM, Pf: f.Pf}}
	dm.Path, _ = path.Via(m.own, f.From, false, digis...)
	return []Act{{0, f.From, link.Out{Frames: []frame.Frame{dm}}}}
}

func (m *model) tick() []Act {
	var l []Act
	for _, x := range slices.Clone(m.all) {
		o := x.l.Tick()
		l = append(l, m.told(m.numbered(x.id), o)...)
	}
	return l
}

// twin is a table, and the model of it.
type twin struct {
	d *Table
	m *model
}

func newTwin(t *testing.T, own api.Call, can xid.Params) twin {
	t.Helper()
	d, e := New(own, can)
	if d == nil || e != api.OK {
		t.Fatalf("New(%v, %v): %v, %v", own, can, d, e)
	}
	w := twin{d, &model{own: own, can: can}}
	w.same(t)
	return w
}

// near are numbers at which there is a link, or was one, or will be one, or never is one.
func (w twin) near() []int {
	l := []int{-1 << 63, -1, 0, 1<<32 + 1, 1<<63 - 1}
	for id := max(1, w.m.last-8); id <= w.m.last+1; id++ {
		l = append(l, id)
	}
	return l
}

// some are calls to which there may be a link.
var some = []api.Call{c("A"), c("B"), c("C"), c("D"), c("E"), c("F"), n("A", 1), n("B", 15), n("B", 16), n("B", -1), c("b"), c(""), c("AB")}

// same holds what is answered about the links against what the model says.
func (w twin) same(t *testing.T) {
	t.Helper()
	var ids []int
	for _, x := range w.m.all {
		ids = append(ids, x.id)
	}
	if all := w.d.All(); !slices.Equal(all, ids) {
		t.Fatalf("All: %v; want %v", all, ids)
	}
	if len(ids) > 4 {
		t.Fatalf("%d links", len(ids))
	}
	for _, peer := range some {
		want := 0
		if i := w.m.find(peer); i >= 0 {
			want = w.m.all[i].id
		}
		if id := w.d.Find(peer); id != want {
			t.Fatalf("Find(%v): %d; want %d", peer, id, want)
		}
	}
	for _, id := range w.near() {
		w.sameLink(t, id)
	}
}

func (w twin) sameLink(t *testing.T, id int) {
	t.Helper()
	var x mine
	i := w.m.numbered(id)
	if i >= 0 {
		x = w.m.all[i]
	}
	if peer, ok := w.d.Peer(id); peer != x.peer || ok != (i >= 0) {
		t.Fatalf("Peer(%d): %v, %v; want %v, %v", id, peer, ok, x.peer, i >= 0)
	}
	if s := w.d.State(id); s != x.l.State() {
		t.Fatalf("State(%d): %d; want %d", id, s, x.l.State())
	}
	if wide := w.d.Wide(id); wide != x.l.Wide() {
		t.Fatalf("Wide(%d): %v; want %v", id, wide, x.l.Wide())
	}
	if waits := w.d.Waits(id); waits != x.l.Waits() {
		t.Fatalf("Waits(%d): %d; want %d", id, waits, x.l.Waits())
	}
}

// told holds what is told against what the model tells; each frame is right, and goes to the peer of its link.
func (w twin) told(t *testing.T, what string, acts, want []Act, wides map[int]bool) []Act {
	t.Helper()
	if a, b := words(acts), words(want); a != b {
		t.Fatalf("%s told\n%s\nwant\n%s", what, a, b)
	}
	for _, a := range acts {
		for _, f := range a.Out.Frames {
			if !frame.Right(f, wides[a.Id]) && !frame.Right(f, w.d.Wide(a.Id)) {
				t.Fatalf("%s: %s isn't right", what, frame.Text(f))
			}
			if f.To != a.Peer || f.From != w.m.own || frame.Done(f) != (len(f.Digis) == 0) {
				t.Fatalf("%s: %s doesn't go to %v", what, frame.Text(f), a.Peer)
			}
		}
	}
	w.same(t)
	return acts
}

// wides are the links that are wide.
func (w twin) wides() map[int]bool {
	m := map[int]bool{}
	for _, x := range w.m.all {
		m[x.id] = x.l.Wide()
	}
	return m
}

func (w twin) connect(t *testing.T, peer api.Call, digis ...api.Call) (int, []Act, api.Errno) {
	t.Helper()
	wides := w.wides()
	id, acts, e := w.d.Connect(peer, digis...)
	wantId, want, wantE := w.m.connect(peer, digis)
	if id != wantId || e != wantE || e != api.OK && acts != nil {
		t.Fatalf("Connect(%v, %v): %d, %v, %d; want %d, %d", peer, digis, id, acts, e, wantId, wantE)
	}
	return id, w.told(t, "Connect", acts, want, wides), e
}

// answered holds what a call about one link answered against what the model answers.
func (w twin) answered(t *testing.T, what string, acts []Act, e api.Errno, want []Act, wantE api.Errno, wides map[int]bool) ([]Act, api.Errno) {
	t.Helper()
	if e != wantE || e != api.OK && acts != nil {
		t.Fatalf("%s: %v, %d; want %v, %d", what, acts, e, want, wantE)
	}
	return w.told(t, what, acts, want, wides), e
}

func (w twin) disconnect(t *testing.T, id int) ([]Act, api.Errno) {
	t.Helper()
	wides := w.wides()
	acts, e := w.d.Disconnect(id)
	want, wantE := w.m.do(id, func(l *link.Link) (link.Out, api.Errno) { return l.Disconnect() })
	return w.answered(t, fmt.Sprintf("Disconnect(%d)", id), acts, e, want, wantE, wides)
}

func (w twin) send(t *testing.T, id, pid int, text string) ([]Act, api.Errno) {
	t.Helper()
	wides := w.wides()
	acts, e := w.d.Send(id, pid, text)
	want, wantE := w.m.do(id, func(l *link.Link) (link.Out, api.Errno) { return l.Send(pid, text) })
	return w.answered(t, fmt.Sprintf("Send(%d, %d, %q)", id, pid, text), acts, e, want, wantE, wides)
}

func (w twin) hold(t *testing.T, id int, on bool) ([]Act, api.Errno) {
	t.Helper()
	wides := w.wides()
	acts, e := w.d.Hold(id, on)
	want, wantE := w.m.do(id, func(l *link.Link) (link.Out, api.Errno) { return l.Hold(on), api.OK })
	return w.answered(t, fmt.Sprintf("Hold(%d, %v)", id, on), acts, e, want, wantE, wides)
}

func (w twin) take(t *testing.T, s string) []Act {
	t.Helper()
	wides := w.wides()
	acts := w.d.Take(s)
	want := w.m.take(s)
	return w.told(t, fmt.Sprintf("Take(%q)", s), acts, want, wides)
}

func (w twin) tick(t *testing.T) []Act {
	t.Helper()
	wides := w.wides()
	acts := w.d.Tick()
	return w.told(t, "Tick", acts, w.m.tick(), wides)
}

func (w twin) allows(t *testing.T, p xid.Params) api.Errno {
	t.Helper()
	e := w.d.Can(p)
	want := api.OK
	if xid.Right(p) {
		w.m.can = p
	} else {
		want = api.ErrArg
	}
	if e != want {
		t.Fatalf("Can(%v): %d; want %d", p, e, want)
	}
	w.same(t)
	return e
}
