package link

import (
	"fmt"
	"slices"
	"testing"

	"squelch/api"
	"squelch/ctl"
	"squelch/frame"
	"squelch/path"
	"squelch/seg"
	"squelch/xid"
)

// model is a link in the document's words: its numbers don't go round, and nothing is forgotten while it is up.
type model struct {
	from, to    api.Call
	digis       []api.Call
	can         xid.Params
	agreed      *xid.Params
	holds       xid.Params
	state, kind int
	wasUp, held bool

	pieces        []seg.Piece // all that were put since it came up
	ends          []int       // of each message, how many pieces there were when it was put
	va, vs        int
	busy, polling bool

	vr       int
	kept     map[int]seg.Piece
	asked    []int
	rejected bool
	gatherer *seg.Gatherer

	t1, srt           int // the smoother's
	left, third       int // ticks of T1, and of T3
	waited, times     int
	stats             Stats
	out               Out
	mostOpen, highest int // what the tests of limits ask for
}

func newModel(p path.Path, can xid.Params) *model {
	m := &model{from: p.From, to: p.To, can: can}
	for _, d := range p.Digis {
		m.digis = append(m.digis, d.Call)
	}
	return m
}

// params are those of a link as it is now.
func (m *model) params() xid.Params {
	if m.state == IsUp {
		return m.holds
	}
	return m.can
}

func (m *model) wide() bool { return m.state == IsUp && m.holds.Wide }

func (m *model) modulus() int {
	if m.holds.Wide {
		return 128
	}
	return 8
}

func (m *model) way(command bool) path.Path {
	p := path.Path{To: m.to, From: m.from, ToMark: command, FromMark: !command}
	for _, d := range m.digis {
		p.Digis = append(p.Digis, path.Digi{Call: d})
	}
	return p
}

func (m *model) tell(command bool, c ctl.Ctl, p seg.Piece) {
	m.out.Frames = append(m.out.Frames, frame.Frame{Path: m.way(command), Ctl: c, Pid: p.Pid, Info: p.Info})
}

func (m *model) plain(command bool, kind int, pf bool) {
	var p seg.Piece
	if kind == ctl.XID {
		p.Info, _ = xid.Put(m.can)
	}
	m.tell(command, ctl.Ctl{Kind: kind, Pf: pf}, p)
}

func (m *model) sup(command bool, kind, nr int, pf bool) {
	m.tell(command, ctl.Ctl{Kind: kind, Nr: nr % m.modulus(), Pf: pf}, seg.Piece{})
}

// ready is RR, or RNR if it is held.
func (m *model) ready(command, pf bool) {
	kind := ctl.RR
	if m.held {
		kind = ctl.RNR
	}
	m.sup(command, kind, m.vr, pf)
}

func (m *model) event(kind int) { m.out.Events = append(m.out.Events, Event{Kind: kind}) }

// took and none are layer 12's.
func (m *model) took(t int) {
	m.srt = m.srt - m.srt/8 + min(t, 255)
	m.t1 = min(max(m.srt/4+2, 4), 255)
}

func (m *model) none() { m.t1 = min(m.t1*2, 255) }

func (m *model) smoother(t1 int) { m.t1, m.srt = t1, 4*t1 }

// begin lets T1 run.
func (m *model) begin() { m.left, m.waited, m.third = m.t1, 0, 0 }

// forget drops what waits, and what came in part.
func (m *model) forget() {
	m.pieces, m.ends, m.va, m.vs, m.busy, m.polling = nil, nil, 0, 0, false, false
	m.vr, m.kept, m.asked, m.rejected, m.gatherer = 0, map[int]seg.Piece{}, nil, false, seg.New()
}

// wait lets it be asking, calling or closing.
func (m *model) wait(state, kind int) {
	m.forget()
	m.state, m.kind, m.times = state, kind, 0
	m.begin()
	m.plain(true, kind, true)
}

func (m *model) up(wide bool) {
	if m.state == IsUp || m.wasUp {
		m.event(Again)
	} else {
		m.event(Up)
	}
	m.forget()
	m.state, m.wasUp = IsUp, false
	m.holds = m.can
	if m.agreed != nil {
		m.holds = *m.agreed
	}
	if m.holds.Wide = wide; !wide {
		m.holds.Srej = false
	}
	most := 7
	if wide {
		most = 63
	}
	if m.holds.Srej {
		most = 32
	}
	m.holds.K = min(m.holds.K, most)
	m.smoother(m.holds.T1)
	m.left, m.times, m.third = 0, 0, 300
	m.out.Fresh = true
}

func (m *model) down(kind int) {
	m.forget()
	m.state, m.wasUp, m.left, m.third, m.times = IsDown, false, 0, 0, 0
	if kind > 0 {
		m.event(kind)
	}
}

// done is what is told, once.
func (m *model) done() Out {
	o := m.out
	m.out = Out{}
	return o
}

func (m *model) connect() (Out, api.Errno) {
	if m.state != IsDown {
		return Out{}, api.ErrThere
	}
	m.out.Fresh = true
	m.smoother(m.can.T1)
	if m.can.Wide {
		m.wait(IsAsking, ctl.XID)
	} else {
		m.wait(IsCalling, ctl.SABM)
	}
	return m.done(), api.OK
}

func (m *model) disconnect() (Out, api.Errno) {
	if m.state == IsDown || m.state == IsClosing {
		return Out{}, api.ErrDown
	}
	m.out.Fresh = true
	if m.state == IsUp {
		m.wait(IsClosing, ctl.DISC)
	} else {
		m.down(Gone)
	}
	return m.done(), api.OK
}

// unsent is how many messages have pieces that were never told.
func (m *model) unsent() int {
	n := 0
	for _, end := range m.ends {
		if end > m.vs {
			n++
		}
	}
	return n
}

func (m *model) waits() int {
	if m.vs > m.va {
		return m.unsent() + 1
	}
	return m.unsent()
}

func (m *model) send(pid int, text string) (Out, api.Errno) {
	if m.state != IsUp {
		return Out{}, api.ErrDown
	}
	pieces, e := seg.Split(pid, text, m.holds.N1)
	if e != api.OK {
		return Out{}, e
	}
	if m.unsent() >= 8 {
		return Out{}, api.ErrFull
	}
	m.pieces = append(m.pieces, pieces...)
	m.ends = append(m.ends, len(m.pieces))
	m.fill()
	m.time()
	return m.done(), api.OK
}

// fill tells new I frames.
func (m *model) fill() {
	for m.vs < len(m.pieces) && m.vs-m.va < m.holds.K && !m.busy && !m.polling {
		m.vs++
		m.info(m.vs - 1)
	}
	m.mostOpen = max(m.mostOpen, m.vs-m.va)
	m.highest = max(m.highest, m.vs)
}

func (m *model) info(i int) {
	m.stats.Told++
	m.tell(true, ctl.Ctl{Kind: ctl.I, Nr: m.vr % m.modulus(), Ns: i % m.modulus()}, m.pieces[i])
}

func (m *model) again(i int) {
	m.stats.Again++
	m.info(i)
}

// time lets the one timer run that is to.
func (m *model) time() {
	awaits := m.polling || m.vs > m.va
	if awaits && m.left == 0 {
		m.begin()
	}
	if !awaits {
		m.left = 0
		if m.third == 0 {
			m.third = 300
		}
	}
}

func (m *model) hold(on bool) Out {
	if m.held != on {
		m.held = on
		if m.state == IsUp {
			m.ready(false, false)
		}
	}
	return m.done()
}

func (m *model) poll() {
	m.polling = true
	m.stats.Polls++
	m.begin()
	m.ready(true, true)
}

func (m *model) tick() Out {
	if m.third > 0 {
		m.third--
		if m.third == 0 {
			m.poll()
		}
		return m.done()
	}
	if m.left == 0 {
		return m.done()
	}
	m.left--
	m.waited++
	if m.left > 0 {
		return m.done()
	}
	m.times++
	if m.times > m.params().N2 {
		switch m.state {
		case IsAsking:
			m.wait(IsCalling, ctl.SABM)
		case IsClosing:
			m.down(Gone)
		default:
			m.down(Failed)
		}
		return m.done()
	}
	m.none()
	if m.state == IsUp {
		m.poll()
	} else {
		m.begin()
		m.plain(true, m.kind, true)
	}
	return m.done()
}

func (m *model) take(f frame.Frame) Out {
	if !frame.Right(f, m.wide()) {
		return Out{}
	}
	calls := m.state == IsCalling
	switch f.Kind {
	case ctl.XID:
		m.takeXid(f)
	case ctl.SABM, ctl.SABME:
		m.takeSabm(f, f.Kind == ctl.SABME)
	case ctl.DISC:
		kind, event := ctl.DM, 0
		if m.state == IsUp || m.state == IsClosing {
			kind = ctl.UA
		}
		if m.state == IsUp || calls || m.state == IsAsking {
			event = Gone
		}
		m.plain(false, kind, f.Pf)
		m.down(event)
	case ctl.UA:
		if calls {
			m.up(m.kind == ctl.SABME)
		} else if m.state == IsClosing {
			m.out.Fresh = true
			m.down(Gone)
		}
	case ctl.DM:
		m.out.Fresh = m.state != IsDown
		if m.state == IsAsking || calls && m.kind == ctl.SABME {
			m.wait(IsCalling, ctl.SABM)
		} else if calls {
			m.down(Refused)
		} else if m.state != IsDown {
			m.down(Gone)
		}
	case ctl.FRMR:
		if m.state == IsAsking || calls && m.kind == ctl.SABME {
			m.wait(IsCalling, ctl.SABM)
		} else if m.state == IsUp {
			m.wasUp = true
			m.wait(IsCalling, map[bool]int{false: ctl.SABM, true: ctl.SABME}[m.holds.Wide])
		}
	case ctl.I, ctl.RR, ctl.RNR, ctl.REJ, ctl.SREJ:
		if m.state == IsUp {
			m.takeNumbers(f)
		}
	}
	return m.done()
}

func (m *model) takeXid(f frame.Frame) {
	p, e := xid.Get(f.Info)
	if f.ToMark && !f.FromMark {
		if e != api.OK || !m.can.Wide {
			m.plain(false, ctl.DM, f.Pf)
			return
		}
		both, _ := xid.Agree(m.can, p)
		m.agreed = &both
		m.plain(false, ctl.XID, f.Pf)
	}
	if f.FromMark && !f.ToMark && m.state == IsAsking {
		m.agreed = nil
		kind := ctl.SABM
		if e == api.OK {
			both, _ := xid.Agree(m.can, p)
			m.agreed = &both
			if both.Wide {
				kind = ctl.SABME
			}
		}
		m.wait(IsCalling, kind)
	}
}

func (m *model) takeSabm(f frame.Frame, wide bool) {
	m.from, m.to, m.digis = f.To, f.From, nil
	for _, d := range f.Digis {
		m.digis = slices.Insert(m.digis, 0, d.Call)
	}
	calls, callsWide := m.state == IsCalling, m.state == IsCalling && m.kind == ctl.SABME
	if m.state == IsClosing || wide && !m.can.Wide {
		m.plain(false, ctl.DM, f.Pf)
		return
	}
	if calls && wide && !callsWide {
		return
	}
	m.plain(false, ctl.UA, f.Pf)
	if !calls || wide != callsWide {
		m.up(wide)
	}
}

// acks takes a number that acknowledges: false, if there is none such.
func (m *model) acks(nr int) bool {
	for i := m.va; i <= m.vs; i++ {
		if i%m.modulus() == nr {
			if i > m.va {
				m.answered()
			}
			m.va = i
			return true
		}
	}
	return false
}

func (m *model) answered() {
	if m.times == 0 && m.left > 0 {
		m.took(m.waited)
	}
	m.left, m.times = 0, 0
}

func (m *model) takeNumbers(f frame.Frame) {
	if f.Kind != ctl.SREJ {
		if !m.acks(f.Nr) {
			return
		}
		m.busy = f.Kind == ctl.RNR
	}
	came := f.Kind == ctl.I && !m.held && m.takeInfo(f)
	if f.Kind == ctl.I && m.held {
		m.stats.Dropped++
	}
	told := m.stats.Told
	if f.FromMark && !f.ToMark && f.Pf && m.polling {
		m.polling = false
		m.answered()
		for i := m.va; i < m.vs; i++ {
			m.again(i)
		}
	} else if f.Kind == ctl.REJ {
		m.left = 0
		for i := m.va; i < m.vs; i++ {
			m.again(i)
		}
	} else if f.Kind == ctl.SREJ {
		for i := m.va; i < m.vs; i++ {
			if i%m.modulus() == f.Nr {
				m.again(i)
			}
		}
	}
	final := f.ToMark && !f.FromMark && f.Pf
	if final || f.Kind == ctl.I && m.held {
		m.ready(false, final)
	}
	m.fill()
	if came && !final && m.stats.Told == told {
		m.ready(false, false)
	}
	m.time()
}

// takeInfo takes an I: false, if it is dropped.
func (m *model) takeInfo(f frame.Frame) bool {
	ahead := 1
	if m.holds.Wide {
		ahead = 64
	}
	for i := m.vr; i < m.vr+ahead; i++ {
		if _, there := m.kept[i]; i%m.modulus() == f.Ns && !there {
			m.kept[i] = seg.Piece{Pid: f.Pid, Info: f.Info}
			m.inOrder()
			m.ask()
			return true
		}
	}
	m.stats.Dropped++
	if !m.holds.Wide && !m.rejected {
		m.rejected = true
		m.sup(false, ctl.REJ, m.vr, false)
	}
	return false
}

func (m *model) inOrder() {
	for p, ok := m.kept[m.vr]; ok; p, ok = m.kept[m.vr] {
		m.stats.Came++
		m.rejected = false
		if message, whole, _ := m.gatherer.Take(p); whole {
			m.out.Events = append(m.out.Events, Event{Kind: Data, Pid: message.Pid, Text: message.Info})
		}
		m.vr++
	}
}

// ask asks for what is missing.
func (m *model) ask() {
	last := m.vr - 1
	for i := range m.kept {
		last = max(last, i)
	}
	for i := m.vr; i < last; i++ {
		if _, there := m.kept[i]; there {
			continue
		}
		if m.holds.Srej && !slices.Contains(m.asked, i) {
			m.asked = append(m.asked, i)
			m.sup(false, ctl.SREJ, i, false)
		}
		if !m.holds.Srej && !m.rejected {
			m.rejected = true
			m.sup(false, ctl.REJ, m.vr, false)
		}
	}
}

// twin is a link, and the model of it.
type twin struct {
	l *Link
	m *model
}

func newTwin(t *testing.T, p path.Path, can xid.Params) twin {
	t.Helper()
	l, e := New(p, can)
	if l == nil || e != api.OK {
		t.Fatalf("New(%+v, %+v): %d", p, can, e)
	}
	w := twin{l, newModel(p, can)}
	w.same(t, "New", Out{}, Out{}, 0, 0)
	return w
}

// same says whether the link told what the model told, and is as it is.
func (w twin) same(t *testing.T, what string, got, want Out, e, f api.Errno) {
	t.Helper()
	if !alike(got, want) || e != f {
		t.Fatalf("%s:\n%s %d; want\n%s %d", what, show(got), e, show(want), f)
	}
	for _, f := range got.Frames {
		if !frame.Right(f, w.m.wide()) {
			t.Fatalf("%s: %s isn't right", what, show(got))
		}
	}
	l, m := w.l, w.m
	is := state{l.State(), l.Waits(), l.Wide(), l.Busy(), l.Params(), l.Stats()}
	if is2 := (state{m.state, m.waits(), m.wide(), m.busy, m.params(), m.stats}); is != is2 || !sameWay(l.Path(), m.way(true)) {
		t.Fatalf("%s:\nis %+v %+v; want\n%+v %+v", what, is, l.Path(), is2, m.way(true))
	}
}

// state is what a link tells of itself.
type state struct {
	state, waits int
	wide, busy   bool
	params       xid.Params
	stats        Stats
}

func alike(a, b Out) bool {
	if a.Fresh != b.Fresh || len(a.Frames) != len(b.Frames) || !slices.Equal(a.Events, b.Events) {
		return false
	}
	for i, f := range a.Frames {
		if g := b.Frames[i]; f.Ctl != g.Ctl || f.Pid != g.Pid || f.Info != g.Info || !sameWay(f.Path, g.Path) {
			return false
		}
	}
	return true
}

func sameWay(p, q path.Path) bool {
	return p.To == q.To && p.From == q.From && p.ToMark == q.ToMark && p.FromMark == q.FromMark && slices.Equal(p.Digis, q.Digis)
}

// show is what is told, in words.
func show(o Out) string {
	s := fmt.Sprint(o.Fresh)
	for _, f := range o.Frames {
		s += fmt.Sprintf(" [%s %v%v %d %q]", frame.Text(f), f.ToMark, f.FromMark, f.Pid, f.Info)
	}
	for _, e := range o.Events {
		s += fmt.Sprintf(" {%d %d %q}", e.Kind, e.Pid, e.Text)
	}
	return s
}

func (w twin) connect(t *testing.T) Out {
	t.Helper()
	got, e := w.l.Connect()
	want, f := w.m.connect()
	w.same(t, "Connect", got, want, e, f)
	return got
}

func (w twin) disconnect(t *testing.T) Out {
	t.Helper()
	got, e := w.l.Disconnect()
	want, f := w.m.disconnect()
	w.same(t, "Disconnect", got, want, e, f)
	return got
}

func (w twin) send(t *testing.T, pid int, text string) Out {
	t.Helper()
	got, e := w.l.Send(pid, text)
	want, f := w.m.send(pid, text)
	w.same(t, "Send", got, want, e, f)
	return got
}

func (w twin) hold(t *testing.T, on bool) Out {
	t.Helper()
	got, want := w.l.Hold(on), w.m.hold(on)
	w.same(t, "Hold", got, want, 0, 0)
	return got
}

func (w twin) tick(t *testing.T) Out {
	t.Helper()
	got, want := w.l.Tick(), w.m.tick()
	w.same(t, "Tick", got, want, 0, 0)
	return got
}

func (w twin) take(t *testing.T, f frame.Frame) Out {
	t.Helper()
	got, want := w.l.Take(f), w.m.take(f)
	w.same(t, "Take", got, want, 0, 0)
	return got
}
