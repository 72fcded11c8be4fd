package link

import (
	"strings"

	"squelch/ctl"
	"squelch/frame"
	"squelch/xid"
)

// tell tells a frame along the path.
func (l *Link) tell(o *Out, command bool, c ctl.Ctl, pid int, info string) {
	o.Frames = append(o.Frames, frame.Frame{Path: along(l.way, command), Ctl: c, Pid: pid, Info: info})
}

// tellPlain tells a frame without numbers: a XID has what the link can do.
func (l *Link) tellPlain(o *Out, command bool, kind int, pf bool) {
	info := ""
	if kind == ctl.XID {
		info, _ = xid.Put(l.can)
	}
	l.tell(o, command, ctl.Ctl{Kind: kind, Pf: pf}, 0, info)
}

// tellAsks tells what is told till an answer comes.
func (l *Link) tellAsks(o *Out) { l.tellPlain(o, true, l.asks, true) }

// answer tells a response to f.
func (l *Link) answer(o *Out, f frame.Frame, kind int) { l.tellPlain(o, false, kind, f.Pf) }

// tellNumber tells an RR, RNR, REJ or SREJ.
func (l *Link) tellNumber(o *Out, command bool, kind, nr int, pf bool) {
	l.tell(o, command, ctl.Ctl{Kind: kind, Nr: nr, Pf: pf}, 0, "")
}

// tellReady tells what came, and whether more may come.
func (l *Link) tellReady(o *Out, command, pf bool) {
	kind := ctl.RR
	if l.held {
		kind = ctl.RNR
	}
	l.tellNumber(o, command, kind, l.ins.Vr(), pf)
}

// tellNew tells as many new I frames as may go.
func (l *Link) tellNew(o *Out) {
	for ns, ok := l.next(); ok; ns, ok = l.next() {
		l.tellInfo(o, ns)
	}
}

// tellInfo tells the I frame with an open number.
func (l *Link) tellInfo(o *Out, ns int) {
	p := l.open[ns]
	l.stats.Told++
	l.tell(o, true, ctl.Ctl{Kind: ctl.I, Nr: l.ins.Vr(), Ns: ns}, p.Pid, strings.Clone(p.Info)) // the piece may have to be told again
}

// tellAgain tells it once more.
func (l *Link) tellAgain(o *Out, ns int) {
	l.stats.Again++
	l.tellInfo(o, ns)
}

// tellOpen tells all that is open again: T1 runs from the beginning for it.
func (l *Link) tellOpen(o *Out) {
	l.t1 = 0
	for _, ns := range l.outs.Open() {
		l.tellAgain(o, ns)
	}
}

// keepTime lets the timers run that are to run while the link is up.
func (l *Link) keepTime() { l.run(l.awaits()) }
