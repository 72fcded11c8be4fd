package link

import (
	"slices"
	"strings"

	"squelch/api"
	"squelch/ctl"
	"squelch/frame"
	"squelch/path"
	"squelch/seg"
	"squelch/xid"
)

// Take takes a frame.
func (l *Link) Take(f frame.Frame) Out {
	var o Out
	if l == nil || !frame.Right(f, l.Wide()) {
		return o
	}
	switch f.Kind {
	case ctl.XID:
		l.takeXid(&o, f)
	case ctl.SABM, ctl.SABME:
		l.takeCall(&o, f)
	case ctl.DISC:
		l.takeDisc(&o, f)
	case ctl.UA:
		l.takeUa(&o)
	case ctl.DM:
		l.takeDm(&o)
	case ctl.FRMR:
		l.takeFrmr(&o)
	case ctl.I, ctl.RR, ctl.RNR, ctl.REJ, ctl.SREJ:
		if l.state == IsUp {
			l.takeNumbered(&o, f)
		}
	}
	return o
}

// takeXid takes what the other side can do.
func (l *Link) takeXid(o *Out, f frame.Frame) {
	theirs, e := xid.Get(f.Info)
	switch {
	case path.Command(f.Path) && (!l.can.Wide || e != api.OK):
		l.answer(o, f, ctl.DM)
	case path.Command(f.Path):
		l.agreed, _ = xid.Agree(l.can, theirs)
		l.answer(o, f, ctl.XID)
	case path.Response(f.Path) && l.state == IsAsking:
		l.agreed, _ = xid.Agree(l.can, theirs) // nothing, if theirs are none
		kind := ctl.SABM
		if l.agreed.Wide {
			kind = ctl.SABME
		}
		l.await(o, IsCalling, kind)
	}
}

// takeCall takes a SABM, or a SABME.
func (l *Link) takeCall(o *Out, f frame.Frame) {
	l.way = along(path.Back(f.Path), true)
	wide, calling := f.Kind == ctl.SABME, l.state == IsCalling
	switch {
	case wide && !l.can.Wide, l.state == IsClosing:
		l.answer(o, f, ctl.DM)
	case calling && f.Kind == l.asks:
		l.answer(o, f, ctl.UA)
	case calling && wide:
		// the SABM that was told may be on its way still: the other side comes up by that
	default:
		l.answer(o, f, ctl.UA)
		l.rise(o, wide)
	}
}

// takeDisc takes a DISC.
func (l *Link) takeDisc(o *Out, f frame.Frame) {
	switch l.state {
	case IsUp:
		l.answer(o, f, ctl.UA)
		l.fall(o, Gone)
	case IsClosing:
		l.answer(o, f, ctl.UA)
		l.fall(o, 0)
	case IsAsking, IsCalling:
		l.answer(o, f, ctl.DM)
		l.fall(o, Gone)
	default:
		l.answer(o, f, ctl.DM)
	}
}

// takeUa takes a UA.
func (l *Link) takeUa(o *Out) {
	switch l.state {
	case IsCalling:
		l.rise(o, l.asks == ctl.SABME)
	case IsClosing:
		l.fall(o, Gone)
		o.Fresh = true
	}
}

// takeDm takes a DM.
func (l *Link) takeDm(o *Out) {
	switch {
	case l.asksMore():
		l.await(o, IsCalling, ctl.SABM)
	case l.state == IsCalling:
		l.fall(o, Refused)
	case l.state == IsUp, l.state == IsClosing:
		l.fall(o, Gone)
	default:
		return
	}
	o.Fresh = true
}

// takeFrmr takes a FRMR.
func (l *Link) takeFrmr(o *Out) {
	switch {
	case l.asksMore():
		l.await(o, IsCalling, ctl.SABM)
	case l.Wide():
		l.wasUp = true
		l.await(o, IsCalling, ctl.SABME)
	case l.state == IsUp:
		l.wasUp = true
		l.await(o, IsCalling, ctl.SABM)
	}
}

// asksMore tells whether the link asks for what each station needn't understand: it may call by SABM yet.
func (l *Link) asksMore() bool {
	return l.state == IsAsking || l.state == IsCalling && l.asks == ctl.SABME
}

// takeNumbered takes an I, RR, RNR, REJ or SREJ of a link that is up.
func (l *Link) takeNumbered(o *Out, f frame.Frame) {
	if f.Kind != ctl.SREJ && !l.takeNr(f) {
		return
	}
	came := f.Kind == ctl.I && l.takeInfo(o, f)
	l.tellOld(o, f)
	asked := f.Pf && path.Command(f.Path)
	if asked || f.Kind == ctl.I && l.held {
		l.tellReady(o, false, asked)
	}
	l.tellNew(o)
	if came && !asked && !slices.ContainsFunc(o.Frames, isInfo) {
		l.tellReady(o, false, false)
	}
	l.keepTime()
}

func isInfo(f frame.Frame) bool { return f.Kind == ctl.I }

// takeNr takes what a frame acknowledges: false, if that can't be.
func (l *Link) takeNr(f frame.Frame) bool {
	n, ok := l.acknowledge(f.Nr)
	if !ok {
		return false
	}
	if n > 0 {
		l.answered()
	}
	l.busy = f.Kind == ctl.RNR
	return true
}

// takeInfo takes an I: false, if it is dropped.
func (l *Link) takeInfo(o *Out, f frame.Frame) bool {
	if l.held {
		l.stats.Dropped++
		return false
	}
	pieces, ok := l.accept(f.Ns, seg.Piece{Pid: f.Pid, Info: strings.Clone(f.Info)})
	if !ok {
		l.stats.Dropped++
	}
	l.stats.Came += len(pieces)
	for _, p := range pieces {
		if message, whole, _ := l.gatherer.Take(p); whole {
			o.Events = append(o.Events, Event{Kind: Data, Pid: message.Pid, Text: message.Info})
		}
	}
	l.tellMissing(o, ok)
	return ok
}

// tellMissing asks for what is missing behind an I, which was dropped or not.
func (l *Link) tellMissing(o *Out, ok bool) {
	if l.holds.Srej {
		for _, n := range l.unasked() {
			l.tellNumber(o, false, ctl.SREJ, n, false)
		}
		return
	}
	misses := !ok
	if l.holds.Wide {
		misses = len(l.ins.Missing()) > 0
	}
	if misses && !l.rejected {
		l.rejected = true
		l.tellNumber(o, false, ctl.REJ, l.ins.Vr(), false)
	}
}

// tellOld tells again what a frame asks for.
func (l *Link) tellOld(o *Out, f frame.Frame) {
	if l.polling && f.Pf && path.Response(f.Path) {
		l.polling = false
		l.answered()
		l.tellOpen(o)
		return
	}
	_, isOpen := l.open[f.Nr]
	switch {
	case f.Kind == ctl.REJ:
		l.tellOpen(o)
	case f.Kind == ctl.SREJ && isOpen:
		l.tellAgain(o, f.Nr)
	}
}
