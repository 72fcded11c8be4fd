package links

import (
	"squelch/api"
	"squelch/ctl"
	"squelch/digi"
	"squelch/frame"
	"squelch/link"
	"squelch/path"
)

// Take takes bytes that came.
func (t *Table) Take(s string) []Act {
	if t == nil || !digi.For(t.own, s) {
		return nil
	}
	p, _, _ := path.Get(s)
	x := t.to(p.From)
	f, ok := decode(s, x != nil && x.Wide())
	switch {
	case !ok || f.From == t.own:
		return nil
	case x != nil:
		return t.did(x, x.Take(f))
	case t.full() || !t.makes(f.Kind):
		return refuse(f)
	}
	x = t.add(back(f.Path, true))
	return t.did(x, x.Take(f))
}

// decode is the frame of bytes: narrow, or wide, where the link is that and the bytes can be.
func decode(s string, wide bool) (frame.Frame, bool) {
	if wide {
		if f, e := frame.Decode(s, true); e == api.OK {
			return f, true
		}
	}
	f, e := frame.Decode(s, false)
	return f, e == api.OK
}

// makes tells whether a kind makes a link.
func (t *Table) makes(kind int) bool {
	switch kind {
	case ctl.SABM:
		return true
	case ctl.SABME, ctl.XID:
		return t.can.Wide
	}
	return false
}

// refuse is the DM that answers what would make a link, or end one; nothing answers the rest.
func refuse(f frame.Frame) []Act {
	switch f.Kind {
	case ctl.SABM, ctl.SABME, ctl.XID, ctl.DISC:
		dm := frame.Frame{Path: back(f.Path, false), Ctl: ctl.Ctl{Kind: ctl.DM, Pf: f.Pf}}
		return []Act{{Peer: f.From, Out: link.Out{Frames: []frame.Frame{dm}}}}
	}
	return nil
}

// back is the way back of a path, a command's or a response's, whatever the path's marks are.
func back(p path.Path, command bool) path.Path {
	p = path.Back(p)
	p.ToMark, p.FromMark = command, !command
	return p
}
