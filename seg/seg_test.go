package seg

import (
	"math"
	"math/rand"
	"slices"
	"strings"
	"testing"
	"unsafe"

	"squelch/api"
)

// message is n bytes, of which those near each other differ.
func message(n int) string {
	b := make([]byte, n)
	for i := range b {
		b[i] = byte(i*7 + i/256)
	}
	return string(b)
}

// modelSplit is a right message's pieces, as the document says: head, pid, and slices of the text one by one.
func modelSplit(pid int, text string, n1 int) []Piece {
	if len(text) <= n1 && pid != 8 {
		return []Piece{{Pid: pid, Info: text}}
	}
	cuts := []string{text[:min(len(text), n1-2)]}
	for text = text[len(cuts[0]):]; text != ""; {
		n := min(len(text), n1-1)
		cuts, text = append(cuts, text[:n]), text[n:]
	}
	var l []Piece
	for i, c := range cuts {
		head := string([]byte{byte(len(cuts) - 1 - i)})
		if i == 0 {
			head = string([]byte{byte(128 + len(cuts) - 1), byte(pid)})
		}
		l = append(l, Piece{Pid: 8, Info: head + c})
	}
	return l
}

// infos are the bytes of pieces.
func infos(l []Piece) []string {
	var all []string
	for _, p := range l {
		all = append(all, p.Info)
	}
	return all
}

func wantSplit(t *testing.T, pid int, text string, n1 int, want []Piece, e api.Errno) {
	t.Helper()
	if l, got := Split(pid, text, n1); !slices.Equal(l, want) || got != e {
		t.Fatalf("Split(%d, %d bytes, %d): %.200q, %d; want %.200q, %d", pid, len(text), n1, infos(l), got, infos(want), e)
	}
}

// wantTake says what g answers to p, and how many it awaits then.
func wantTake(t *testing.T, g *Gatherer, p, want Piece, ok bool, e api.Errno, open int) {
	t.Helper()
	if m, whole, got := g.Take(p); m != want || whole != ok || got != e {
		t.Fatalf("Take(%d %.80q): %d %.80q, %t, %d; want %d %.80q, %t, %d", p.Pid, p.Info, m.Pid, m.Info, whole, got, want.Pid, want.Info, ok, e)
	}
	if n := g.Open(); n != open {
		t.Fatalf("Open behind %d %.80q: %d; want %d", p.Pid, p.Info, n, open)
	}
}

// wantOpen says that p is taken, and makes nothing whole: so many are awaited.
func wantOpen(t *testing.T, g *Gatherer, p Piece, open int) {
	t.Helper()
	wantTake(t, g, p, Piece{}, false, api.OK, open)
}

// wantWhole says that a message is whole by p: nothing is awaited any more.
func wantWhole(t *testing.T, g *Gatherer, p, want Piece) {
	t.Helper()
	wantTake(t, g, p, want, true, api.OK, 0)
}

// wantDrop says that p isn't taken, and that what had begun is dropped.
func wantDrop(t *testing.T, g *Gatherer, p Piece, e api.Errno) {
	t.Helper()
	wantTake(t, g, p, Piece{}, false, e, 0)
}

// of is a piece of a message of several.
func of(info string) Piece { return Piece{Pid: 8, Info: info} }

// pieces are a right message's.
func pieces(t *testing.T, pid int, text string, n1 int) []Piece {
	t.Helper()
	l, e := Split(pid, text, n1)
	if e != api.OK || len(l) == 0 {
		t.Fatalf("Split(%d, %d bytes, %d): %d pieces, %d", pid, len(text), n1, len(l), e)
	}
	return l
}

// P10.1: the document's example, and other pieces by hand.
func TestP101SplitKnown(t *testing.T) {
	text := message(40)
	wantSplit(t, 240, text, 16, []Piece{of("\x82\xf0" + text[:14]), of("\x01" + text[14:29]), of("\x00" + text[29:])}, api.OK)
	wantSplit(t, 240, "", 16, []Piece{{Pid: 240}}, api.OK)
	wantSplit(t, 8, "", 16, []Piece{of("\x80\x08")}, api.OK)
	wantSplit(t, 0, "a", 16, []Piece{{Pid: 0, Info: "a"}}, api.OK)
	wantSplit(t, 255, "a", 256, []Piece{{Pid: 255, Info: "a"}}, api.OK)
	wantSplit(t, 7, text[:16], 16, []Piece{{Pid: 7, Info: text[:16]}}, api.OK)
	wantSplit(t, 7, text[:17], 16, []Piece{of("\x81\x07" + text[:14]), of("\x00" + text[14:17])}, api.OK)
	wantSplit(t, 8, text[:14], 16, []Piece{of("\x80\x08" + text[:14])}, api.OK)
	wantSplit(t, 8, text[:15], 16, []Piece{of("\x81\x08" + text[:14]), of("\x00" + text[14:15])}, api.OK)
	wantSplit(t, 9, text[:29], 16, []Piece{of("\x81\x09" + text[:14]), of("\x00" + text[14:29])}, api.OK)
	wantSplit(t, 9, text[:30], 16, []Piece{of("\x82\x09" + text[:14]), of("\x01" + text[14:29]), of("\x00" + text[29:30])}, api.OK)
	text = message(600)
	wantSplit(t, 1, text, 256, []Piece{of("\x82\x01" + text[:254]), of("\x01" + text[254:509]), of("\x00" + text[509:])}, api.OK)
	if l := pieces(t, 1, text, 16); len(l) != 41 || l[0].Info != "\xa8\x01"+text[:14] || l[40].Info != "\x00"+text[599:] {
		t.Errorf("%d pieces: %q", len(l), infos(l))
	}
}

// P10.1: the pieces of messages of each length, for each n1, are those of the document's words.
func TestP101Split(t *testing.T) {
	text := message(api.MaxMsg)
	for n1 := 16; n1 <= 256; n1++ {
		for n := range api.MaxMsg + 1 {
			for _, pid := range []int{8, (n + n1) % 256} {
				wantSplit(t, pid, text[:n], n1, modelSplit(pid, text[:n], n1), api.OK)
			}
		}
	}
	for pid := range 256 {
		for _, n := range []int{0, 1, 15, 16, 17, 600} {
			wantSplit(t, pid, text[:n], 16, modelSplit(pid, text[:n], 16), api.OK)
		}
	}
}

// P10.1: wrong arguments, ErrArg ahead of ErrLong.
func TestP101SplitWrong(t *testing.T) {
	far := []int{math.MinInt, -1 << 32, -256, -248, -1, 1<<32 + 16, 1<<32 + 240, 1 << 40, math.MaxInt}
	for _, n := range []int{0, 1, 17, 600, 601, 5000} {
		text := message(n)
		for _, pid := range append([]int{256, 257, 264, 496, 512}, far...) {
			wantSplit(t, pid, text, 16, nil, api.ErrArg)
			wantSplit(t, pid, text, 15, nil, api.ErrArg)
		}
		for _, n1 := range append([]int{0, 1, 2, 3, 14, 15, 257, 258, 272, 600}, far...) {
			wantSplit(t, 240, text, n1, nil, api.ErrArg)
			wantSplit(t, 8, text, n1, nil, api.ErrArg)
		}
	}
	for _, n := range []int{601, 602, 1200, 5000, 1 << 20} {
		for _, pid := range []int{0, 8, 240, 255} {
			wantSplit(t, pid, message(n), 16, nil, api.ErrLong)
			wantSplit(t, pid, message(n), 256, nil, api.ErrLong)
		}
	}
}

// P10.1: messages by themselves, and of pieces, by hand.
func TestP101TakeKnown(t *testing.T) {
	g := New()
	if n := g.Open(); n != 0 {
		t.Errorf("Open of a new one: %d", n)
	}
	wantWhole(t, g, Piece{Pid: 240, Info: "alone"}, Piece{Pid: 240, Info: "alone"})
	wantWhole(t, g, Piece{}, Piece{})
	wantWhole(t, g, of("\x80\x08x"), Piece{Pid: 8, Info: "x"})
	wantWhole(t, g, of("\x80\xf0"), Piece{Pid: 240})
	wantOpen(t, g, of("\x82\xf0ab"), 2)
	wantOpen(t, g, of("\x01"), 1)
	wantWhole(t, g, of("\x00cd"), Piece{Pid: 240, Info: "abcd"})
	wantDrop(t, g, of("\x00cd"), api.ErrNone)
	wantOpen(t, g, of("\x81\x00"), 1)
	wantWhole(t, g, of("\x00"), Piece{})
	wantOpen(t, g, of("\xff\xff\xff"), 127)
	for n := 126; n > 0; n-- {
		wantOpen(t, g, of(string([]byte{byte(n), byte(n)})), n)
	}
	var want []byte
	for n := 255; n > 127; n-- {
		want = append(want, byte(n%128))
	}
	want[0] = 255
	wantWhole(t, g, of("\x00\x00"), Piece{Pid: 255, Info: string(want)})
}

// P10.1: a first piece drops what had begun, and its message begins.
func TestP101TakeBegins(t *testing.T) {
	g := New()
	wantOpen(t, g, of("\x82\xf0ab"), 2)
	wantOpen(t, g, of("\x85\x01cd"), 5)
	wantOpen(t, g, of("\x81\x02ef"), 1)
	wantWhole(t, g, of("\x00gh"), Piece{Pid: 2, Info: "efgh"})
	wantOpen(t, g, of("\x82\xf0ab"), 2)
	wantWhole(t, g, of("\x80\x03ij"), Piece{Pid: 3, Info: "ij"})
	wantDrop(t, g, of("\x01kl"), api.ErrNone)
}

// P10.1: what doesn't go on is dropped, and with it what had begun.
func TestP101TakeNone(t *testing.T) {
	for head := range 128 {
		g := New()
		bad := of(string([]byte{byte(head), 'c'}))
		wantDrop(t, g, bad, api.ErrNone)
		wantOpen(t, g, of("\xc0\xf0a"), 64)
		wantOpen(t, g, of("\x3fb"), 63)
		if head == 62 {
			wantOpen(t, g, bad, 62)
			continue
		}
		wantDrop(t, g, bad, api.ErrNone)
		wantDrop(t, g, of("\x3ec"), api.ErrNone)
	}
}

// P10.1: pieces of Pid 8 whose bytes aren't there drop what had begun.
func TestP101TakeShort(t *testing.T) {
	for head := -1; head < 128; head++ {
		bad := of("")
		if head >= 0 {
			bad = of(string([]byte{byte(128 + head)}))
		}
		g := New()
		wantDrop(t, g, bad, api.ErrShort)
		wantOpen(t, g, of("\x82\xf0a"), 2)
		wantDrop(t, g, bad, api.ErrShort)
		wantDrop(t, g, of("\x01b"), api.ErrNone)
	}
}

// P10.1: a message has at most 600 bytes, by itself, in a first piece, and in all its pieces; more drops what had begun.
func TestP101TakeLong(t *testing.T) {
	text := message(601)
	g := New()
	wantWhole(t, g, Piece{Pid: 240, Info: text[:600]}, Piece{Pid: 240, Info: text[:600]})
	wantWhole(t, g, of("\x80\xf0"+text[:600]), Piece{Pid: 240, Info: text[:600]})
	wantOpen(t, g, of("\x81\xf0"+text[:600]), 1)
	wantWhole(t, g, of("\x00"), Piece{Pid: 240, Info: text[:600]})
	for n := range 601 {
		wantOpen(t, g, of("\x82\xf0"+text[:n]), 2)
		wantOpen(t, g, of("\x01"+text[n:600]), 1)
		wantWhole(t, g, of("\x00"), Piece{Pid: 240, Info: text[:600]})
		wantOpen(t, g, of("\x82\xf0"+text[:n]), 2)
		wantDrop(t, g, of("\x01"+text[n:]), api.ErrLong)
		wantDrop(t, g, of("\x00"), api.ErrNone)
	}
	for _, bad := range []Piece{{Pid: 240, Info: text}, {Pid: 0, Info: message(5000)}, of("\x80\xf0" + text), of("\x82\xf0" + text), of("\x02" + text)} {
		wantDrop(t, g, bad, longOr(bad, api.ErrNone))
		wantOpen(t, g, of("\x83\x01a"), 3)
		wantDrop(t, g, bad, api.ErrLong)
		wantDrop(t, g, of("\x02b"), api.ErrNone)
	}
	wantOpen(t, g, of("\x83\x01a"), 3)
	wantDrop(t, g, of("\x01"+text), api.ErrNone) // asked ahead of ErrLong
}

// longOr is ErrLong, or e for a piece that isn't asked for its length where nothing has begun.
func longOr(p Piece, e api.Errno) api.Errno {
	if p.Pid == 8 && p.Info[0] < 128 {
		return e
	}
	return api.ErrLong
}

// P10.1: what had begun stays behind ErrArg, and goes on behind a message by itself.
func TestP101TakeBetween(t *testing.T) {
	g := New()
	open := of("\x83\xf0a")
	for _, pid := range []int{-1, -8, -248, 256, 257, 264, 1<<32 + 8, math.MinInt, math.MaxInt} {
		for _, info := range []string{"", "x", "\x80", "\x80\x08x", "\x02b", message(601)} {
			bad := Piece{Pid: pid, Info: info}
			wantDrop(t, New(), bad, api.ErrArg)
			wantOpen(t, g, open, 3)
			wantTake(t, g, bad, Piece{}, false, api.ErrArg, 3)
		}
	}
	for pid := range 256 {
		if pid == 8 {
			continue
		}
		for _, info := range []string{"", "x", "\x80", "\x80\x08x", "\x02b", message(600)} {
			alone := Piece{Pid: pid, Info: info}
			wantOpen(t, g, open, 3)
			wantTake(t, g, alone, alone, true, api.OK, 3)
		}
	}
	wantOpen(t, g, of("\x02b"), 2)
	wantOpen(t, g, of("\x01c"), 1)
	wantWhole(t, g, of("\x00d"), Piece{Pid: 240, Info: "abcd"})
}

// P10.1: Reset drops what had begun, and no more.
func TestP101Reset(t *testing.T) {
	g := New()
	g.Reset()
	wantDrop(t, g, of("\x00"), api.ErrNone)
	wantOpen(t, g, of("\x82\xf0ab"), 2)
	g.Reset()
	if n := g.Open(); n != 0 {
		t.Errorf("Open behind Reset: %d", n)
	}
	wantDrop(t, g, of("\x01cd"), api.ErrNone)
	wantOpen(t, g, of("\x81\x01ef"), 1)
	wantWhole(t, g, of("\x00gh"), Piece{Pid: 1, Info: "efgh"})
}

// P10.1: a nil gatherer takes nothing.
func TestP101Nil(t *testing.T) {
	var g *Gatherer
	for _, p := range []Piece{{}, {Pid: 240, Info: "x"}, of("\x80\x08x"), of(""), {Pid: 256}, {Pid: 240, Info: message(601)}} {
		wantDrop(t, g, p, api.ErrArg)
	}
	g.Reset()
	if n := g.Open(); n != 0 {
		t.Errorf("Open: %d", n)
	}
}

// P10.1: each gatherer has what it took, a copy too.
func TestP101Apart(t *testing.T) {
	a, b := New(), New()
	wantOpen(t, a, of("\x82\x01a"), 2)
	wantOpen(t, b, of("\x83\x02b"), 3)
	wantOpen(t, a, of("\x01c"), 1)
	wantOpen(t, b, of("\x02d"), 2)
	again := *a
	wantWhole(t, &again, of("\x00e"), Piece{Pid: 1, Info: "ace"})
	wantWhole(t, a, of("\x00f"), Piece{Pid: 1, Info: "acf"})
	wantOpen(t, b, of("\x01g"), 1)
	wantWhole(t, b, of("\x00h"), Piece{Pid: 2, Info: "bdgh"})
}

// model holds the bytes of the pieces of what has begun.
type model []string

// follow is how many follow behind a piece with these bytes.
func follow(info string) int { return int(info[0]) % 128 }

func (m model) open() int {
	if len(m) == 0 {
		return 0
	}
	return follow(m[len(m)-1])
}

// take is what the document says of a piece: what is held then, and what is answered.
func (m model) take(p Piece) (model, Piece, bool, api.Errno) {
	if p.Pid < 0 || p.Pid > 255 {
		return m, Piece{}, false, api.ErrArg
	}
	if p.Pid != 8 {
		if len(p.Info) > 600 {
			return nil, Piece{}, false, api.ErrLong
		}
		return m, p, true, api.OK
	}
	if p.Info == "" || p.Info[0] >= 128 && len(p.Info) == 1 {
		return nil, Piece{}, false, api.ErrShort
	}
	if p.Info[0] >= 128 {
		m = nil
	} else if len(m) == 0 || m.open() != follow(p.Info)+1 {
		return nil, Piece{}, false, api.ErrNone
	}
	m = append(slices.Clone(m), p.Info)
	text := m[0][2:]
	for _, info := range m[1:] {
		text += info[1:]
	}
	if len(text) > 600 {
		return nil, Piece{}, false, api.ErrLong
	}
	if m.open() > 0 {
		return m, Piece{}, false, api.OK
	}
	return nil, Piece{Pid: int(m[0][1]), Info: text}, true, api.OK
}

// wantModel says that g answers to each of l as the model does; Pid 1000 stands for Reset.
func wantModel(t *testing.T, l []Piece) {
	t.Helper()
	g, m := New(), model(nil)
	for _, p := range l {
		if p.Pid == 1000 {
			g.Reset()
			m = nil
			continue
		}
		now, want, ok, e := m.take(p)
		m = now
		wantTake(t, g, p, want, ok, e, m.open())
	}
}

// P10.1: all short lists of the pieces that matter.
func TestP101TakeAll(t *testing.T) {
	letters := []Piece{
		{Pid: 1000}, {Pid: -1}, {Pid: 264, Info: "\x80\x01"}, {Pid: 240, Info: "x"}, {Pid: 9}, {Pid: 7, Info: message(601)},
		of(""), of("\x80"), of("\x82"), of("\x80\x08"), of("\x80\xf0y"), of("\x81\x01a"), of("\x82\x02bc"), of("\x83\x08"), of("\x82\x03" + message(600)), of("\x81\x04" + message(601)),
		of("\x00"), of("\x00d"), of("\x01"), of("\x01e"), of("\x02f"), of("\x01" + message(599)), of("\x00" + message(600)), of("\x7fz"),
	}
	for _, a := range letters {
		for _, b := range letters {
			for _, c := range letters {
				for _, d := range letters {
					wantModel(t, []Piece{a, b, c, d})
				}
			}
		}
	}
}

// P10.1: many random lists.
func TestP101TakeRandom(t *testing.T) {
	r := rand.New(rand.NewSource(1))
	for range 20000 {
		var l []Piece
		next := 0
		for range 1 + r.Intn(40) {
			info := message(r.Intn(60))
			switch n := r.Intn(40); {
			case n == 0:
				l = append(l, Piece{Pid: r.Intn(260) - 2, Info: info})
			case n == 1:
				l = append(l, of(info))
			case n == 2 || next == 0:
				next = r.Intn(20)
				l = append(l, of(string([]byte{byte(128 + next), byte(n)})+info))
			default:
				next--
				l = append(l, of(string([]byte{byte(next)})+info))
			}
		}
		wantModel(t, l)
	}
}

// inside asks whether x stands in the memory of s.
func inside(x, s string) bool {
	a, b := uintptr(unsafe.Pointer(unsafe.StringData(x))), uintptr(unsafe.Pointer(unsafe.StringData(s)))
	return a >= b && a < b+uintptr(len(s))
}

// P10.1: what is answered shares no memory with an argument, nor what is kept.
func TestP101Memory(t *testing.T) {
	text := message(100)
	for _, n1 := range []int{16, 100, 256} {
		for _, pid := range []int{8, 240} {
			for _, p := range pieces(t, pid, text, n1) {
				if inside(p.Info, text) {
					t.Errorf("Split(%d, .., %d): %q", pid, n1, p.Info)
				}
			}
		}
	}
	g := New()
	if m, _, _ := g.Take(Piece{Pid: 240, Info: text}); m.Info != text || inside(m.Info, text) {
		t.Errorf("alone: %q", m.Info)
	}
	whole := strings.Clone("\x80\xf0" + text)
	if m, _, _ := g.Take(of(whole)); m.Info != text || inside(m.Info, whole) {
		t.Errorf("one of Pid 8: %q", m.Info)
	}
	begin := strings.Clone("\x81\xf0" + text)
	g.Take(of(begin))
	if inside(g.text, begin) {
		t.Error("kept")
	}
	if m, _, _ := g.Take(of("\x00")); m.Info != text || inside(m.Info, begin) {
		t.Errorf("of several: %q", m.Info)
	}
	g.Take(of("\x81\xf0"))
	end := strings.Clone("\x00" + text)
	if m, _, _ := g.Take(of(end)); m.Info != text || inside(m.Info, end) {
		t.Errorf("in the last one: %q", m.Info)
	}
}

// P10.2: the pieces of messages of each length, for each n1, are whole with the last one, and have room.
func TestP102Whole(t *testing.T) {
	text := message(api.MaxMsg)
	g := New()
	for n1 := 16; n1 <= 256; n1++ {
		for n := range api.MaxMsg + 1 {
			pid := 8
			if (n+n1)%3 > 0 {
				pid = (n*5 + n1) % 256
			}
			l := pieces(t, pid, text[:n], n1)
			for i, p := range l {
				if len(p.Info) > n1 {
					t.Errorf("%d bytes, %d: piece %d has %d", n, n1, i, len(p.Info))
				}
				if i < len(l)-1 {
					wantOpen(t, g, p, len(l)-1-i)
				} else {
					wantWhole(t, g, p, Piece{Pid: pid, Info: text[:n]})
				}
			}
		}
	}
}

// wholes are the messages that a new gatherer tells of l.
func wholes(l []Piece) []Piece {
	var told []Piece
	g := New()
	for _, p := range l {
		if m, ok, _ := g.Take(p); ok {
			told = append(told, m)
		}
	}
	return told
}

// sizes are lengths and n1 of messages that have several pieces.
var sizes = [][2]int{{17, 16}, {30, 16}, {40, 16}, {100, 20}, {600, 16}, {600, 256}, {257, 256}}

// P10.2: with a piece missing it isn't whole, behind a message before, nor before a message behind.
func TestP102Missing(t *testing.T) {
	for _, size := range sizes {
		for _, pid := range []int{8, 240} {
			l := pieces(t, pid, message(size[0]), size[1])
			for i := range l {
				without := slices.Delete(slices.Clone(l), i, i+1)
				if told := wholes(without); told != nil {
					t.Errorf("%v without %d: %d told", size, i, len(told))
				}
				if told := wholes(slices.Concat(l, without, l)); len(told) != 2 {
					t.Errorf("%v without %d, between others: %d told", size, i, len(told))
				}
			}
		}
	}
}

// P10.2: with a piece that comes twice, at once or later, it isn't whole, or was already, and isn't a second time.
func TestP102Twice(t *testing.T) {
	for _, size := range sizes {
		text := message(size[0])
		l := pieces(t, 240, text, size[1])
		last := len(l) - 1
		for i := range l {
			for at := i + 1; at <= len(l); at++ { // in front of which one it comes again
				want := 0
				if at > last || i == 0 && at == 1 { // it was whole, or its first piece makes it begin anew
					want = 1
				}
				told := wholes(slices.Insert(slices.Clone(l), at, l[i]))
				if len(told) != want || want == 1 && told[0] != (Piece{Pid: 240, Info: text}) {
					t.Errorf("%v with %d again at %d: %d told", size, i, at, len(told))
				}
			}
		}
	}
}

// P10.2: in another order than their own, they aren't whole.
func TestP102Order(t *testing.T) {
	for _, size := range sizes {
		l := pieces(t, 240, message(size[0]), size[1])
		for i := range l {
			for j := range i {
				other := slices.Clone(l)
				other[i], other[j] = other[j], other[i]
				if told := wholes(other); told != nil {
					t.Errorf("%v with %d and %d in each other's place: %d told", size, j, i, len(told))
				}
			}
		}
	}
}
