package heard

import (
	"math"
	"math/rand"
	"slices"
	"strings"
	"testing"

	"squelch/api"
)

// P23.1: a new list has no stations; a list that New did not make is one, too.
func TestP231New(t *testing.T) {
	newTwin(t)
	for _, x := range rightCalls {
		if e, ok := New().Find(x); ok || e != (Entry{}) {
			t.Errorf("Find(%v): %v, %v", x, e, ok)
		}
	}
	if l := New().All(); len(l) != 0 {
		t.Errorf("All: %v", l)
	}
	w := twin{&List{}, &model{}}
	w.same(t)
	w.clear(t)
	w.must(t, ui(c("A")), 1)
}

// P23.1: known lists.
func TestP231Known(t *testing.T) {
	l := New()
	for _, x := range []struct {
		s    string
		now  int
		want []Entry
	}{
		{ui(c("A")), 3, []Entry{{Call: c("A"), Count: 1, When: 3}}},
		{ui(c("A")), 4, []Entry{{Call: c("A"), Count: 2, When: 4}}},
		{ui(n("A", 1), stops(1, 1)...), 5, []Entry{{Call: n("A", 1), Via: c("D"), Count: 1, When: 5}, {Call: c("A"), Count: 2, When: 4}}},
		{ui(c("A"), stops(3, 2)...), 6, []Entry{{Call: c("A"), Via: n("D", 1), Count: 3, When: 6}, {Call: n("A", 1), Via: c("D"), Count: 1, When: 5}}},
		{ui(c("A"), stops(3, 0)...), -1, []Entry{{Call: c("A"), Count: 4, When: -1}, {Call: n("A", 1), Via: c("D"), Count: 1, When: 5}}},
	} {
		if !l.Hear(x.s, x.now) {
			t.Fatalf("Hear(%q, %d): false", x.s, x.now)
		}
		if got := l.All(); !slices.Equal(got, x.want) {
			t.Fatalf("Hear(%q, %d): %v; want %v", x.s, x.now, got, x.want)
		}
		for _, e := range x.want {
			if got, ok := l.Find(e.Call); !ok || got != e {
				t.Errorf("Find(%v): %v, %v; want %v", e.Call, got, ok, e)
			}
		}
		for _, none := range []api.Call{{}, c("B"), c("D"), n("D", 1), n("A", 2), c("AA"), c("a"), n("A", 16), n("A", -1)} {
			if got, ok := l.Find(none); ok || got != (Entry{}) {
				t.Errorf("Find(%v): %v, %v", none, got, ok)
			}
		}
	}
}

// P23.1: the sender is noted, of each call that is right, and nobody else of the path.
func TestP231Sender(t *testing.T) {
	w := newTwin(t)
	for _, from := range rightCalls {
		for _, to := range rightCalls {
			w.must(t, way(from, to), 1)
			if l := w.l.All(); l[0].Call != from || l[0].Via != (api.Call{}) {
				t.Fatalf("%v to %v: %v", from, to, l)
			}
		}
	}
	for _, from := range rightCalls {
		for _, by := range rightCalls {
			w.must(t, way(from, c("B"), stop{by, true}, stop{c("E"), false}), 1)
			if l := w.l.All(); l[0].Call != from || l[0].Via != by {
				t.Fatalf("%v by %v: %v", from, by, l)
			}
		}
	}
}

// P23.1: the last digipeater that has the frame is noted, of each number of them, of which each number has it.
func TestP231Via(t *testing.T) {
	w := newTwin(t)
	for count := range 9 {
		for sent := range count + 1 {
			w.must(t, ui(c("A"), stops(count, sent)...), count)
			want := api.Call{}
			if sent > 0 {
				want = n("D", sent-1)
			}
			if e, ok := w.l.Find(c("A")); !ok || e.Via != want {
				t.Errorf("%d of %d have it: %v, %v", sent, count, e, ok)
			}
		}
	}
	same := []stop{{c("D"), true}, {c("E"), true}, {c("D"), true}, {c("E"), false}}
	w.must(t, ui(c("A"), same...), 1)
	w.must(t, ui(c("A"), stop{c("A"), true}), 1)
	if e, _ := w.l.Find(c("A")); e.Via != c("A") {
		t.Errorf("its own: %v", e)
	}
}

// P23.1: of a station that is heard again all but how often is as it was heard last.
func TestP231Again(t *testing.T) {
	w := newTwin(t)
	for i := range 300 {
		w.must(t, ui(c("A"), stops(2, i%3)...), (i*7)%11)
		if e, _ := w.l.Find(c("A")); e.Count != i+1 || e.When != (i*7)%11 {
			t.Fatalf("heard %d times: %v", i+1, e)
		}
	}
}

// P23.1: a path's marks say nothing here.
func TestP231Marks(t *testing.T) {
	w := newTwin(t)
	for _, to := range []bool{false, true} {
		for _, from := range []bool{false, true} {
			w.must(t, marked(c("A"), c("B"), to, from), 1)
			w.must(t, marked(c("C"), c("A"), to, from, stops(2, 1)...), 2)
		}
	}
	if e, _ := w.l.Find(c("A")); e.Count != 4 {
		t.Error(e)
	}
}

// P23.1: what stands behind the path says nothing here: bytes that are no frame are heard, too.
func TestP231Behind(t *testing.T) {
	w := newTwin(t)
	for _, digis := range [][]stop{nil, stops(1, 1), stops(8, 3)} {
		for x := range 256 {
			w.must(t, way(c("A"), c("B"), digis...)+string([]byte{byte(x)}), x)
		}
		for _, more := range []string{"", "\x00", "\xff\xff\xff", way(c("C"), c("D")), callBytes(c("E"), true, false), strings.Repeat("x", 400), strings.Repeat("\x00", 5000)} {
			w.must(t, way(c("A"), c("B"), digis...)+more, 1)
		}
	}
	if l := w.l.All(); len(l) != 1 {
		t.Error(l)
	}
}

// P23.1: times are any numbers; the order is that in which they are told, whatever the times say.
func TestP231Times(t *testing.T) {
	for _, first := range times {
		for _, second := range times {
			w := newTwin(t)
			w.must(t, ui(c("A")), first)
			w.must(t, ui(c("B")), second)
			if l := w.l.All(); l[0] != (Entry{Call: c("B"), Count: 1, When: second}) || l[1] != (Entry{Call: c("A"), Count: 1, When: first}) {
				t.Fatalf("%d, %d: %v", first, second, l)
			}
			w.must(t, ui(c("A")), second)
			w.must(t, ui(c("A")), first)
			if l := w.l.All(); l[0] != (Entry{Call: c("A"), Count: 3, When: first}) {
				t.Fatalf("%d, %d: %v", first, second, l)
			}
		}
	}
}

// P23.1: eight stations have room; of more the one goes that was heard longest ago, and is a new one when it is heard again.
func TestP231Room(t *testing.T) {
	w := newTwin(t)
	for i := range 40 {
		w.must(t, ui(station(i)), 100-i)
		l := w.l.All()
		if len(l) != min(i+1, 8) || l[0].Call != station(i) || l[len(l)-1].Call != station(max(0, i-7)) {
			t.Fatalf("%d: %v", i, l)
		}
	}
	w.must(t, ui(station(32)), 1)
	w.must(t, ui(station(32)), 1)
	if e, ok := w.l.Find(station(32)); !ok || e.Count != 3 {
		t.Errorf("the last one, again: %v, %v", e, ok)
	}
	w.must(t, ui(station(0)), 1)
	if _, ok := w.l.Find(station(33)); ok {
		t.Error("the last one did not go")
	}
	w.must(t, ui(station(33)), 1)
	if e, ok := w.l.Find(station(33)); !ok || e.Count != 1 {
		t.Errorf("one that had gone: %v, %v", e, ok)
	}
}

// P23.1: each station of each number of them moves to the front, and the others stay in their order.
func TestP231Front(t *testing.T) {
	for count := range 10 {
		for i := range count {
			w := newTwin(t)
			for k := range count {
				w.must(t, ui(station(k), stops(k%9, k/2)...), k)
			}
			w.must(t, ui(station(i)), -1)
			w.must(t, ui(station(i)), -2)
			w.must(t, ui(station(count)), 7)
			w.must(t, ui(station(i)), -3)
		}
	}
}

// P23.1: all is forgotten, of each number of stations, and then it goes on as from the beginning.
func TestP231Clear(t *testing.T) {
	w := newTwin(t)
	for count := range 11 {
		for k := range count {
			w.must(t, ui(station(k)), k)
			w.must(t, ui(station(k)), k)
		}
		w.clear(t)
		if l := w.l.All(); len(l) != 0 {
			t.Fatalf("%d: %v", count, l)
		}
		for k := range count {
			if e, ok := w.l.Find(station(k)); ok || e != (Entry{}) {
				t.Fatalf("Find(%v): %v, %v", station(k), e, ok)
			}
		}
		w.clear(t)
		w.must(t, ui(station(0)), 1)
		if e, _ := w.l.Find(station(0)); e.Count != 1 {
			t.Fatalf("behind Clear: %v", e)
		}
		w.clear(t)
	}
}

// wrongBytes begin with no path.
func wrongBytes() []string {
	a, b, d := callBytes(c("A"), false, false), callBytes(c("B"), true, false), callBytes(c("D"), false, false)
	l := []string{
		"", "junk", "A>B", "\x00", "\xff", strings.Repeat("\x00", 40), strings.Repeat("\xff", 400), strings.Repeat("x", 400), strings.Repeat(d, 50),
		callBytes(c("B"), true, true) + callBytes(c("A"), false, true), // the first is the last one
		callBytes(c("B"), true, true) + "\x03\xf0hello",
		b, b + a, b + a + "\x03\xf0hello there", b + a + d + d, // without a last one
		way(c("A"), c("B"), stops(9, 0)...), way(c("A"), c("B"), stops(9, 9)...), way(c("A"), c("B"), stops(20, 3)...), // too many
		b + a + strings.Repeat(d, 8),
		way(c("A"), c("B"), stop{c("D"), false}, stop{c("E"), true}), // one has it behind one that hasn't
		way(c("A"), c("B"), stop{c("D"), true}, stop{c("E"), false}, stop{c("F"), true}),
	}
	for _, x := range []api.Call{{}, c("a"), c("A B"), c(" A"), c("A-1"), c("Z\x00"), c("@"), c("["), c("/"), c(":")} {
		l = append(l, ui(x), way(c("A"), x), ui(c("A"), stop{x, true}), ui(c("A"), stop{c("D"), true}, stop{x, false}))
	}
	return l
}

// P23.1: bytes that begin with no path are not heard, and all stays as it was, of each number of stations.
func TestP231Wrong(t *testing.T) {
	for _, s := range wrongBytes() {
		w := newTwin(t)
		for i := range 10 {
			w.mustNot(t, s, i)
			w.must(t, ui(station(i), stops(2, 1)...), i)
			w.mustNot(t, s, i)
		}
		w.clear(t)
		w.mustNot(t, s, 1)
	}
}

// P23.1: each beginning of bytes, and each byte at each place of them.
func TestP231Bytes(t *testing.T) {
	for _, s := range []string{ui(c("A")), ui(n("N0CALL", 7), stops(1, 1)...), ui(n("A1", 15), stops(3, 2)...), way(c("AB"), c("CD"), stops(8, 8)...)} {
		w := newTwin(t)
		w.must(t, ui(c("Q"), stops(1, 1)...), 5)
		for i := range len(s) {
			w.hear(t, s[:i], i)
			w.hear(t, s[i:], i)
		}
		for i := range len(s) {
			for x := range 256 {
				b := []byte(s)
				b[i] = byte(x)
				w.hear(t, string(b), x)
			}
		}
	}
}

// P23.1: all orders of six steps, from a list with each number of stations at the edge.
func TestP231Orders(t *testing.T) {
	steps := []func(w twin){
		func(w twin) { w.l.Hear(ui(station(1), stops(2, 1)...), 3); w.m.hear(ui(station(1), stops(2, 1)...), 3) },
		func(w twin) { w.l.Hear(ui(station(20)), 2); w.m.hear(ui(station(20)), 2) },
		func(w twin) { w.l.Hear(ui(station(21)), 9); w.m.hear(ui(station(21)), 9) },
		func(w twin) { w.l.Hear("junk", 4); w.m.hear("junk", 4) },
		func(w twin) { w.l.Clear(); w.m.log = nil },
	}
	all := 1
	for range 6 {
		all *= len(steps)
	}
	for begin := 6; begin <= 8; begin++ {
		for order := range all {
			w := twin{New(), &model{}}
			for i := range begin {
				w.l.Hear(ui(station(i)), i)
				w.m.hear(ui(station(i)), i)
			}
			for i, rest := 0, order; i < 6; i, rest = i+1, rest/len(steps) {
				steps[rest%len(steps)](w)
				if !slices.Equal(w.l.All(), w.m.all()) {
					t.Fatalf("%d stations, order %d, step %d: %v; want %v", begin, order, i, w.l.All(), w.m.all())
				}
			}
			w.same(t)
		}
	}
}

// P23.1: any steps, of few stations and of many.
func TestP231Random(t *testing.T) {
	wrong := wrongBytes()
	for seed := range 60 {
		r := rand.New(rand.NewSource(int64(seed)))
		w := newTwin(t)
		many := 1 + r.Intn(24)
		for range 300 {
			switch r.Intn(40) {
			case 0:
				w.clear(t)
			case 1, 2, 3:
				w.hear(t, wrong[r.Intn(len(wrong))], r.Int())
			default:
				count := r.Intn(9)
				w.must(t, ui(station(r.Intn(many)), stops(count, r.Intn(count+1))...), r.Intn(2000)-1000)
			}
		}
	}
}

// P23.1: a nil list hears nothing, and has nothing.
func TestP231Nil(t *testing.T) {
	var l *List
	for _, s := range append(wrongBytes(), ui(c("A")), ui(c("A"), stops(8, 8)...)) {
		if l.Hear(s, 1) {
			t.Errorf("Hear(%q): true", s)
		}
	}
	l.Clear()
	if all := l.All(); len(all) != 0 {
		t.Errorf("All: %v", all)
	}
	for _, x := range append([]api.Call{{}, n("A", math.MinInt)}, rightCalls...) {
		if e, ok := l.Find(x); ok || e != (Entry{}) {
			t.Errorf("Find(%v): %v, %v", x, e, ok)
		}
	}
}

// P23.1: two lists are two.
func TestP231Two(t *testing.T) {
	v, w := newTwin(t), newTwin(t)
	for i := range 20 {
		v.must(t, ui(station(i%11)), i)
		w.same(t)
		w.must(t, ui(station(i%5), stops(2, 2)...), -i)
		v.same(t)
		if i == 9 {
			w.clear(t)
			v.same(t)
		}
	}
}

// P23.1: what is answered shares no memory with what is kept, nor with the bytes, nor with another answer; what was answered stays as it was.
func TestP231Memory(t *testing.T) {
	w := newTwin(t)
	var bytes []string
	for i := range 8 {
		s := ui(station(i), stops(3, 2)...)
		bytes = append(bytes, s)
		w.must(t, s, i)
	}
	all, again := w.l.All(), w.l.All()
	kept := slices.Clone(all)
	for i, e := range all {
		one, _ := w.l.Find(e.Call)
		two, _ := w.l.Find(e.Call)
		for _, pair := range [][2]Entry{{e, again[i]}, {e, one}, {one, two}} {
			if within(pair[0].Call.Base, pair[1].Call.Base) || within(pair[0].Via.Base, pair[1].Via.Base) {
				t.Errorf("%v: two answers share memory", e)
			}
		}
		for k, other := range all {
			if i != k && within(e.Via.Base, other.Via.Base) || within(e.Via.Base, other.Call.Base) {
				t.Errorf("%v, %v share memory", e, other)
			}
		}
		for _, s := range bytes {
			if within(e.Call.Base, s) || within(e.Via.Base, s) {
				t.Errorf("%v shares memory with the bytes", e)
			}
		}
	}
	again[0] = Entry{Call: c("X")}
	again[7].Count = 99
	_ = append(again[:3], Entry{}, Entry{})
	w.same(t)
	w.must(t, ui(station(3)), 50)
	w.must(t, ui(station(30)), 51)
	w.clear(t)
	w.must(t, ui(station(31)), 52)
	if !slices.Equal(all, kept) {
		t.Errorf("what was answered is %v now; it was %v", all, kept)
	}
}
