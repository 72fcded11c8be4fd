package txq

import (
	"math"
	"math/rand"
	"slices"
	"strconv"
	"strings"
	"testing"

	"squelch/api"
)

// noClasses are numbers that no class has.
var noClasses = []int{math.MinInt, math.MinInt + 1, -1 << 32, -1<<32 + 1, -256, -3, -2, -1, 3, 4, 5, 8, 16, 255, 256, 257, 1 << 16, 1 << 32, 1<<32 + 1, 1<<32 + 2, math.MaxInt - 1, math.MaxInt}

// edges are numbers about the ends of int, and about 0.
var edges = []int{math.MinInt, math.MinInt + 1, -1 << 32, -2, -1, 0, 1, 2, 1 << 32, math.MaxInt - 1, math.MaxInt}

// long is a frame of so many bytes.
func long(bytes int) string { return strings.Repeat("x", bytes) }

// entry is a frame that was put, in the model.
type entry struct {
	class, key int
	frame      string
}

// model is a queue in the document's words: a list of all that wait, as they came; their order is asked for anew each time.
type model struct{ came []entry }

func (m *model) clone() *model { return &model{slices.Clone(m.came)} }

// order is all that wait, the first one first.
func (m *model) order() []entry {
	var l []entry
	for _, class := range []int{0, 1, 2} {
		for _, x := range m.came {
			if x.class == class {
				l = append(l, x)
			}
		}
	}
	return l
}

func (m *model) all() []string {
	var l []string
	for _, x := range m.order() {
		l = append(l, x.frame)
	}
	return l
}

func (m *model) room(class int) int {
	if class != 0 && class != 1 && class != 2 {
		return 0
	}
	each, all := 8, 16
	for _, x := range m.came {
		all--
		if x.class == class {
			each--
		}
	}
	if all < each {
		return all
	}
	return each
}

func (m *model) count(key int) int {
	n := 0
	for _, x := range m.came {
		if x.key == key {
			n++
		}
	}
	return n
}

func (m *model) put(class, key int, frame string) api.Errno {
	if class != 0 && class != 1 && class != 2 {
		return api.ErrArg
	}
	if len(frame) > 333 {
		return api.ErrLong
	}
	if m.room(class) == 0 {
		return api.ErrFull
	}
	m.came = append(m.came, entry{class, key, frame})
	return api.OK
}

// take tries all numbers of first ones, the greatest first.
func (m *model) take(most, bytes int) []string {
	l := m.order()
	for n := len(l); n > 0; n-- {
		var frames []string
		for _, x := range l[:n] {
			frames = append(frames, x.frame)
		}
		if n <= most && (n == 1 || len(strings.Join(frames, "")) <= bytes) {
			m.came = l[n:]
			return frames
		}
	}
	return nil
}

func (m *model) drop(l []int) int {
	was := len(m.came)
	for _, key := range l {
		m.came = slices.DeleteFunc(m.came, func(x entry) bool { return x.key == key })
	}
	return was - len(m.came)
}

// want says whether in a queue waits what waits in the model, for keys that may wait or not, too.
func (m *model) want(t *testing.T, q *Queue, keys ...int) {
	t.Helper()
	if l := q.All(); !slices.Equal(l, m.all()) {
		t.Fatalf("All: %q; want %q", l, m.all())
	}
	if n := q.Len(); n != len(m.came) {
		t.Fatalf("Len: %d; want %d", n, len(m.came))
	}
	for class := -2; class < 6; class++ {
		if n := q.Room(class); n != m.room(class) {
			t.Fatalf("Room(%d): %d; want %d", class, n, m.room(class))
		}
	}
	keys = slices.Clone(keys) // a caller's list may have room behind its end
	for _, x := range m.came {
		keys = append(keys, x.key)
	}
	for _, key := range keys {
		if n := q.Count(key); n != m.count(key) {
			t.Fatalf("Count(%d): %d; want %d", key, n, m.count(key))
		}
	}
}

// twin is a queue, and the model of it.
type twin struct {
	q *Queue
	m *model
}

func newTwin() twin { return twin{New(), &model{}} }

func (w twin) put(t *testing.T, class, key int, frame string) {
	t.Helper()
	if got, want := w.q.Put(class, key, frame), w.m.put(class, key, frame); got != want {
		t.Fatalf("Put(%d, %d, %d bytes): %d; want %d", class, key, len(frame), got, want)
	}
	w.m.want(t, w.q, key)
}

func (w twin) take(t *testing.T, most, bytes int) {
	t.Helper()
	was := w.m.all()
	if got, want := w.q.Take(most, bytes), w.m.take(most, bytes); !slices.Equal(got, want) {
		t.Fatalf("Take(%d, %d) of %q: %q; want %q", most, bytes, was, got, want)
	}
	w.m.want(t, w.q)
}

func (w twin) drop(t *testing.T, l ...int) {
	t.Helper()
	if got, want := w.q.Drop(l...), w.m.drop(l); got != want {
		t.Fatalf("Drop(%d): %d; want %d", l, got, want)
	}
	w.m.want(t, w.q, l...)
}

// fill lets so many frames wait of each class, told apart by what they have, with keys from 0 to 4; the classes come in turn.
func fill(t *testing.T, first, second, third int) twin {
	t.Helper()
	w := newTwin()
	left := []int{third, first, second}
	for i := 0; slices.Max(left) > 0; i++ {
		if left[i%3] > 0 {
			left[i%3]--
			w.put(t, (i+2)%3, i%5, "frame "+strconv.Itoa(i))
		}
	}
	return w
}

// fulls calls f with all numbers of frames of each class of which a queue has room for all.
func fulls(f func(first, second, third int)) {
	for first := range 9 {
		for second := range 9 {
			for third := range min(9, 17-first-second) {
				f(first, second, third)
			}
		}
	}
}

// P16.1: the limit is the one that the document names.
func TestP161Limit(t *testing.T) {
	if MaxEach != 8 {
		t.Error(MaxEach)
	}
}

// P16.1: the document's example.
func TestP161Example(t *testing.T) {
	q := New()
	if q.Put(2, 1, "last") != api.OK || q.Put(0, 1, "first") != api.OK {
		t.Error("Put")
	}
	for _, want := range [][]string{{"first"}, {"last"}, nil} {
		if l := q.Take(1, 99); !slices.Equal(l, want) {
			t.Errorf("%q; want %q", l, want)
		}
	}
}

// P16.1: in a new queue nothing waits, and nothing comes of that.
func TestP161New(t *testing.T) {
	for _, q := range []*Queue{New(), {}} {
		if q == nil {
			t.Fatal("no queue")
		}
		w := twin{q, &model{}}
		for _, n := range edges {
			w.take(t, n, n)
			w.drop(t, n)
		}
		w.drop(t)
		w.m.want(t, q, edges...)
		if q.Room(0) != 8 || q.Room(1) != 8 || q.Room(2) != 8 {
			t.Error("Room")
		}
		w.put(t, 0, 0, "")
		w.take(t, 1, 0)
	}
}

// P16.1: the classes go one behind the other, and those of one as they came, in whatever order they were put.
func TestP161Order(t *testing.T) {
	orders := [][]int{nil}
	for at := 0; at < len(orders); at++ {
		w := newTwin()
		for i, class := range orders[at] {
			w.put(t, class, 0, string(rune('a'+i)))
		}
		for range 7 {
			w.take(t, 1, 0)
		}
		for class := 0; class < 3 && len(orders[at]) < 6; class++ {
			orders = append(orders, append(slices.Clone(orders[at]), class))
		}
	}
}

// P16.1: neither the key nor the length nor what a frame has changes the order.
func TestP161OrderAlone(t *testing.T) {
	q := New()
	want := []string{"z", "", "a", "\x00", "zz", "a", "b", long(333)}
	for i, frame := range want {
		if e := q.Put(1, -i*i, frame); e != api.OK {
			t.Error(e)
		}
	}
	if l := q.All(); !slices.Equal(l, want) {
		t.Errorf("All: %q", l)
	}
	if l := q.Take(99, 9999); !slices.Equal(l, want) {
		t.Errorf("Take: %q", l)
	}
}

// P16.1: a class that there is not is ErrArg, whatever else is wrong; nothing is changed.
func TestP161PutClass(t *testing.T) {
	for _, w := range []twin{newTwin(), fill(t, 1, 2, 3), fill(t, 8, 8, 0)} {
		for _, class := range noClasses {
			for _, frame := range []string{"", "x", long(333), long(334)} {
				if e := w.q.Put(class, 0, frame); e != api.ErrArg {
					t.Errorf("Put(%d, ..): %d", class, e)
				}
				w.put(t, class, 0, frame)
			}
			if n := w.q.Room(class); n != 0 {
				t.Errorf("Room(%d): %d", class, n)
			}
		}
	}
}

// P16.1: a frame has at most MaxFrame bytes and 2; a longer one is ErrLong, even if there is no room.
func TestP161PutLong(t *testing.T) {
	for class := range 3 {
		for _, x := range []struct {
			bytes int
			want  api.Errno
		}{{0, api.OK}, {1, api.OK}, {255, api.OK}, {256, api.OK}, {331, api.OK}, {332, api.OK}, {333, api.OK}, {334, api.ErrLong}, {335, api.ErrLong}, {589, api.ErrLong}, {1 << 16, api.ErrLong}, {1<<16 + 1, api.ErrLong}} {
			w := newTwin()
			if e := New().Put(class, 0, long(x.bytes)); e != x.want {
				t.Errorf("Put(%d, 0, %d bytes): %d; want %d", class, x.bytes, e, x.want)
			}
			w.put(t, class, 0, long(x.bytes))
		}
		w := fill(t, 8, 0, 8)
		if e := w.q.Put(class, 0, long(334)); e != api.ErrLong {
			t.Errorf("Put(%d, 0, 334 bytes) into a full one: %d", class, e)
		}
		w.put(t, class, 0, long(334))
	}
}

// P16.1: bytes are counted, not letters, and any of them may stand in a frame.
func TestP161PutBytes(t *testing.T) {
	w := newTwin()
	w.put(t, 0, 0, strings.Repeat("é", 166)+"x")
	w.put(t, 0, 0, strings.Repeat("é", 167))
	w.put(t, 1, 0, "\x00\xff\xc0\xdb\n\xc3")
	if w.q.Len() != 2 || w.q.Take(1, 332)[0] != strings.Repeat("é", 166)+"x" || w.q.Take(1, 9)[0] != "\x00\xff\xc0\xdb\n\xc3" {
		t.Error("bytes")
	}
}

// P16.1: how many have room in all, and of each class, for all numbers that may wait.
func TestP161Room(t *testing.T) {
	fulls(func(first, second, third int) {
		w := fill(t, first, second, third)
		for class, n := range []int{first, second, third} {
			room := min(8-n, 16-first-second-third)
			if got := w.q.Room(class); got != room {
				t.Fatalf("Room(%d) with %d, %d, %d: %d; want %d", class, first, second, third, got, room)
			}
		}
	})
}

// P16.1: as many more of a class wait as Room says; then ErrFull, and nothing is changed.
func TestP161Full(t *testing.T) {
	fulls(func(first, second, third int) {
		for class := range 3 {
			w := fill(t, first, second, third)
			for range w.q.Room(class) {
				if e := w.q.Put(class, 9, "more"); e != api.OK {
					t.Fatalf("Put(%d, ..) beside %d, %d, %d: %d", class, first, second, third, e)
				}
			}
			was := w.q.All()
			if e := w.q.Put(class, 9, "too many"); e != api.ErrFull || w.q.Room(class) != 0 || !slices.Equal(w.q.All(), was) {
				t.Fatalf("Put(%d, ..) without room: %d", class, e)
			}
		}
	})
}

// P16.1: what waits no more leaves its room.
func TestP161RoomAgain(t *testing.T) {
	for _, w := range []twin{fill(t, 8, 8, 0), fill(t, 0, 8, 8), fill(t, 8, 0, 8), fill(t, 5, 5, 6), fill(t, 8, 0, 0)} {
		for i := range 60 {
			if i%4 == 1 {
				w.drop(t, i%5)
			} else if i%4 == 3 {
				w.take(t, i%3, 20)
			}
			for class := range 3 {
				w.put(t, class, i%5, strconv.Itoa(i))
			}
		}
	}
}

// P16.1: a key is any number, and no other one.
func TestP161Keys(t *testing.T) {
	w := newTwin()
	for i, key := range edges {
		w.put(t, i%3, key, strconv.Itoa(key))
	}
	for _, key := range edges {
		if n := w.q.Count(key); n != 1 {
			t.Errorf("Count(%d): %d", key, n)
		}
		if w.drop(t, key); w.q.Count(key) != 0 {
			t.Errorf("%d is still there", key)
		}
	}
	if w.q.Len() != 0 {
		t.Error(w.q.All())
	}
}

// P16.1: those with a key are counted in all classes.
func TestP161Count(t *testing.T) {
	q := New()
	for i, key := range []int{7, 0, 7, -7, 7, 7, 1<<32 + 7, 0} {
		q.Put(i%3, key, "same")
	}
	for _, x := range [][2]int{{7, 4}, {0, 2}, {-7, 1}, {1<<32 + 7, 1}, {1 << 32, 0}, {1, 0}, {2, 0}, {8, 0}} {
		if n := q.Count(x[0]); n != x[1] {
			t.Errorf("Count(%d): %d; want %d", x[0], n, x[1])
		}
	}
}

// P16.1: Take, by words: how many, how many bytes, and the first one that may have more.
func TestP161Take(t *testing.T) {
	a, b, c, d := long(10), long(20), long(5), "d"
	for _, x := range []struct {
		most, bytes, want int
	}{
		{4, 36, 4}, {4, 37, 4}, {4, 99, 4}, {99, 99, 4}, {5, 36, 4},
		{3, 99, 3}, {2, 99, 2}, {1, 99, 1}, {0, 99, 0}, {-1, 99, 0}, {math.MinInt, math.MaxInt, 0}, {math.MinInt, math.MinInt, 0},
		{4, 35, 3}, {4, 34, 2}, {4, 30, 2},
		{4, 29, 1}, {4, 16, 1}, {4, 15, 1}, {4, 11, 1}, {4, 10, 1}, {4, 9, 1}, {4, 1, 1}, {4, 0, 1}, {4, -1, 1}, {4, math.MinInt, 1},
		{1, 0, 1}, {1, -1, 1}, {1, math.MinInt, 1}, {0, 0, 0}, {0, -1, 0},
		{3, 30, 2}, {2, 30, 2}, {1, 30, 1}, {math.MaxInt, math.MaxInt, 4}, {math.MaxInt, 35, 3}, {2, math.MaxInt, 2}, {1 << 32, 1 << 32, 4}, {1<<32 + 1, 1<<32 + 1, 4},
	} {
		w := newTwin()
		w.put(t, 2, 1, d)
		w.put(t, 0, 2, a)
		w.put(t, 1, 3, b)
		w.put(t, 1, 4, c)
		all := []string{a, b, c, d}
		if l := w.q.Take(x.most, x.bytes); !slices.Equal(l, all[:x.want]) || !slices.Equal(w.q.All(), all[x.want:]) {
			t.Errorf("Take(%d, %d): %q, %q wait; want %d", x.most, x.bytes, l, w.q.All(), x.want)
		}
		w.m.take(x.most, x.bytes)
		w.m.want(t, w.q, 1, 2, 3, 4)
	}
}

// P16.1: nothing goes ahead of a frame that has no room, however short, of whatever class.
func TestP161TakeNoneAhead(t *testing.T) {
	q := New()
	for i, frame := range []string{"aa", "bbbbbb", "c", "", "d"} {
		q.Put(i/2, i, frame)
	}
	for _, want := range [][]string{{"aa"}, {"bbbbbb"}, {"c", "", "d"}} {
		if l := q.Take(9, 5); !slices.Equal(l, want) {
			t.Errorf("%q; want %q", l, want)
		}
	}
}

// P16.1: frames without bytes count as frames.
func TestP161TakeEmpty(t *testing.T) {
	for most := -1; most < 7; most++ {
		for bytes := -2; bytes < 4; bytes++ {
			w := newTwin()
			for i, frame := range []string{"", "", "x", "", ""} {
				w.put(t, i/2, i, frame)
			}
			for range 6 {
				w.take(t, most, bytes)
			}
		}
	}
	q := New()
	q.Put(0, 0, "")
	q.Put(0, 0, "")
	if l := q.Take(9, -1); len(l) != 1 {
		t.Errorf("Take(9, -1): %q", l)
	}
	if l := q.Take(9, 0); len(l) != 1 || q.Len() != 0 {
		t.Errorf("Take(9, 0): %q", l)
	}
}

// P16.1: all numbers of frames and of bytes, of the longest frames, until none waits.
func TestP161TakeLongest(t *testing.T) {
	for most := range 18 {
		for n := range 18 {
			for _, bytes := range []int{333*n - 1, 333 * n, 333*n + 1} {
				w := newTwin()
				for i := range 16 {
					w.put(t, i%3, i, long(333))
				}
				w.take(t, most, bytes)
				w.take(t, most, bytes)
			}
		}
	}
}

// P16.1: what was taken comes no more, and what comes behind it goes in its order.
func TestP161TakeOn(t *testing.T) {
	w := fill(t, 3, 3, 3)
	for i := range 40 {
		w.take(t, 1+i%3, 30)
		w.put(t, (i*7+1)%3, i, "next "+strconv.Itoa(i))
		w.put(t, i%3, i, "other "+strconv.Itoa(i))
	}
	w.take(t, 99, 9999)
	if w.q.Len() != 0 {
		t.Error(w.q.All())
	}
}

// P16.1: all with some keys wait no more, each counted once; the others stay in order.
func TestP161Drop(t *testing.T) {
	for _, x := range []struct {
		l    []int
		want int
		left string
	}{
		{nil, 0, "abcdefgh"},
		{[]int{}, 0, "abcdefgh"},
		{[]int{9}, 0, "abcdefgh"},
		{[]int{-1, 1 << 32, 1<<32 + 1, math.MinInt}, 0, "abcdefgh"},
		{[]int{0}, 3, "bdegh"},
		{[]int{1}, 3, "acdfg"},
		{[]int{2}, 2, "abcefh"},
		{[]int{1, 1, 1}, 3, "acdfg"},
		{[]int{2, 0}, 5, "beh"},
		{[]int{0, 9, 2, 0}, 5, "beh"},
		{[]int{1, 0, 2}, 8, ""},
		{[]int{2, 2, -1, 0, 1}, 8, ""},
	} {
		w := newTwin()
		for i, frame := range "abcdefgh" {
			w.put(t, i/3, []int{0, 1, 0, 2, 1, 0, 2, 1}[i], string(frame))
		}
		w.m.drop(x.l)
		if n := w.q.Drop(x.l...); n != x.want || strings.Join(w.q.All(), "") != x.left {
			t.Errorf("Drop(%d): %d, %q wait; want %d, %q", x.l, n, w.q.All(), x.want, x.left)
		}
		w.m.want(t, w.q, x.l...)
		if n := w.q.Drop(x.l...); n != 0 {
			t.Errorf("Drop(%d) again: %d", x.l, n)
		}
	}
}

// P16.1: long lists of keys, in which those that wait stand anywhere.
func TestP161DropMany(t *testing.T) {
	r := rand.New(rand.NewSource(161))
	for range 100 {
		w := fill(t, 5, 5, 6)
		l := []int{0, 1, 2, 3, 4}
		for i := range 3000 {
			l = append(l, 100+i)
		}
		r.Shuffle(len(l), func(i, k int) { l[i], l[k] = l[k], l[i] })
		if l = l[:r.Intn(len(l)+1)]; w.q.Drop(l...) != w.m.drop(l) {
			t.Fatal("Drop")
		}
		w.m.want(t, w.q, 0, 1, 2, 3, 4)
	}
}

// P16.1: what is asked changes nothing, however often.
func TestP161Asked(t *testing.T) {
	w := fill(t, 2, 5, 8)
	for range 100 {
		w.m.want(t, w.q, edges...)
	}
	w.take(t, 99, 9999)
}

// steps are all kinds of things that may be done to a queue.
func steps() []func(t *testing.T, w twin) {
	var l []func(t *testing.T, w twin)
	for class := range 3 {
		l = append(l, func(t *testing.T, w twin) { w.put(t, class, class/2, strconv.Itoa(len(w.m.came))) })
	}
	for _, bytes := range []int{1, 2, 9} {
		l = append(l, func(t *testing.T, w twin) { w.take(t, 2, bytes) })
	}
	for key := range 2 {
		l = append(l, func(t *testing.T, w twin) { w.drop(t, key) })
	}
	return append(l,
		func(t *testing.T, w twin) { w.put(t, 3, 0, "") },
		func(t *testing.T, w twin) { w.put(t, 0, 0, long(334)) })
}

// P16.1: all that is done, in every order of up to four steps.
func TestP161Orders(t *testing.T) {
	l := steps()
	orders := [][]int{nil}
	for at := 0; at < len(orders); at++ {
		w := newTwin()
		for _, i := range orders[at] {
			l[i](t, w)
		}
		w.take(t, 99, 99)
		for i := 0; i < len(l) && len(orders[at]) < 4; i++ {
			orders = append(orders, append(slices.Clone(orders[at]), i))
		}
	}
}

// P16.1: all that is done, in many random orders, with queues that are full for the most part, and with others.
func TestP161Random(t *testing.T) {
	r := rand.New(rand.NewSource(16))
	for round := range 300 {
		w, most, puts := newTwin(), []int{3, 60, 333}[round%3], 8+round%4*3
		for i := range 300 {
			switch x := r.Intn(20); {
			case x == 19:
				w.drop(t, r.Intn(6), r.Intn(6))
			case x == 18:
				w.put(t, noClasses[r.Intn(len(noClasses))], i, long(r.Intn(400)))
			case x < puts:
				w.put(t, r.Intn(3), r.Intn(6), strconv.Itoa(i)+long(r.Intn(most)))
			default:
				w.take(t, r.Intn(8)-1, r.Intn(4*most)-2)
			}
		}
	}
}

// P16.1: a nil queue answers ErrArg, nothing, 0, whatever it is told.
func TestP161Nil(t *testing.T) {
	var q *Queue
	for _, class := range append([]int{0, 1, 2}, noClasses...) {
		for _, frame := range []string{"", "x", long(333), long(334)} {
			if e := q.Put(class, 0, frame); e != api.ErrArg {
				t.Errorf("Put(%d, ..): %d", class, e)
			}
		}
		if n := q.Room(class); n != 0 {
			t.Errorf("Room(%d): %d", class, n)
		}
	}
	for _, n := range edges {
		if len(q.Take(n, n)) != 0 || len(q.Take(1, n)) != 0 || q.Drop(n) != 0 || q.Count(n) != 0 {
			t.Errorf("%d of a nil queue", n)
		}
	}
	if q.Drop() != 0 || q.Len() != 0 || len(q.All()) != 0 {
		t.Error("a nil queue has something")
	}
}

// spoil writes into all of a list, and into what it has room for.
func spoil(l []string) {
	l = l[:cap(l)]
	for i := range l {
		l[i] = "spoilt"
	}
}

// P16.1: what is answered shares no memory with what is kept, nor with another answer.
func TestP161Memory(t *testing.T) {
	w := fill(t, 5, 5, 6)
	var told [][]string
	for i := range 30 {
		spoil(w.q.All())
		w.m.want(t, w.q)
		l := w.q.Take(1+i%3, 99)
		w.m.take(1+i%3, 99)
		spoil(l)
		told = append(told, l[:cap(l)])
		w.m.want(t, w.q)
		for class := range 3 {
			w.put(t, class, i, strconv.Itoa(i))
		}
	}
	for _, l := range told {
		if slices.ContainsFunc(l, func(frame string) bool { return frame != "spoilt" }) {
			t.Fatal("an answer was written into")
		}
	}
}

// P16.1: no list of keys is written into, nor kept.
func TestP161ListIsLeft(t *testing.T) {
	w := fill(t, 5, 5, 6)
	list := []int{4, 0, 0, 9, 2}
	w.drop(t, list[:4]...)
	if !slices.Equal(list, []int{4, 0, 0, 9, 2}) {
		t.Error(list)
	}
	clear(list)
	w.put(t, 0, 4, "four")
	w.put(t, 0, 0, "none")
	w.m.want(t, w.q, 0, 4)
}

// P16.1: a queue's calls touch no other queue.
func TestP161Apart(t *testing.T) {
	a, b := fill(t, 3, 4, 5), fill(t, 3, 4, 5)
	a.take(t, 2, 99)
	a.drop(t, 1, 2)
	a.put(t, 0, 7, "a's")
	b.m.want(t, b.q, 7)
	b.take(t, 99, 999)
	a.m.want(t, a.q, 7)
}
