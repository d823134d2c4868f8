package ring

import (
	"math"
	"math/rand"
	"slices"
	"strconv"
	"testing"
	"unsafe"

	"noggin/api"
)

// pair is a struct that has no memory beside itself.
type pair struct {
	a int
	b string
}

// waiting is a struct that has some.
type waiting struct {
	event api.Event
	at    int64
}

func newRing[T any](t *testing.T, room int) *Ring[T] {
	t.Helper()
	r, err := New[T](room)
	if err != nil || r == nil {
		t.Fatalf("New(%d) = %v, %v", room, r, err)
	}
	return r
}

// turned is an empty ring through which so many went.
func turned[T any](t *testing.T, room, many int, x T) *Ring[T] {
	t.Helper()
	r := newRing[T](t, room)
	for i := range many {
		if !r.Push(x) {
			t.Fatalf("room %d: Push %d of those that go through = false", room, i)
		}
		if _, is := r.Pop(); !is {
			t.Fatalf("room %d: Pop %d of those that go through tells none", room, i)
		}
	}
	return r
}

// filled is a ring with these in it, and through which so many went ahead of them.
func filled[T any](t *testing.T, room, many int, l ...T) *Ring[T] {
	t.Helper()
	var none T
	r := turned(t, room, many, none)
	pushAll(t, r, l...)
	return r
}

func pushAll[T any](t *testing.T, r *Ring[T], l ...T) {
	t.Helper()
	for i, x := range l {
		if !r.Push(x) {
			t.Fatalf("Push %d of %v = false", i, l)
		}
	}
}

// numbers are so many from a first one on.
func numbers(first, many int) []int {
	l := make([]int, many)
	for i := range l {
		l[i] = first + i
	}
	return l
}

// wantNone holds that there is none, each time that it is asked.
func wantNone[T any](t *testing.T, r *Ring[T], zero func(T) bool) {
	t.Helper()
	for range 3 {
		if x, is := r.Front(); is || !zero(x) {
			t.Errorf("Front() of none = %v, %v", x, is)
		}
		if x, is := r.Pop(); is || !zero(x) {
			t.Errorf("Pop() of none = %v, %v", x, is)
		}
		if n := r.Len(); n != 0 {
			t.Errorf("Len() of none = %d", n)
		}
	}
}

// wantAll holds that just these come out, and that there is none then.
func wantAll[T comparable](t *testing.T, name string, r *Ring[T], l ...T) {
	t.Helper()
	for i, want := range l {
		if n := r.Len(); n != len(l)-i {
			t.Errorf("%s: behind %d Pops Len() = %d, want %d", name, i, n, len(l)-i)
		}
		for range 2 {
			if x, is := r.Front(); x != want || !is {
				t.Errorf("%s: behind %d Pops Front() = %v, %v, want %v", name, i, x, is, want)
			}
		}
		if x, is := r.Pop(); x != want || !is {
			t.Errorf("%s: behind %d Pops Pop() = %v, %v, want %v", name, i, x, is, want)
		}
	}
	wantNone(t, r, zeroOf[T])
}

func zeroOf[T comparable](x T) bool {
	var none T
	return x == none
}

// wantRooms holds which rooms may be for a T, and that each ring is empty and has so much room.
func wantRooms[T any](t *testing.T, x T, zero func(T) bool) {
	t.Helper()
	for _, room := range []int{
		math.MinInt, math.MinInt + 1, -1 << 32, -api.MaxRing, -2, -1, 0,
		api.MaxRing + 1, 2 * api.MaxRing, 1 << 16, 1 << 32, 1<<32 + 1, math.MaxInt - 1, math.MaxInt,
	} {
		if r, err := New[T](room); r != nil || err != api.ErrArg {
			t.Errorf("New(%d) = %v, %v, want nil, %v", room, r, err, api.ErrArg)
		}
	}
	for _, room := range []int{1, 2, 3, 4, 255, 256, api.MaxRing - 1, api.MaxRing} {
		r := newRing[T](t, room)
		wantNone(t, r, zero)
		for n := range room {
			if !r.Push(x) || r.Len() != n+1 {
				t.Fatalf("room %d: Push %d is refused, or Len() = %d", room, n, r.Len())
			}
		}
		if r.Push(x) || r.Len() != room {
			t.Errorf("room %d: one more is in, Len() = %d", room, r.Len())
		}
	}
}

// P10.1, R3: which rooms may be, and the error itself, of types of every kind.
func TestNew(t *testing.T) {
	wantRooms(t, 7, zeroOf)
	wantRooms(t, byte(7), zeroOf)
	wantRooms(t, 0.5, zeroOf)
	wantRooms(t, true, zeroOf)
	wantRooms(t, "text", zeroOf)
	wantRooms(t, pair{1, "b"}, zeroOf)
	wantRooms(t, struct{}{}, zeroOf)
	wantRooms(t, [3]int{1, 2, 3}, zeroOf)
	wantRooms(t, new(int), zeroOf)
	wantRooms(t, make(chan int), zeroOf)
	wantRooms[any](t, []int{1}, func(x any) bool { return x == nil })
	wantRooms(t, error(api.ErrArg), zeroOf)
	wantRooms(t, []int{1, 2}, func(x []int) bool { return x == nil })
	wantRooms(t, map[int]int{1: 2}, func(x map[int]int) bool { return x == nil })
	wantRooms(t, func() {}, func(x func()) bool { return x == nil })
	wantRooms(t, waiting{api.Event{Name: "cpu", Tags: []api.Tag{{Key: "a", Value: "b"}}}, 5}, func(x waiting) bool {
		return x.event.Name == "" && x.event.Tags == nil && x.at == 0
	})
	wantRooms(t, newRing[int](t, 1), zeroOf)
}

// P1: a ring takes memory for what was put in, not for as many as there is room for, so that New ends at any T.
func TestGreatT(t *testing.T) {
	r := newRing[[1 << 20]byte](t, api.MaxRing)
	if cap(r.places) != 0 {
		t.Errorf("behind New there are %d places", cap(r.places))
	}
	for n := range 3 {
		r.Push([1 << 20]byte{0: byte(n), 1<<20 - 1: 7})
	}
	if cap(r.places) > 6 {
		t.Errorf("behind 3 Pushes there are %d places", cap(r.places))
	}
	for n := range 3 {
		if x, is := r.Pop(); !is || x[0] != byte(n) || x[1<<20-1] != 7 {
			t.Errorf("Pop() of the one numbered %d = %d .. %d, %v", n, x[0], x[1<<20-1], is)
		}
	}
}

// P10.1: the chapter's example.
func TestExample(t *testing.T) {
	r := newRing[int](t, 1)
	if !r.Push(5) || r.Push(6) {
		t.Error("of 5 and 6 the first one alone has room")
	}
	wantAll(t, "room 1", r, 5)
}

// P10.1, P10.2: at each room, from each place on, so many as there is room for are in, from none to all.
func TestFromEachPlace(t *testing.T) {
	for room := 1; room <= 6; room++ {
		for ahead := range 3*room + 1 {
			for many := range room + 1 {
				name := "room " + strconv.Itoa(room) + ", " + strconv.Itoa(ahead) + " ahead"
				r := turned(t, room, ahead, -1)
				for n, x := range numbers(1, many) {
					if r.Len() != n || !r.Push(x) || r.Len() != n+1 {
						t.Errorf("%s: Push of the one numbered %d is refused, or Len() = %d", name, n, r.Len())
					}
					if first, is := r.Front(); first != 1 || !is {
						t.Errorf("%s: behind %d Pushes Front() = %d, %v", name, n+1, first, is)
					}
				}
				wantAll(t, name, r, numbers(1, many)...)
				pushAll(t, r, numbers(50, many)...)
				wantAll(t, name+", again", r, numbers(50, many)...)
			}
		}
	}
}

// P10.1: one that is full takes no more, and all in it stay, each itself, however often it is tried.
func TestFull(t *testing.T) {
	for _, room := range []int{1, 2, 3, 4, 17, api.MaxRing - 1, api.MaxRing} {
		for _, ahead := range []int{0, 1, room - 1, room, room + 1} {
			name := "room " + strconv.Itoa(room) + ", " + strconv.Itoa(ahead) + " ahead"
			r := filled(t, room, ahead, numbers(1, room)...)
			for range 3 {
				if r.Push(-5) || r.Push(0) || r.Push(1) || r.Len() != room {
					t.Errorf("%s: one is in that has no room, Len() = %d", name, r.Len())
				}
			}
			wantAll(t, name, r, numbers(1, room)...)
		}
	}
}

// P10.1: behind a Pop of one that was full there is room for one, and it stands behind all.
func TestFullPoppedPushed(t *testing.T) {
	for _, room := range []int{1, 2, 3, 4, 17, api.MaxRing} {
		name := "room " + strconv.Itoa(room)
		r := filled(t, room, 0, numbers(0, room)...)
		for n := range 2*room + 3 {
			if r.Push(-5) {
				t.Fatalf("%s: in turn %d one is in that has no room", name, n)
			}
			if x, is := r.Pop(); x != n || !is || r.Len() != room-1 {
				t.Fatalf("%s: in turn %d Pop() = %d, %v, then Len() = %d", name, n, x, is, r.Len())
			}
			if !r.Push(room+n) || r.Push(-6) || r.Len() != room {
				t.Fatalf("%s: in turn %d there isn't room for just one, Len() = %d", name, n, r.Len())
			}
		}
		wantAll(t, name, r, numbers(2*room+3, room)...)
	}
}

// P10.1, R3: of none Front and Pop tell a zero T and false, also where some were in, and it takes some then.
func TestNone(t *testing.T) {
	for room := 1; room <= 4; room++ {
		for many := range room + 1 {
			for rounds := range 4 {
				r := newRing[string](t, room)
				for range rounds {
					pushAll(t, r, slices.Repeat([]string{"gone"}, many)...)
					wantAll(t, "emptied", r, slices.Repeat([]string{"gone"}, many)...)
				}
				wantNone(t, r, zeroOf)
				pushAll(t, r, "a")
				wantAll(t, "behind Pops of none", r, "a")
			}
		}
	}
	s := filled(t, 2, 1, []int{1}, []int{2})
	s.Pop()
	s.Pop()
	wantNone(t, s, func(x []int) bool { return x == nil })
	p := filled(t, 2, 1, new(int), new(int))
	p.Pop()
	p.Pop()
	wantNone(t, p, zeroOf)
	wantNone(t, turned(t, 3, 5, pair{1, "b"}), zeroOf)
}

// P10.1: Front takes nothing away, however often it is asked, from one, from some and from a full one.
func TestFront(t *testing.T) {
	for room := 1; room <= 4; room++ {
		for ahead := range 2 * room {
			for many := 1; many <= room; many++ {
				r := filled(t, room, ahead, numbers(7, many)...)
				for range 3 * room {
					if x, is := r.Front(); x != 7 || !is || r.Len() != many {
						t.Errorf("room %d, %d in: Front() = %d, %v, then Len() = %d", room, many, x, is, r.Len())
					}
				}
				if room == many && r.Push(1) {
					t.Errorf("room %d: Front made room", room)
				}
				wantAll(t, "asked", r, numbers(7, many)...)
			}
		}
	}
}

// P10.1: Pop takes just the first one away, and tells it.
func TestPop(t *testing.T) {
	r := filled(t, 4, 2, "a", "b", "c")
	if x, is := r.Pop(); x != "a" || !is {
		t.Errorf("Pop() = %q, %v", x, is)
	}
	if x, is := r.Front(); x != "b" || !is || r.Len() != 2 {
		t.Errorf("behind it Front() = %q, %v, Len() = %d", x, is, r.Len())
	}
	pushAll(t, r, "d", "e")
	if r.Push("f") {
		t.Error("five are in a room of four")
	}
	wantAll(t, "popped once", r, "b", "c", "d", "e")
}

// P10.1: zero values count as others do, and so does one that is pushed again.
func TestZeroAndAlike(t *testing.T) {
	wantAll(t, "zeros", filled(t, 3, 2, 0, 0, 0), 0, 0, 0)
	wantAll(t, "no text", filled(t, 3, 2, "", "a", ""), "", "a", "")
	wantAll(t, "no pair", filled(t, 2, 1, pair{}, pair{}), pair{}, pair{})
	wantAll(t, "nil", filled[any](t, 3, 2, nil, 1, nil), nil, 1, nil)
	wantAll(t, "alike", filled(t, 4, 3, 5, 5, 6, 5), 5, 5, 6, 5)
	wantAll(t, "of no size", filled(t, 2, 1, struct{}{}, struct{}{}), struct{}{}, struct{}{})
	x := new(int)
	wantAll(t, "one pointer", filled(t, 3, 1, x, x, x), x, x, x)
	r := filled(t, 2, 1, 0, 0)
	if r.Push(0) {
		t.Error("three zeros are in a room of two")
	}
	if x, is := r.Front(); x != 0 || !is {
		t.Errorf("Front() of a zero = %d, %v", x, is)
	}
}

// P10.2: many more than there is room for come out in the order in which they were pushed, each once, however many
// are in meanwhile.
func TestManyGoThrough(t *testing.T) {
	for room := 1; room <= 7; room++ {
		for in := 1; in <= room; in++ {
			r := newRing[int](t, room)
			for n := range 10*room + in {
				if !r.Push(n) {
					t.Fatalf("room %d, %d in: Push(%d) = false", room, in, n)
				}
				if n < in-1 {
					continue
				}
				if x, is := r.Pop(); x != n-in+1 || !is || r.Len() != in-1 {
					t.Fatalf("room %d: Pop() = %d, %v, want %d; then Len() = %d", room, x, is, n-in+1, r.Len())
				}
			}
			wantAll(t, "at the end", r, numbers(10*room+1, in-1)...)
		}
	}
}

// P10.2: as many as there is room for at once, in turn with as many out.
func TestAllInAllOut(t *testing.T) {
	for _, room := range []int{1, 2, 3, 10, api.MaxRing} {
		for _, in := range []int{1, (room + 1) / 2, room} {
			r := newRing[int](t, room)
			for round := range 7 {
				l := numbers(round*in, in)
				pushAll(t, r, l...)
				wantAll(t, "round "+strconv.Itoa(round), r, l...)
			}
		}
	}
}

// Rings are apart from each other, of one type and of several.
func TestSideBySide(t *testing.T) {
	one, other, texts := newRing[int](t, 2), newRing[int](t, 3), newRing[string](t, 2)
	for n := range 8 {
		pushAll(t, one, n, n+1)
		pushAll(t, other, -n)
		pushAll(t, texts, strconv.Itoa(n))
		if one.Push(9) || one.Len() != 2 || other.Len() != 1 || texts.Len() != 1 {
			t.Errorf("Len() = %d, %d, %d", one.Len(), other.Len(), texts.Len())
		}
		pushAll(t, other, -n-1, -n-2)
		wantAll(t, "one", one, n, n+1)
		pushAll(t, one, 100)
		wantAll(t, "texts", texts, strconv.Itoa(n))
		wantAll(t, "the other", other, -n, -n-1, -n-2)
		wantAll(t, "one again", one, 100)
	}
}

// P10.1, R2: what comes out is what was put in: a list has its own memory, its length and its room.
func TestListsAreThemselves(t *testing.T) {
	l := [][]int{{1, 2}, nil, {}, make([]int, 1, 5), {3}}
	r := filled(t, 5, 3, l...)
	for i, want := range l {
		front, _ := r.Front()
		x, is := r.Pop()
		for _, got := range [][]int{front, x} {
			same := unsafe.SliceData(got) == unsafe.SliceData(want) && len(got) == len(want) && cap(got) == cap(want)
			if !is || !same || (got == nil) != (want == nil) {
				t.Errorf("list %d is %v, %v; put in was %v", i, got, is, want)
			}
		}
	}
	if !slices.Equal(l[0], []int{1, 2}) || !slices.Equal(l[4], []int{3}) {
		t.Errorf("the lists are %v now", l)
	}
}

// P10.1, R2: pointers, functions, maps and what lies in an interface come out themselves.
func TestPointersAreThemselves(t *testing.T) {
	x, y := &pair{1, "a"}, &pair{1, "a"}
	wantAll(t, "pointers", filled(t, 4, 2, x, y, nil, x), x, y, nil, x)
	wantAll[any](t, "any", filled[any](t, 4, 3, x, 1, "a", y), x, 1, "a", y)
	if *x != (pair{1, "a"}) || *y != (pair{1, "a"}) {
		t.Errorf("what they point to is %v and %v now", *x, *y)
	}
	called := 0
	f := filled(t, 1, 1, func() { called++ })
	do, is := f.Pop()
	if do == nil || !is {
		t.Fatal("Pop() tells no function")
	}
	do()
	m := map[int]int{1: 2}
	maps := filled(t, 2, 1, m)
	out, _ := maps.Pop()
	out[3] = 4
	if called != 1 || m[3] != 4 {
		t.Errorf("called %d times, the map is %v", called, m)
	}
	inner := newRing[int](t, 1)
	wantAll(t, "rings", filled(t, 2, 1, inner, nil), inner, nil)
	nan := filled(t, 2, 1, math.NaN(), math.Copysign(0, -1))
	a, _ := nan.Pop()
	b, _ := nan.Pop()
	if !math.IsNaN(a) || b != 0 || !math.Signbit(b) {
		t.Errorf("NaN and -0 come out as %v and %v", a, b)
	}
}

// P10.1, R2: values are in by themselves, so that what is done to those outside changes nothing.
func TestValuesAreApart(t *testing.T) {
	in := [3]int{1, 2, 3}
	r := filled(t, 2, 1, in, in)
	in[0] = 9
	front, _ := r.Front()
	front[1] = 9
	wantAll(t, "arrays", r, [3]int{1, 2, 3}, [3]int{1, 2, 3})
	w := waiting{api.Event{Name: "cpu", Tags: []api.Tag{{Key: "a", Value: "b"}}, Kind: api.Count, Value: 5}, 7}
	q := filled(t, 2, 1, w)
	w.event.Name, w.at = "mem", 8
	if x, is := q.Pop(); !is || x.event.Name != "cpu" || x.at != 7 || len(x.event.Tags) != 1 {
		t.Errorf("Pop() = %v, %v", x, is)
	}
}

// What was popped is given up: its place doesn't keep the memory of what it points to.
func TestGoneTakesNoMemory(t *testing.T) {
	for room := 1; room <= 4; room++ {
		r := newRing[*int](t, room)
		for n := range 1000 {
			pushAll(t, r, new(int))
			if n%room == 0 {
				for r.Len() > 0 {
					r.Pop()
				}
			}
			kept := 0
			for _, x := range r.places[:cap(r.places)] {
				if x != nil {
					kept++
				}
			}
			if kept != r.Len() || cap(r.places) > 2*room {
				t.Fatalf("room %d: %d are in, %d are kept, %d places", room, r.Len(), kept, cap(r.places))
			}
		}
	}
}

// byWords is a ring by the chapter's words: a list from which the first one is taken.
type byWords struct {
	room int
	row  []int
}

func (w *byWords) Push(x int) bool {
	if len(w.row) >= w.room {
		return false
	}
	w.row = append(slices.Clone(w.row), x)
	return true
}

func (w *byWords) Front() (int, bool) {
	for _, x := range w.row {
		return x, true
	}
	return 0, false
}

func (w *byWords) Pop() (int, bool) {
	x, is := w.Front()
	if is {
		w.row = w.row[1:]
	}
	return x, is
}

// wantAlike does one deed with both, and holds that both tell the same.
func wantAlike(t *testing.T, r *Ring[int], w *byWords, push bool, x int) {
	t.Helper()
	if push {
		if got, want := r.Push(x), w.Push(x); got != want {
			t.Fatalf("room %d, %d in: Push(%d) = %v", w.room, len(w.row), x, got)
		}
	} else {
		got, is := r.Pop()
		if want, has := w.Pop(); got != want || is != has {
			t.Fatalf("room %d: Pop() = %d, %v, want %d, %v", w.room, got, is, want, has)
		}
	}
	got, is := r.Front()
	if want, has := w.Front(); got != want || is != has || r.Len() != len(w.row) {
		t.Fatalf("room %d: Front() = %d, %v, want %d, %v; Len() = %d, want %d", w.room, got, is, want, has, r.Len(), len(w.row))
	}
}

// P10.1, P10.2: all rows of a dozen Pushes and Pops, at rooms from 1 to 5.
func TestAllRowsOfDeeds(t *testing.T) {
	const deeds = 12
	for room := 1; room <= 5; room++ {
		for way := range 1 << deeds {
			r, w := newRing[int](t, room), &byWords{room: room}
			for n := range deeds {
				wantAlike(t, r, w, way>>n&1 == 1, n+1)
			}
		}
	}
}

// P10.1, P10.2, P1: very many deeds, by which it is full at times and empty at others.
func TestAtRandom(t *testing.T) {
	rnd := rand.New(rand.NewSource(10))
	for _, room := range []int{1, 2, 3, 5, 8, 63, 64, 65, 100, api.MaxRing - 1, api.MaxRing} {
		r, w := newRing[int](t, room), &byWords{room: room}
		full, empty := 0, 0
		for n := range 20 * room {
			rising := n/(2*room)%2 == 0
			for range 3 {
				wantAlike(t, r, w, rising == (rnd.Intn(10) > 0), rnd.Int())
			}
			if r.Len() == room {
				full++
			}
			if r.Len() == 0 {
				empty++
			}
		}
		if full == 0 || empty == 0 {
			t.Errorf("room %d: full %d times, empty %d times", room, full, empty)
		}
	}
}
