package sender

import (
	"math"
	"math/rand"
	"slices"
	"strconv"
	"testing"

	"noggin/api"
	"noggin/backoff"
	"noggin/batch"
	"noggin/disk"
	"noggin/fuse"
	"noggin/spill"
)

// last is the greatest tick, mostWait the greatest cap, mostBorne and mostPause the most that a fuse is made of.
const (
	last      = 1 << 40
	mostWait  = 1000000
	mostBorne = 1000
	mostPause = 1000000
)

// failing are the outcomes by which a batch isn't acked.
var failing = [...]int{api.Lost, api.Rejected, api.TimedOut}

// batchOf is the batch with a number, of a kind that is told by it.
func batchOf(seq int) api.Batch {
	b := api.Batch{Seq: seq}
	count := api.Row{Key: "a", Kind: api.Count, Many: 1}
	histo := api.Row{Key: "cpu,a=2,b=1", Kind: api.Histo, Many: 9, Buckets: []uint64{7, 0, 300}}
	switch seq % 6 {
	case 1:
		b.Start, b.Rows = 2, []api.Row{count}
	case 2:
		b.Start, b.Rows = api.MaxTime, []api.Row{count, histo}
	case 4:
		b.Start = 300
	case 5:
		b.Rows = []api.Row{{Key: "g", Kind: api.Gauge, Many: math.MaxUint64, Sum: math.MinInt64, Least: math.MinInt64,
			Most: math.MaxInt64, Over: true}}
	}
	return b
}

// bytesOf is that batch's bytes, of -1 none.
func bytesOf(t *testing.T, seq int) string {
	t.Helper()
	if seq < 0 {
		return ""
	}
	x, err := batch.Put(batchOf(seq))
	if err != nil {
		t.Fatalf("batch %d: Put = %v", seq, err)
	}
	return string(x)
}

// made is what a sender is made of, beside its spill.
type made struct{ base, limit, fails, pause int }

func (m made) text() string {
	return "base " + strconv.Itoa(m.base) + ", cap " + strconv.Itoa(m.limit) + ", bears " + strconv.Itoa(m.fails) +
		", pause " + strconv.Itoa(m.pause)
}

// may tells whether a sender may be made of that, by the words of layers 22 and 23.
func (m made) may() bool {
	wait := m.base >= 1 && m.base <= m.limit && m.limit <= mostWait
	return wait && m.fails >= 1 && m.fails <= mostBorne && m.pause >= 1 && m.pause <= mostPause
}

// wait is the wait behind one failure more than so many, by the words of layer 22: doubled twenty times the least base
// is above the greatest cap.
func (m made) wait(ahead, jitter int) int64 {
	full := int64(m.base) << min(ahead, 20)
	full = min(full, int64(m.limit))
	if jitter < 0 {
		jitter = 0
	}
	return full - int64(jitter)%(full/2+1)
}

// What is done, to a sender or to its spill and its disk by others.
const (
	tries = iota
	puts
	acks
	crashes
	comesUp
)

// deed is one call, and what is wanted of it: of a Try the number of the batch that is sent, -1 of none, the error, and
// At then.
type deed struct {
	does            int
	now             int64
	outcome, jitter int
	seq             int
	err             error
	at              int64
}

func put() deed { return deed{does: puts, seq: -1} }

// ack is one by another than the sender.
func ack() deed { return deed{does: acks, seq: -1} }

func crash() deed { return deed{does: crashes, seq: -1} }

func up() deed { return deed{does: comesUp, seq: -1} }

// lost is a Try that sends, but not well: each of the outcomes that aren't Acked stands for it in turn.
func lost(now int64, jitter, seq int, at int64) deed {
	return deed{now: now, outcome: api.Lost, jitter: jitter, seq: seq, at: at}
}

// acked is a Try that sends well.
func acked(now int64, seq int, at int64) deed { return deed{now: now, seq: seq, at: at} }

// none is a Try that sends nothing, whatever its outcome and its jitter.
func none(now, at int64) deed { return deed{now: now, seq: -1, at: at} }

// wrong is a Try that is ErrArg.
func wrong(now int64, outcome int, at int64) deed {
	return deed{now: now, outcome: outcome, seq: -1, err: api.ErrArg, at: at}
}

// but is a deed with an error.
func (d deed) but(err error) deed {
	d.err = err
	return d
}

// row is lists of deeds behind each other.
func row(l ...[]deed) []deed { return slices.Concat(l...) }

// alike is one deed, so often.
func alike(many int, d deed) []deed { return slices.Repeat([]deed{d}, many) }

func (d deed) text() string {
	switch d.does {
	case puts:
		return "Put"
	case acks:
		return "Ack by another"
	case crashes:
		return "Crash"
	case comesUp:
		return "Up"
	}
	return "Try(" + strconv.FormatInt(d.now, 10) + ", " + strconv.Itoa(d.outcome) + ", " + strconv.Itoa(d.jitter) + ")"
}

// unsent tells whether it is a Try that sends nothing.
func (d deed) unsent() bool { return d.does == tries && d.seq < 0 }

// byWords is a sender by the chapter's words, with what is put and acked by the words of the layers below. Of the wait
// and the fuse it keeps the ticks of the failures since one was acked: once there are as many as the fuse bears, each
// one that is sent is on trial, so that the last failure is the one that blew it.
type byWords struct {
	made
	many, room int
	had        int   // so many were put
	head       int   // so many are acked
	parts      []int // of the disk: the number of the first batch of each
	down       bool
	failed     []int64
	from       int64 // the tick ahead of which it doesn't try
}

// do does a deed, and tells it with what is wanted of it.
func (w *byWords) do(d deed) deed {
	d.seq, d.err = -1, nil
	switch d.does {
	case puts:
		d.err = w.put()
	case acks:
		d.err = w.ack()
	case crashes:
		w.down = true
	case comesUp:
		w.down = false
	case tries:
		d.seq, d.err = w.try(d)
		d.at = w.from
	}
	return d
}

func (w *byWords) put() error {
	switch {
	case w.had-w.head >= w.room:
		return api.ErrFull
	case w.down:
		return api.ErrGone
	}
	if n := len(w.parts); n == 0 || w.had-w.parts[n-1] >= w.many {
		w.parts = append(w.parts, w.had)
	}
	w.had++
	return nil
}

// ack acks the one at the head: where all of a part are acked, and it isn't the last one, it can't go while the disk is
// down.
func (w *byWords) ack() error {
	if w.had == w.head {
		return api.ErrState
	}
	w.head++
	for len(w.parts) > 1 && w.parts[1] <= w.head {
		if w.down {
			return api.ErrGone
		}
		w.parts = w.parts[1:]
	}
	return nil
}

// letsThrough tells whether the fuse does.
func (w *byWords) letsThrough(now int64) bool {
	n := len(w.failed)
	return n < w.fails || now-w.failed[n-1] >= int64(w.pause)
}

func (w *byWords) try(d deed) (int, error) {
	if d.now < 0 || d.now > last || d.outcome < 0 || d.outcome > 3 {
		return -1, api.ErrArg
	}
	if w.had == w.head || d.now < w.from || !w.letsThrough(d.now) {
		return -1, nil
	}
	seq := w.head
	if d.outcome == api.Acked {
		w.failed = nil
		return seq, w.ack()
	}
	w.from = d.now + w.wait(len(w.failed), d.jitter)
	w.failed = append(w.failed, d.now)
	return seq, nil
}

// rig is a sender on a spill on a disk.
type rig struct {
	d *disk.Disk
	s *spill.Spill
	x *Sender
}

func newSpill(t *testing.T, many, room int) (*disk.Disk, *spill.Spill) {
	t.Helper()
	d, err := disk.New(api.MaxDisk)
	if err != nil {
		t.Fatal(err)
	}
	s, err := spill.Open(d, many, room)
	if err != nil {
		t.Fatal(err)
	}
	return d, s
}

func newSender(t *testing.T, s *spill.Spill, m made) *Sender {
	t.Helper()
	x, err := New(s, m.base, m.limit, m.fails, m.pause)
	if err != nil || x == nil {
		t.Fatalf("%s: New = %v, %v", m.text(), x, err)
	}
	return x
}

func newRig(t *testing.T, m made, many, room int) *rig {
	t.Helper()
	d, s := newSpill(t, many, room)
	return &rig{d, s, newSender(t, s, m)}
}

// rigWith is one with so many batches put, a part each.
func rigWith(t *testing.T, m made, batches int) *rig {
	t.Helper()
	g := newRig(t, m, 1, 1000)
	wantDone(t, m.text(), g, alike(batches, put())...)
	return g
}

// wantAt asks twice: asking turns nothing.
func wantAt(t *testing.T, name string, x *Sender, at int64) {
	t.Helper()
	for range 2 {
		if is := x.At(); is != at {
			t.Errorf("%s: At() = %d, want %d", name, is, at)
		}
	}
}

// wantSpill holds that a spill has the batches from head up to had.
func wantSpill(t *testing.T, name string, s *spill.Spill, head, had int) {
	t.Helper()
	if s.Len() != had-head || s.Next() != had {
		t.Errorf("%s: Len() = %d, Next() = %d, want %d, %d", name, s.Len(), s.Next(), had-head, had)
	}
	b, x, is := s.Head()
	if is != (head < had) || is && (b.Seq != head || string(x) != bytesOf(t, head)) {
		t.Errorf("%s: Head() = %v, %q, %v, want batch %d of %d", name, b, x, is, head, had)
	}
}

// wantTry lets it try, and holds what it answers; what was told is written over then, as far as it has room.
func wantTry(t *testing.T, name string, g *rig, d deed) {
	t.Helper()
	x, sent, err := g.x.Try(d.now, d.outcome, d.jitter)
	if want := bytesOf(t, d.seq); string(x) != want || sent != (d.seq >= 0) || err != d.err {
		t.Errorf("%s: %s = %q, %v, %v, want %q, %v, %v", name, d.text(), x, sent, err, want, d.seq >= 0, d.err)
	}
	scribble(x)
}

func scribble(x []byte) {
	x = x[:cap(x)]
	for i := range x {
		x[i] ^= 0xff
	}
}

// wantDeed does it, and holds what it answers.
func wantDeed(t *testing.T, name string, g *rig, d deed) {
	t.Helper()
	var err error
	switch d.does {
	case tries:
		wantTry(t, name, g, d)
		return
	case puts:
		err = g.s.Put(batchOf(g.s.Next()))
	case acks:
		b, _, _ := g.s.Head()
		err = g.s.Ack(b.Seq)
	case crashes:
		g.d.Crash(0)
	case comesUp:
		g.d.Up()
	}
	if err != d.err {
		t.Errorf("%s: %s = %v, want %v", name, d.text(), err, d.err)
	}
}

// wantDone asks behind each; where nothing is sent, all outcomes are tried, with jitters of all kinds.
func wantDone(t *testing.T, name string, g *rig, l ...deed) {
	t.Helper()
	at := g.x.At()
	for i, d := range l {
		if d.does == tries {
			at = d.at
		}
		for _, one := range d.variants() {
			where := name + ": row " + strconv.Itoa(i)
			had := g.s.Next()
			head := had - g.s.Len()
			wantDeed(t, where, g, one)
			where += ": behind " + one.text()
			wantAt(t, where, g.x, at)
			wantSpill(t, where, g.s, head+one.acked(), had+one.put())
		}
	}
}

// acked is how many batches are acked by a deed.
func (d deed) acked() int {
	if d.does == acks && d.err != api.ErrState || d.does == tries && d.seq >= 0 && d.outcome == api.Acked {
		return 1
	}
	return 0
}

// put is how many batches are put by a deed.
func (d deed) put() int {
	if d.does == puts && d.err == nil {
		return 1
	}
	return 0
}

// variants are a deed that sends nothing with each outcome and jitters of all kinds, or just the deed.
func (d deed) variants() []deed {
	if !d.unsent() || d.err != nil {
		return []deed{d}
	}
	l := []deed{}
	for outcome := api.Acked; outcome <= api.TimedOut; outcome++ {
		for _, jitter := range []int{0, 1, 3, -1, math.MaxInt, math.MinInt} {
			d.outcome, d.jitter = outcome, jitter
			l = append(l, d)
		}
	}
	return l
}

// as is the deeds with another outcome for Lost.
func as(outcome int, l []deed) []deed {
	l = slices.Clone(l)
	for i := range l {
		if l[i].does == tries && l[i].outcome == api.Lost && l[i].err != api.ErrArg {
			l[i].outcome = outcome
		}
	}
	return l
}

// wantRow is that of a sender of its own, whatever number of batches a part has.
func wantRow(t *testing.T, m made, l ...deed) {
	t.Helper()
	for _, many := range []int{1, 2, 3, 100} {
		wantRowAt(t, m, many, l...)
	}
}

// wantRowAt is that of one with so many batches a part: asked ahead of the first one too; asked nothing but behind the
// last; without what sends nothing; by each of the outcomes that aren't Acked. And it is what the chapter's words lead
// to.
func wantRowAt(t *testing.T, m made, many int, l ...deed) {
	t.Helper()
	for _, outcome := range failing {
		l := as(outcome, l)
		name := m.text() + ", " + strconv.Itoa(many) + " a part"
		g := newRig(t, m, many, 1000)
		wantAt(t, name+": at its beginning", g.x, 0)
		wantDone(t, name, g, l...)
		bare, lean := newRig(t, m, many, 1000), newRig(t, m, many, 1000)
		words := byWords{made: m, many: many, room: 1000}
		for i, d := range l {
			at := name + ": row " + strconv.Itoa(i)
			wantDeed(t, at+", not asked", bare, d)
			if !d.unsent() {
				wantDeed(t, at+", with nothing that isn't sent", lean, d)
			}
			if is := words.do(d); is != d {
				t.Errorf("%s: by the words %s is %v, want %v", at, d.text(), is, d)
			}
		}
		for _, of := range []*rig{g, bare, lean} {
			wantAt(t, name+": at its end", of.x, words.from)
			wantSpill(t, name+": at its end", of.s, words.head, words.had)
		}
	}
}

// wantNew holds what New answers against the words of the chapter, and against layers 22 and 23.
func wantNew(t *testing.T, s *spill.Spill, m made) {
	t.Helper()
	x, err := New(s, m.base, m.limit, m.fails, m.pause)
	if s == nil || !m.may() {
		if x != nil || err != api.ErrArg {
			t.Errorf("%s: New = %v, %v, want nil, %v", m.text(), x, err, api.ErrArg)
		}
		return
	}
	if x == nil || err != nil {
		t.Errorf("%s: New = %v, %v", m.text(), x, err)
		return
	}
	wantAt(t, m.text()+": at its beginning", x, 0)
}

// edges are numbers at the ends of what New's may be, and far from them.
func edges() []int {
	return []int{math.MinInt, -mostWait, -1, 0, 1, 2, 999, 1000, 1001, 999999, 1000000, 1000001, math.MaxInt32,
		math.MaxInt - 1, math.MaxInt}
}

// outside are ticks that there aren't.
func outside() []int64 {
	return []int64{math.MinInt64, math.MinInt64 + 1, -last, math.MinInt32, -2, -1, last + 1, last + 2, last + mostPause,
		2 * last, math.MaxInt64 - 1, math.MaxInt64}
}

// others are outcomes that there aren't.
func others() []int {
	return []int{math.MinInt, math.MinInt32, -4, -3, -2, -1, 4, 5, 256, 257, math.MaxInt32, math.MaxInt - 1, math.MaxInt}
}

// mades are of all kinds: pauses that are shorter than the wait, as long, and longer.
func mades() []made {
	return []made{{1, 1, 1, 1}, {1, 4, 1, 3}, {2, 8, 2, 5}, {3, 20, 3, 1}, {5, 5, 1, 5}, {8, 9, 1, 3}, {2, 2, 1, 10},
		{7, 57, 4, 999}, {1, mostWait, 2, 7}, {mostWait, mostWait, 1, mostPause}, {1, 1, mostBorne, mostPause},
		{500, 999, mostBorne, 1}}
}

// P24.1, P1: what the wait is made of, by hand, the others right: the error of backoff.New, and no sender; or a sender.
func TestNewOfWaits(t *testing.T) {
	_, s := newSpill(t, 1, 1)
	rows := []struct {
		base, limit int
		may         bool
	}{
		{0, 10, false}, {1, 10, true}, {9, 10, true}, {10, 10, true}, {11, 10, false}, {-1, 10, false}, {0, 0, false},
		{0, 1, false}, {1, 1, true}, {2, 1, false}, {1, 0, false}, {-1, -1, false}, {1, -1, false},
		{1, 999999, true}, {1, 1000000, true}, {1, 1000001, false}, {999999, 1000000, true}, {1000000, 1000000, true},
		{1000001, 1000000, false}, {1000000, 1000001, false}, {1000001, 1000001, false},
		{math.MinInt, 10, false}, {math.MaxInt, 10, false}, {1, math.MinInt, false}, {1, math.MaxInt, false},
		{math.MinInt, math.MinInt, false}, {math.MaxInt, math.MaxInt, false}, {math.MinInt, math.MaxInt, false},
	}
	for _, r := range rows {
		for _, of := range [][2]int{{1, 1}, {2, 5}, {1000, 1000000}, {1, 1000000}, {1000, 1}} {
			m := made{r.base, r.limit, of[0], of[1]}
			if m.may() != r.may {
				t.Errorf("%s: by the words it may be: %v", m.text(), !r.may)
			}
			wantNew(t, s, m)
			x, err := New(s, m.base, m.limit, m.fails, m.pause)
			if _, want := backoff.New(m.base, m.limit); err != want || (x != nil) != r.may {
				t.Errorf("%s: New = %v, %v, want %v", m.text(), x, err, want)
			}
		}
	}
}

// P24.1, P1: what the fuse is made of, by hand, the others right: the error of fuse.New, and no sender; or a sender.
func TestNewOfFuses(t *testing.T) {
	_, s := newSpill(t, 1, 1)
	rows := []struct {
		fails, pause int
		may          bool
	}{
		{0, 1, false}, {1, 1, true}, {2, 1, true}, {-1, 1, false}, {999, 5, true}, {1000, 5, true}, {1001, 5, false},
		{1, 0, false}, {1, 2, true}, {1, -1, false}, {0, 0, false}, {1000, 999999, true}, {1000, 1000000, true},
		{1000, 1000001, false}, {1, 1000000, true}, {1, 1000001, false}, {1001, 1000001, false}, {1000000, 1000, false},
		{math.MinInt, 5, false}, {math.MaxInt, 5, false}, {1, math.MinInt, false}, {1, math.MaxInt, false},
		{math.MinInt, math.MinInt, false}, {math.MaxInt, math.MaxInt, false},
	}
	for _, r := range rows {
		for _, of := range [][2]int{{1, 1}, {2, 8}, {1, 1000000}, {1000000, 1000000}} {
			m := made{of[0], of[1], r.fails, r.pause}
			if m.may() != r.may {
				t.Errorf("%s: by the words it may be: %v", m.text(), !r.may)
			}
			wantNew(t, s, m)
			x, err := New(s, m.base, m.limit, m.fails, m.pause)
			if _, want := fuse.New(m.fails, m.pause); err != want || (x != nil) != r.may {
				t.Errorf("%s: New = %v, %v, want %v", m.text(), x, err, want)
			}
		}
	}
}

// P24.1, P1: all of New's numbers at the edges at once, and at random, with a spill and without one.
func TestNewOfEdges(t *testing.T) {
	_, s := newSpill(t, 1, 1)
	for _, base := range edges() {
		for _, limit := range edges() {
			for _, fails := range edges() {
				for _, pause := range edges() {
					wantNew(t, s, made{base, limit, fails, pause})
					wantNew(t, nil, made{base, limit, fails, pause})
				}
			}
		}
	}
	rnd := rand.New(rand.NewSource(1))
	some := func() int { return int(rnd.Uint64()) >> rnd.Intn(64) }
	for range 20000 {
		wantNew(t, s, made{some(), some(), some(), some()})
	}
}

// P24.1: without a spill it is ErrArg itself, and no sender, whatever the numbers are.
func TestNewWithoutSpill(t *testing.T) {
	for _, m := range append(mades(), made{}, made{0, 1, 1, 1}, made{1, 0, 1, 1}, made{1, 1, 0, 1}, made{1, 1, 1, 0},
		made{math.MinInt, math.MinInt, math.MinInt, math.MinInt}, made{math.MaxInt, math.MaxInt, math.MaxInt, math.MaxInt}) {
		if x, err := New(nil, m.base, m.limit, m.fails, m.pause); x != nil || err != api.ErrArg {
			t.Errorf("%s: New = %v, %v, want nil, %v", m.text(), x, err, api.ErrArg)
		}
	}
}

// wrongMades are some of which no sender may be made.
func wrongMades() []made {
	return []made{{0, 8, 2, 5}, {9, 8, 2, 5}, {2, mostWait + 1, 2, 5}, {2, 8, 0, 5}, {2, 8, 1001, 5}, {2, 8, 2, 0},
		{2, 8, 2, mostPause + 1}, {}}
}

// P24.1, P24.3: New turns nothing of the spill and its disk, be it up or down, whether it fails or not.
func TestNewTurnsNoSpill(t *testing.T) {
	for _, down := range []bool{false, true} {
		g := rigWith(t, made{2, 8, 2, 5}, 4)
		wantDone(t, "ahead of New", g, acked(0, 0, 0))
		if down {
			g.d.Crash(0)
		}
		used, parts := g.d.Used(), g.d.Parts()
		for _, m := range append(wrongMades(), mades()...) {
			wantNew(t, g.s, m)
			wantSpill(t, m.text()+": behind New", g.s, 1, 4)
			if g.d.Used() != used || !slices.Equal(g.d.Parts(), parts) || down != (g.d.Sync(1) == api.ErrGone) {
				t.Errorf("%s: behind New the disk is another one", m.text())
			}
		}
	}
}

// P24.1: what was made ahead of a New, be it one that fails or not, goes on.
func TestNewTurnsNoOther(t *testing.T) {
	g := rigWith(t, made{2, 8, 2, 5}, 2)
	for _, d := range []deed{lost(0, 0, 0, 2), none(1, 2), lost(2, 0, 0, 6), none(6, 6), lost(7, 0, 0, 15),
		none(14, 15), acked(15, 0, 15), lost(15, 0, 1, 17), acked(17, 1, 17), none(18, 17)} {
		for _, m := range append(wrongMades(), made{2, 8, 2, 5}, made{1, 1, 1, 1}) {
			wantNew(t, g.s, m)
		}
		wantDone(t, "behind New", g, d)
	}
}

// P24.1, P24.2: the chapter's example: nothing at the head.
func TestExample(t *testing.T) {
	for _, m := range mades() {
		for _, now := range []int64{0, 1, 5, last - 1, last} {
			wantRow(t, m, none(now, 0))
		}
	}
}

// P24.2: by hand, each thing once: what is sent, the wait, the fuse, and the batch behind.
func TestByHand(t *testing.T) {
	m := made{2, 8, 2, 5}
	wantRow(t, m, put(), put(), lost(0, 0, 0, 2), none(1, 2), lost(2, 0, 0, 6), none(6, 6), lost(7, 0, 0, 15),
		none(14, 15), acked(15, 0, 15), lost(15, 0, 1, 17), acked(17, 1, 17), none(18, 17))
	g := rigWith(t, m, 2)
	x, sent, err := g.x.Try(0, api.Acked, 0)
	if string(x) != "\x00\x00\x00" || !sent || err != nil {
		t.Errorf("Try of batch 0 = %q, %v, %v", x, sent, err)
	}
	x, sent, err = g.x.Try(0, api.Acked, 0)
	if string(x) != "\x01\x02\x01\x01a\x01\x01\x00\x00\x00\x00\x00" || !sent || err != nil {
		t.Errorf("Try of batch 1 = %q, %v, %v", x, sent, err)
	}
}

// condition is a sender of some kind, with what leads to it, and At then. From the last tick on it may send.
type condition struct {
	name     string
	l        []deed
	at, from int64
}

// conditions are those of one with base 2, cap 8, that bears 2, and a pause of 20.
func conditions() []condition {
	return []condition{
		{"new", nil, 0, 0},
		{"new, a batch", []deed{put()}, 0, 0},
		{"waits", []deed{put(), put(), lost(10, 0, 0, 12)}, 12, 12},
		{"waits, and is empty", []deed{put(), lost(10, 0, 0, 12), ack()}, 12, 12},
		{"blown", []deed{put(), put(), lost(10, 0, 0, 12), lost(12, 1, 0, 15)}, 15, 32},
		{"blown, and is empty", []deed{put(), lost(10, 0, 0, 12), lost(12, 1, 0, 15), ack()}, 15, 32},
		{"blown again", []deed{put(), lost(10, 0, 0, 12), lost(12, 1, 0, 15), lost(32, 0, 0, 40)}, 40, 52},
		{"came", []deed{put(), put(), lost(10, 0, 0, 12), acked(20, 0, 12)}, 12, 12},
	}
}

// probes are what tells how it stands, whatever it is: ticks about those that count, till all has come.
func probes(from int64) []deed {
	l := []deed{put(), put(), put()}
	for _, now := range []int64{from - 1, from, from + 1, from + 2, from + 6, from + 19, from + 20, from + 21, from + 40,
		from + 41, from + 61} {
		if now >= 0 {
			l = append(l, deed{now: now, outcome: api.Lost})
		}
	}
	for range 4 {
		l = append(l, deed{now: from + 100})
	}
	l = append(l, put(), deed{now: from + 100, outcome: api.Lost, jitter: 1})
	return append(l, deed{now: from + 101}, deed{now: from + 102})
}

// told are deeds with what is wanted of them by the chapter's words.
func told(m made, many int, l ...deed) []deed {
	w := byWords{made: m, many: many, room: 1000}
	l = slices.Clone(l)
	for i, d := range l {
		l[i] = w.do(d)
	}
	return l
}

// P24.2, P1: ticks and outcomes that there aren't: ErrArg itself, no bytes, false, and nothing is turned, whatever is
// at the head, the one amiss, the other, or both; behind it all is as without it.
func TestWrong(t *testing.T) {
	m := made{2, 8, 2, 20}
	for _, c := range conditions() {
		wantRow(t, m, c.l...)
		refused := []deed{}
		for _, outcome := range slices.Concat(others(), []int{0, 1, 2, 3}) {
			for _, now := range outside() {
				refused = append(refused, wrong(now, outcome, c.at))
			}
		}
		for _, outcome := range others() {
			for _, now := range []int64{0, 1, c.at - 1, c.at, c.from, c.from + 1, last - 1, last} {
				refused = append(refused, wrong(now, outcome, c.at))
			}
		}
		for i := range refused {
			refused[i].jitter = []int{0, 1, -1, math.MaxInt, math.MinInt}[i%5]
		}
		g := newRig(t, m, 1, 1000)
		wantDone(t, c.name, g, row(c.l, refused)...)
		// That of the probes alone is wanted, with what is wrong between all of them, and without it.
		l := told(m, 2, row(c.l, probes(c.from))...)
		mixed := slices.Clone(l[:len(c.l)])
		at := c.at
		for i, d := range l[len(c.l):] {
			if d.does == tries {
				at = d.at
			}
			mixed = append(mixed, d)
			for n := i; n < len(refused); n += 23 {
				mixed = append(mixed, refused[n])
				mixed[len(mixed)-1].at = at
			}
		}
		wantRowAt(t, m, 2, mixed...)
	}
}

// P24.2: both ends of the ticks, and each outcome, are taken.
func TestTicksAndOutcomesThatThereAre(t *testing.T) {
	for _, m := range mades() {
		for _, now := range []int64{0, 1, last - 1, last} {
			wantRow(t, m, put(), acked(now, 0, 0))
			for _, outcome := range failing {
				g := rigWith(t, m, 1)
				wantDone(t, m.text(), g, deed{now: now, outcome: outcome, at: now + int64(m.base)})
			}
		}
	}
}

// P24.2: nothing at the head: no bytes, false, no error, be it new, one that waits or one whose fuse is blown; and the
// fuse isn't asked, for else it would be on trial, and let through none of the next ones.
func TestNothingAtTheHead(t *testing.T) {
	m := made{2, 8, 1, 10}
	wantRow(t, m, none(0, 0), none(7, 0), none(last, 0), put(), acked(0, 0, 0), none(0, 0), none(last, 0))
	wantRow(t, m, put(), lost(5, 0, 0, 7), ack(), none(0, 7), none(6, 7), none(7, 7), none(14, 7), none(15, 7),
		none(16, 7), none(last, 7), put(), none(14, 7), lost(15, 0, 1, 19), none(24, 19), acked(25, 1, 19))
	wantRow(t, m, put(), lost(5, 0, 0, 7), ack(), none(500, 7), put(), none(14, 7), acked(15, 1, 7), none(15, 7), put(),
		acked(7, 2, 7))
	bears := made{2, 8, 3, 10}
	wantRow(t, bears, put(), lost(5, 0, 0, 7), ack(), none(6, 7), none(7, 7), none(9, 7), put(), none(6, 7),
		lost(7, 0, 1, 11), ack(), none(10, 11), none(11, 11), put(), lost(11, 0, 2, 19), ack(), none(19, 19),
		none(20, 19), none(21, 19), put(), none(20, 19), lost(21, 0, 3, 29), none(30, 29), acked(31, 3, 29))
	for _, c := range conditions() {
		m := made{2, 8, 2, 20}
		l := slices.Clone(c.l)
		for range 2 {
			l = append(l, ack())
		}
		l = told(m, 1, l...)
		nothing := []deed{}
		for _, now := range []int64{0, max(c.at-1, 0), c.at, c.from, c.from + 1, c.from + 100, last} {
			nothing = append(nothing, none(now, c.at))
		}
		g, other := newRig(t, m, 1, 1000), newRig(t, m, 1, 1000)
		wantDone(t, c.name, g, row(l, nothing)...)
		wantDone(t, c.name, other, l...)
		behind := told(m, 1, row(l, probes(c.from))...)[len(l):]
		wantDone(t, c.name+", behind tries of nothing", g, behind...)
		wantDone(t, c.name+", behind none", other, behind...)
	}
}

// P24.2: a tick below At: nothing is sent, and the fuse isn't asked, so that where its pause is over ahead of At the
// try at At is let through; and so is one above it.
func TestAheadOfAt(t *testing.T) {
	m := made{8, 8, 1, 3}
	early := []deed{put(), put(), lost(10, 0, 0, 18), none(0, 18), none(9, 18), none(10, 18), none(12, 18), none(13, 18),
		none(14, 18), none(17, 18)}
	wantRow(t, m, row(early, []deed{acked(18, 0, 18), acked(18, 1, 18)})...)
	wantRow(t, m, row(early, []deed{acked(19, 0, 18), acked(18, 1, 18)})...)
	wantRow(t, m, row(early, []deed{lost(18, 0, 0, 26), none(21, 26), none(25, 26), lost(27, 0, 0, 35), none(34, 35),
		acked(35, 0, 35)})...)
	wantRow(t, m, row(early, []deed{lost(19, 0, 0, 27), none(26, 27), acked(last, 0, 27), none(26, 27), none(0, 27),
		acked(27, 1, 27)})...)
	whole := made{8, 8, 9, 3}
	wantRow(t, whole, row(early, []deed{acked(18, 0, 18), none(17, 18), acked(18, 1, 18)})...)
	wantRow(t, whole, row(early, []deed{lost(18, 0, 0, 26), none(25, 26), lost(26, 0, 0, 34)})...)
}

// P24.2: the fuse says no: nothing is sent, At, the wait and the spill are as they were, and behind its pause it lets
// one through: of a pause that is longer than the wait, just as long, and shorter, with jitter and without.
func TestFuseSaysNo(t *testing.T) {
	wantRow(t, made{2, 2, 1, 10}, put(), put(), lost(0, 0, 0, 2), none(1, 2), none(2, 2), none(3, 2), none(9, 2),
		lost(10, 0, 0, 12), none(11, 12), none(12, 12), none(19, 12), acked(20, 0, 12), acked(12, 1, 12))
	wantRow(t, made{2, 80, 1, 10}, put(), lost(0, 0, 0, 2), none(2, 2), none(9, 2), lost(10, 0, 0, 14), none(14, 14),
		none(19, 14), lost(20, 0, 0, 28), none(28, 28), none(29, 28), lost(30, 0, 0, 46), none(45, 46), acked(46, 0, 46))
	wantRow(t, made{5, 5, 1, 5}, put(), put(), lost(0, 0, 0, 5), none(4, 5), lost(5, 0, 0, 10), none(9, 10),
		lost(11, 0, 0, 16), none(15, 16), acked(16, 0, 16), acked(16, 1, 16))
	wantRow(t, made{5, 5, 1, 6}, put(), lost(0, 0, 0, 5), none(4, 5), none(5, 5), lost(6, 0, 0, 11), none(11, 11),
		acked(12, 0, 11))
	wantRow(t, made{5, 5, 1, 4}, put(), lost(0, 0, 0, 5), none(4, 5), lost(5, 0, 0, 10), none(9, 10), acked(10, 0, 10))
	wantRow(t, made{10, 10, 1, 8}, put(), lost(0, 5, 0, 5), none(4, 5), none(5, 5), none(7, 5), lost(8, 2, 0, 16),
		none(15, 16), lost(16, 4, 0, 22), none(22, 22), none(23, 22), acked(24, 0, 22))
	wantRow(t, made{1, 1, 2, 1000000}, put(), put(), lost(0, 0, 0, 1), lost(1, 0, 0, 2), none(2, 2), none(1000, 2),
		none(1000000, 2), acked(1000001, 0, 2), acked(2, 1, 2))
}

// P24.2: acked: the spill has one less, and Head is the next one; At stays.
func TestAcked(t *testing.T) {
	m := made{2, 8, 2, 5}
	wantRow(t, m, row(alike(13, put()), []deed{acked(0, 0, 0), acked(0, 1, 0), acked(9, 2, 0), acked(3, 3, 0),
		acked(last, 4, 0), acked(0, 5, 0), lost(7, 0, 6, 9), acked(9, 6, 9), acked(9, 7, 9), acked(10, 8, 9), none(8, 9),
		acked(9, 9, 9), acked(9, 10, 9), acked(9, 11, 9), acked(9, 12, 9), none(9, 9), put(), acked(9, 13, 9)})...)
}

// P24.2: acked: the next failure's wait is the base again, be it behind one failure or behind many.
func TestAckedBeginsTheWaitAnew(t *testing.T) {
	m := made{3, 20, 1000, 1}
	wantRow(t, m, put(), put(), put(), put(), lost(0, 0, 0, 3), acked(3, 0, 3), lost(3, 0, 1, 6), lost(6, 0, 1, 12),
		acked(12, 1, 12), lost(12, 0, 2, 15), lost(15, 0, 2, 21), lost(21, 0, 2, 33), lost(33, 0, 2, 53),
		lost(53, 0, 2, 73), acked(73, 2, 73), lost(73, 0, 3, 76), lost(76, 0, 3, 82), lost(82, 0, 3, 94),
		lost(94, 0, 3, 114))
	many := []deed{put(), put()}
	for n := range 40 {
		many = append(many, deed{now: int64(100 * n), outcome: api.Lost})
	}
	many = append(many, deed{now: 5000}, lost(5000, 0, 1, 5003), lost(5003, 0, 1, 5009))
	wantRow(t, m, told(m, 1, many...)...)
}

// P24.2: acked: the fuse counts no failures, so that as many as it bears are needed again; one on trial is whole.
func TestAckedMakesTheFuseWhole(t *testing.T) {
	m := made{1, 1, 3, 50}
	wantRow(t, m, put(), put(), put(), put(), put(), put(),
		lost(0, 0, 0, 1), lost(1, 0, 0, 2), acked(2, 0, 2),
		lost(2, 0, 1, 3), acked(3, 1, 3),
		lost(3, 0, 2, 4), lost(4, 0, 2, 5), lost(5, 0, 2, 6), none(6, 6), none(54, 6), acked(55, 2, 6),
		lost(55, 0, 3, 56), lost(56, 0, 3, 57), lost(57, 0, 3, 58), none(58, 58), none(106, 58),
		lost(107, 0, 3, 108), none(108, 108), none(156, 108), acked(157, 3, 108), acked(108, 4, 108),
		lost(108, 0, 5, 109), lost(109, 0, 5, 110), acked(110, 5, 110))
	one := made{1, 1, 1, 50}
	wantRow(t, one, put(), put(), lost(0, 0, 0, 1), none(49, 1), acked(50, 0, 1), lost(1, 0, 1, 2), none(50, 2),
		acked(51, 1, 2))
	most := made{1, 1, mostBorne, 50}
	for _, ahead := range []int{1, 500, mostBorne - 1} {
		l := []deed{put(), put()}
		for n := range ahead {
			l = append(l, lost(int64(n), 0, 0, int64(n)+1))
		}
		l = append(l, acked(2000, 0, int64(ahead)))
		for n := range mostBorne {
			l = append(l, lost(int64(2000+n), 0, 1, int64(2001+n)))
		}
		wantRowAt(t, most, 1, append(l, none(3000, 3000), none(3048, 3000), acked(3049, 1, 3000))...)
	}
}

// P24.2: lost, rejected, timed out: the batch stays, with the same bytes, and At is the tick and the wait of one
// failure more, behind one failure, two, as many as bring the wait to the cap, and more.
func TestFailures(t *testing.T) {
	wantRow(t, made{3, 20, 1000, 1}, put(), lost(0, 0, 0, 3), lost(3, 0, 0, 9), lost(9, 0, 0, 21), lost(21, 0, 0, 41),
		lost(41, 0, 0, 61), lost(61, 0, 0, 81), acked(81, 0, 81))
	wantRow(t, made{3, 24, 1000, 1}, put(), lost(5, 0, 0, 8), lost(9, 0, 0, 15), lost(17, 0, 0, 29), lost(33, 0, 0, 57),
		lost(60, 0, 0, 84), lost(1000, 0, 0, 1024), none(1023, 1024), acked(1024, 0, 1024))
	wantRow(t, made{1, mostWait, 1000, 1}, put(), lost(0, 0, 0, 1), lost(1, 0, 0, 3), lost(3, 0, 0, 7), lost(7, 0, 0, 15),
		none(14, 15), lost(100, 0, 0, 116), lost(200, 0, 0, 232), lost(300, 0, 0, 364))
	wantRow(t, made{mostWait, mostWait, 1000, 1}, put(), lost(0, 0, 0, 1000000), none(999999, 1000000),
		lost(1000000, 0, 0, 2000000), none(1999999, 2000000), lost(2000000, 0, 0, 3000000))
	wantRow(t, made{7, 10, 1000, 1}, put(), lost(0, 0, 0, 7), lost(7, 0, 0, 17), lost(17, 0, 0, 27))
	mixed := made{2, 16, 1000, 1}
	g := rigWith(t, mixed, 1)
	wantDone(t, "an outcome behind the other", g, lost(0, 0, 0, 2),
		deed{now: 2, outcome: api.Rejected, at: 6}, deed{now: 6, outcome: api.TimedOut, at: 14}, lost(14, 0, 0, 30),
		deed{now: 30, outcome: api.TimedOut, at: 46}, deed{now: 46, outcome: api.Rejected, at: 62}, acked(62, 0, 62))
}

// P24.2: lost, rejected, timed out: the fuse counts one failure, is blown at that tick by as many as it bears, and one
// on trial is blown again.
func TestFailuresBlowTheFuse(t *testing.T) {
	wantRow(t, made{1, 1, 1, 5}, put(), lost(7, 0, 0, 8), none(8, 8), none(11, 8), acked(12, 0, 8))
	wantRow(t, made{1, 1, 2, 5}, put(), lost(7, 0, 0, 8), lost(20, 0, 0, 21), none(21, 21), none(24, 21),
		lost(25, 0, 0, 26), none(26, 26), none(29, 26), lost(31, 0, 0, 32), none(35, 32), acked(36, 0, 32))
	wantRow(t, made{1, 1, 4, 5}, put(), lost(0, 0, 0, 1), lost(1, 0, 0, 2), lost(2, 0, 0, 3), lost(3, 0, 0, 4),
		none(4, 4), none(7, 4), lost(8, 0, 0, 9), none(9, 9), none(12, 9), lost(13, 0, 0, 14), none(17, 14),
		acked(18, 0, 14))
	for _, bears := range []int{2, 3, 10, 999, mostBorne} {
		l := []deed{put()}
		for n := range bears {
			l = append(l, lost(int64(n), 0, 0, int64(n)+1))
		}
		end := int64(bears)
		wantRowAt(t, made{1, 1, bears, 5}, 1, append(l, none(end, end), none(end+3, end), lost(end+4, 0, 0, end+5),
			none(end+8, end+5), acked(end+9, 0, end+5))...)
	}
	mixed := rigWith(t, made{1, 1, 3, 5}, 1)
	wantDone(t, "an outcome behind the other", mixed, lost(0, 0, 0, 1), deed{now: 1, outcome: api.Rejected, at: 2},
		deed{now: 2, outcome: api.TimedOut, at: 3}, none(3, 3), none(6, 3), deed{now: 7, outcome: api.Rejected, at: 8},
		none(11, 8), deed{now: 12, outcome: api.TimedOut, at: 13}, none(16, 13), acked(17, 0, 13))
}

// P24.2, P1: jitters by hand: at half of the wait, one above it, and far from it: what layer 22 says.
func TestJitter(t *testing.T) {
	rows := []struct {
		wait int
		// left are jitters, each with what is left then.
		left [][2]int
	}{
		{1, [][2]int{{0, 1}, {1, 1}, {2, 1}, {-1, 1}, {math.MinInt, 1}, {math.MaxInt, 1}}},
		{2, [][2]int{{0, 2}, {1, 1}, {2, 2}, {3, 1}, {-1, 2}, {math.MinInt, 2}, {math.MaxInt, 1}}},
		{7, [][2]int{{0, 7}, {1, 6}, {3, 4}, {4, 7}, {5, 6}, {-1, 7}, {-3, 7}, {math.MinInt, 7}, {math.MaxInt, 4}}},
		{8, [][2]int{{0, 8}, {1, 7}, {4, 4}, {5, 8}, {6, 7}, {-1, 8}, {-4, 8}, {math.MinInt, 8}, {math.MaxInt, 6}}},
		{mostWait, [][2]int{{0, 1000000}, {1, 999999}, {500000, 500000}, {500001, 1000000}, {500002, 999999},
			{-1, 1000000}, {math.MinInt, 1000000}}},
	}
	for _, r := range rows {
		for _, left := range r.left {
			at := 100 + int64(left[1])
			for _, m := range []made{{r.wait, r.wait, 2, 1}, {r.wait, mostWait, 2, 1}} {
				wantRow(t, m, put(), lost(100, left[0], 0, at), none(at-1, at), acked(at, 0, at))
			}
		}
	}
	wantRow(t, made{3, 20, 1000, 1}, put(), lost(0, 0, 0, 3), lost(3, 3, 0, 6), lost(6, 6, 0, 12), lost(12, -5, 0, 32),
		lost(32, 11, 0, 52), lost(52, 10, 0, 62), lost(62, 1, 0, 81), acked(81, 0, 81))
}

// P24.2: a jitter that is handed in with Acked, or where nothing is sent, turns nothing.
func TestJitterOfWhatIsAcked(t *testing.T) {
	for _, jitter := range []int{0, 1, 2, 3, 4, 5, 1000, -1, math.MaxInt, math.MinInt} {
		withJitter := func(d deed) deed {
			d.jitter = jitter
			return d
		}
		for _, outcome := range failing {
			early := withJitter(deed{now: 2, outcome: outcome, seq: -1, at: 8})
			blown := withJitter(deed{now: 18, outcome: outcome, seq: -1, at: 15})
			wantRow(t, made{8, 8, 2, 30}, withJitter(none(0, 0)), put(), put(), withJitter(acked(0, 0, 0)),
				lost(0, 0, 1, 8), early, withJitter(none(7, 8)), lost(8, 1, 1, 15), blown, withJitter(none(37, 15)),
				withJitter(acked(38, 1, 15)), put(), withJitter(none(14, 15)), withJitter(lost(15, 0, 2, 0)).by(8))
		}
	}
}

// by is a Try that sends, but not well, of one that waits so long without jitter.
func (d deed) by(wait int) deed {
	d.at = d.now + made{wait, wait, 1, 1}.wait(0, d.jitter)
	return d
}

// P24.2, P1: a tick so near to the greatest one that At is above it: nothing is sent from then on.
func TestNearTheLastTick(t *testing.T) {
	m := made{2, 8, 9, 1}
	wantRow(t, m, put(), lost(last, 0, 0, last+2), none(last, last+2), none(0, last+2), wrong(last+1, 0, last+2),
		wrong(last+2, 0, last+2), wrong(last+3, api.Lost, last+2), none(last, last+2))
	wantRow(t, m, put(), lost(last-1, 0, 0, last+1), none(last, last+1), wrong(last+1, 0, last+1), none(last-1, last+1))
	wantRow(t, m, put(), put(), lost(last-2, 0, 0, last), none(last-1, last), acked(last, 0, last), none(last-1, last),
		lost(last, 1, 1, last+1), none(last, last+1), none(0, last+1))
	wantRow(t, m, put(), lost(last-2, 0, 0, last), lost(last, 0, 0, last+4), none(last, last+4), put(), ack(),
		none(last, last+4))
	far := made{mostWait, mostWait, 9, 1}
	wantRow(t, far, put(), lost(last-mostWait, 0, 0, last), none(last-1, last), lost(last, 0, 0, last+mostWait),
		none(last, last+mostWait), wrong(last+mostWait, 0, last+mostWait))
	wantRow(t, far, put(), lost(last-mostWait+1, 0, 0, last+1), none(last, last+1))
	wantRow(t, far, put(), lost(last-mostWait+1, 1, 0, last), none(last-1, last), acked(last, 0, last))
	blown := made{1, 1, 1, mostPause}
	wantRow(t, blown, put(), lost(last-mostPause, 0, 0, last-mostPause+1), none(last-1, last-mostPause+1),
		acked(last, 0, last-mostPause+1))
	wantRow(t, blown, put(), lost(last-mostPause+1, 0, 0, last-mostPause+2), none(last, last-mostPause+2),
		none(last-mostPause+2, last-mostPause+2), none(last, last-mostPause+2))
}

// P24.2: ticks need not rise from call to call: each counts by itself.
func TestTicksThatFall(t *testing.T) {
	wantRow(t, made{5, 100, 2, 10}, row(alike(6, put()), []deed{acked(1000, 0, 0), lost(50, 0, 1, 55), none(54, 55),
		none(0, 55), none(49, 55), lost(55, 0, 1, 65), none(3, 65), none(64, 65), acked(1000, 1, 65), none(64, 65),
		acked(65, 2, 65), acked(500, 3, 65), lost(400, 0, 4, 405), none(65, 405), none(399, 405), lost(405, 0, 4, 415),
		none(400, 415), none(414, 415), acked(415, 4, 415), lost(416, 0, 5, 421)})...)
	wantRow(t, made{1, 1, 1, 10}, put(), put(), lost(90, 0, 0, 91), none(99, 91), none(0, 91), none(91, 91),
		none(98, 91), acked(100, 0, 91), lost(92, 0, 1, 93), none(100, 93), none(93, 93), none(101, 93),
		acked(102, 1, 93))
}

// P24.2: the spill's error of acking, where the disk is down just when a part is to go: it is told with the bytes and
// true; the batch is acked all the same, and the wait and the fuse are told that it went well.
func TestErrorOfAcking(t *testing.T) {
	m := made{2, 8, 2, 5}
	gone := api.ErrGone
	wantRowAt(t, m, 1, put(), put(), put(), crash(), acked(0, 0, 0).but(gone), acked(0, 1, 0).but(gone), up(),
		acked(0, 2, 0), none(0, 0), put(), acked(0, 3, 0))
	wantRowAt(t, m, 1, put(), put(), put(), put(), crash(), acked(0, 0, 0).but(gone), lost(0, 0, 1, 2), none(1, 2),
		acked(2, 1, 2).but(gone), put().but(gone), up(), lost(2, 0, 2, 4), acked(4, 2, 4), crash(), acked(4, 3, 4),
		none(4, 4))
	wantRowAt(t, m, 2, put(), put(), put(), put(), put(), crash(), acked(0, 0, 0), acked(0, 1, 0).but(gone),
		acked(0, 2, 0).but(gone), up(), acked(0, 3, 0), crash(), acked(0, 4, 0))
	wantRowAt(t, m, 100, put(), put(), put(), crash(), acked(0, 0, 0), acked(0, 1, 0), acked(0, 2, 0), none(0, 0))
	// Behind two failures the wait is the base again, and a fuse on trial is whole.
	wantRowAt(t, m, 1, put(), put(), lost(0, 0, 0, 2), lost(2, 0, 0, 6), crash(), none(6, 6), acked(7, 0, 6).but(gone),
		lost(6, 0, 1, 8), lost(8, 0, 1, 12), none(12, 12), acked(13, 1, 12).but(gone))
	wantRowAt(t, m, 1, put(), put(), put(), lost(0, 0, 0, 2), crash(), acked(2, 0, 2).but(gone), lost(2, 0, 1, 4),
		up(), acked(4, 1, 4), lost(4, 0, 2, 6), lost(6, 0, 2, 10), none(10, 10), acked(11, 2, 10))
	// Nothing else of a try is the disk's: what isn't acked is told without an error while it is down.
	wantRowAt(t, m, 1, put(), put(), crash(), lost(0, 0, 0, 2), none(1, 2), lost(2, 0, 0, 6), none(6, 6),
		lost(7, 0, 0, 15))
}

// P24.2: what goes of the disk behind an error of acking: the next ack that can lets all of it go.
func TestPartsBehindAnErrorOfAcking(t *testing.T) {
	g := rigWith(t, made{2, 8, 2, 5}, 4)
	wantDone(t, "down", g, crash(), acked(0, 0, 0).but(api.ErrGone), acked(0, 1, 0).but(api.ErrGone), up())
	if parts := g.d.Parts(); !slices.Equal(parts, []int{0, 1, 2, 3}) {
		t.Errorf("of a disk that was down there are the parts %v", parts)
	}
	wantDone(t, "up", g, acked(0, 2, 0))
	if parts := g.d.Parts(); !slices.Equal(parts, []int{3}) {
		t.Errorf("behind the next ack there are the parts %v", parts)
	}
}

// P24.2: the spill's error of acking, whichever it is: here another one has taken the part away.
func TestErrorOfAPartThatIsGone(t *testing.T) {
	g := rigWith(t, made{2, 8, 2, 5}, 3)
	if err := g.d.Remove(0); err != nil {
		t.Fatal(err)
	}
	wantDone(t, "a part is gone", g, lost(0, 0, 0, 2), acked(2, 0, 2).but(api.ErrNone), lost(2, 0, 1, 4),
		acked(4, 1, 4).but(api.ErrNone), acked(4, 2, 4).but(api.ErrNone), none(4, 4))
}

// P24.2: a spill that is put and acked by others between two tries: what is at its head then is sent; the wait and the
// fuse know nothing of it.
func TestOthersPutAndAck(t *testing.T) {
	m := made{2, 8, 3, 5}
	wantRow(t, m, put(), put(), put(), lost(0, 0, 0, 2), ack(), lost(2, 0, 1, 6), ack(), put(), put(), none(5, 6),
		lost(6, 0, 2, 14), none(13, 14), ack(), acked(14, 3, 14), ack(), none(14, 14), ack().but(api.ErrState), put(),
		lost(14, 0, 5, 16), ack(), put(), acked(16, 6, 16))
	wantRow(t, m, put(), ack(), none(0, 0), put(), acked(0, 1, 0), put(), put(), ack(), acked(0, 3, 0), none(0, 0))
	wantRow(t, m, put(), put(), put(), put(), lost(0, 0, 0, 2), ack(), lost(2, 0, 1, 6), ack(), lost(6, 0, 2, 14), ack(),
		none(10, 14), lost(14, 0, 3, 22), none(18, 22), acked(22, 3, 22))
}

// P24.3: turning the bytes that were told turns neither the spill nor what is told again, nor what was told ahead; each
// try tells bytes of its own.
func TestBytesAreNew(t *testing.T) {
	for seq := range 6 {
		g := rigWith(t, made{1, 1, 1000, 1}, 6)
		wantDone(t, "ahead", g, told(made{1, 1, 1000, 1}, 1, row(alike(6, put()), alike(seq, deed{}))...)[6:]...)
		want := bytesOf(t, seq)
		var all [][]byte
		for now, outcome := range []int{1, 2, 3, 1, 1, 2, 2, 3, 3, api.Acked} {
			x, sent, err := g.x.Try(int64(now), outcome, 0)
			if string(x) != want || !sent || err != nil {
				t.Fatalf("Try of batch %d = %q, %v, %v", seq, x, sent, err)
			}
			all = append(all, x)
			if outcome != api.Acked {
				wantSpill(t, "sent", g.s, seq, 6)
			}
			if now%2 == 0 {
				scribble(x)
			}
		}
		for i, x := range all {
			if i%2 == 1 && string(x) != want {
				t.Errorf("batch %d, told as %q, is %q", seq, want, x)
			}
		}
		wantSpill(t, "acked", g.s, seq+1, 6)
	}
	g := rigWith(t, made{1, 1, 1000, 1}, 3)
	_, head, _ := g.s.Head()
	x, _, _ := g.x.Try(0, api.Lost, 0)
	scribble(x)
	if want := bytesOf(t, 0); string(head) != want {
		t.Errorf("what Head told is %q, want %q", head, want)
	}
	wantSpill(t, "told bytes are turned", g.s, 0, 3)
	_, head, _ = g.s.Head()
	scribble(head)
	wantDone(t, "what Head told is turned", g, acked(1, 0, 1), acked(1, 1, 1), acked(1, 2, 1))
}

// P24.3: what a try that isn't Acked told lasts when others ack that batch, and the disk's part goes.
func TestBytesStay(t *testing.T) {
	g := rigWith(t, made{1, 1, 1000, 1}, 6)
	var all [][]byte
	for now := range 6 {
		x, _, _ := g.x.Try(int64(now), now%2, 0)
		all = append(all, x)
		if now%2 == api.Lost {
			wantDeed(t, "another one's", g, ack())
		}
	}
	g.d.Crash(0)
	for seq, x := range all {
		if want := bytesOf(t, seq); string(x) != want {
			t.Errorf("batch %d, told as %q, is %q", seq, want, x)
		}
	}
}

// P24.3: two senders on two spills know nothing of each other, by hand.
func TestTwoByHand(t *testing.T) {
	m := made{2, 8, 2, 5}
	a, b, c := rigWith(t, m, 2), rigWith(t, m, 2), rigWith(t, made{3, 9, 1, 7}, 1)
	wantDone(t, "a", a, lost(0, 0, 0, 2))
	wantDone(t, "b", b, acked(0, 0, 0), lost(0, 1, 1, 1))
	wantDone(t, "a", a, none(1, 2), lost(2, 0, 0, 6))
	wantDone(t, "b", b, lost(2, 0, 1, 6))
	wantDone(t, "c", c, lost(0, 0, 0, 3), none(3, 3))
	wantDone(t, "b", b, none(6, 6), acked(7, 1, 6), none(7, 6))
	wantDone(t, "a", a, none(6, 6), lost(7, 0, 0, 15), none(14, 15))
	wantDone(t, "c", c, acked(7, 0, 3), none(7, 3))
	wantDone(t, "a", a, acked(15, 0, 15), acked(15, 1, 15))
}

// P24.2, P24.3: two senders on one spill: each has a wait and a fuse of its own, and sends what is at the head.
func TestTwoOnOneSpill(t *testing.T) {
	m := made{2, 8, 2, 5}
	a := rigWith(t, m, 4)
	b := &rig{a.d, a.s, newSender(t, a.s, m)}
	wantDone(t, "a", a, lost(0, 0, 0, 2))
	wantDone(t, "b", b, lost(1, 0, 0, 3))
	wantDone(t, "a", a, none(1, 2), lost(2, 0, 0, 6), none(6, 6))
	wantDone(t, "b", b, none(2, 3), acked(3, 0, 3))
	wantDone(t, "a", a, none(6, 6), lost(7, 0, 1, 15))
	wantDone(t, "b", b, acked(3, 1, 3), lost(3, 0, 2, 5))
	wantDone(t, "a", a, none(14, 15), acked(15, 2, 15), acked(15, 3, 15))
	wantDone(t, "b", b, none(5, 5), put(), acked(5, 4, 5))
}

// P24.3: many senders on spills of their own, let try in turn, each as if it were alone; some are made while the others
// are under way.
func TestApart(t *testing.T) {
	rnd := rand.New(rand.NewSource(2))
	for range 40 {
		rigs, words := []*rig{}, []*byWords{}
		m := anyMade(rnd)
		for n := range 300 {
			if n%60 == 0 {
				rigs = append(rigs, newRig(t, m, 2, 5))
				words = append(words, &byWords{made: m, many: 2, room: 5})
				if n%120 == 0 {
					m = anyMade(rnd)
				}
			}
			at := rnd.Intn(len(rigs))
			wantDeed(t, words[at].text(), rigs[at], words[at].do(anyDeed(rnd, words[at])))
			for i, g := range rigs {
				name := "sender " + strconv.Itoa(i) + ", behind a deed of sender " + strconv.Itoa(at)
				wantAt(t, name, g.x, words[i].from)
				wantSpill(t, name, g.s, words[i].head, words[i].had)
			}
			if t.Failed() {
				return
			}
		}
	}
}

// P24.4: a spill that is opened again behind a crash is sent from its head on, by a sender of its own, which knows of
// no failure.
func TestOpenedAgain(t *testing.T) {
	m := made{2, 8, 2, 5}
	g := rigWith(t, m, 3)
	wantDone(t, "at first", g, lost(0, 0, 0, 2), acked(2, 0, 2), lost(2, 0, 1, 4), lost(4, 0, 1, 8), none(8, 8), crash())
	s, err := spill.Open(g.d, 1, 1000)
	if err != nil {
		t.Fatal(err)
	}
	g = &rig{g.d, s, newSender(t, s, m)}
	wantAt(t, "opened again", g.x, 0)
	wantDone(t, "opened again", g, lost(0, 0, 1, 2), lost(2, 0, 1, 6), none(6, 6), acked(7, 1, 6), acked(6, 2, 6),
		none(6, 6), put(), acked(6, 3, 6))
}

// P24.2, P24.4: all lists of five of a few deeds, behind two batches, against the chapter's words and what follows from
// them.
func TestAllShortLists(t *testing.T) {
	each := []deed{put(), ack(), {now: 0, outcome: api.Lost}, {now: 2, outcome: api.Rejected},
		{now: 4, outcome: api.TimedOut, jitter: 1}, {now: 1}, {now: 4}, {now: 2, outcome: 4}}
	for _, m := range []made{{1, 1, 1, 1}, {1, 4, 1, 3}, {2, 2, 2, 2}, {2, 3, 1, 4}, {1, 8, 3, 2}} {
		lists := 1
		for range 5 {
			lists *= len(each)
		}
		for list := range lists {
			g, words := newRig(t, m, 1+list%2, 3), &byWords{made: m, many: 1 + list%2, room: 3}
			name := m.text() + ", list " + strconv.Itoa(list)
			l := []deed{put(), put()}
			for left := list; len(l) < 7; left /= len(each) {
				l = append(l, each[left%len(each)])
			}
			for _, d := range l {
				wantDeed(t, name, g, words.do(d))
				if at := g.x.At(); at != words.from {
					t.Errorf("%s: behind %s At() = %d, want %d", name, d.text(), at, words.from)
				}
			}
			if t.Failed() {
				t.Fatalf("%s: behind %v", name, l)
			}
		}
	}
}

// P24.2, P24.4, P1: senders, spills, deeds, ticks, outcomes and jitters at random, each told against the chapter's
// words worked out apart: one that is asked behind each deed, and one that isn't let try where nothing is sent.
func TestAtRandom(t *testing.T) {
	rnd := rand.New(rand.NewSource(3))
	sent, ends := map[int]int{}, map[string]int{}
	for range 4000 {
		m := anyMade(rnd)
		many, room := 1+rnd.Intn(4), 1+rnd.Intn(9)
		g, lean := newRig(t, m, many, room), newRig(t, m, many, room)
		words := &byWords{made: m, many: many, room: room}
		for range rnd.Intn(80) {
			was := *words
			d := words.do(anyDeed(rnd, words))
			wantDeed(t, m.text(), g, d)
			wantAt(t, m.text()+": behind "+d.text(), g.x, words.from)
			wantSpill(t, m.text()+": behind "+d.text(), g.s, words.head, words.had)
			if !d.unsent() {
				wantDeed(t, m.text()+": lean", lean, d)
			}
			if d.does == tries && d.seq >= 0 {
				sent[d.outcome]++
			}
			ends[was.end(d)]++
		}
		wantAt(t, m.text()+": lean", lean.x, words.from)
		wantSpill(t, m.text()+": lean", lean.s, words.head, words.had)
		if t.Failed() {
			return
		}
	}
	for outcome := api.Acked; outcome <= api.TimedOut; outcome++ {
		if sent[outcome] < 3000 {
			t.Errorf("%d were sent with outcome %d", sent[outcome], outcome)
		}
	}
	for _, why := range []string{"wrong", "empty", "early", "blown", "acked, with an error"} {
		if ends[why] < 400 {
			t.Errorf("%d tries only ended so: %s", ends[why], why)
		}
	}
}

// end tells how a Try ends that is wanted to be as d tells, by what w was ahead of it.
func (w *byWords) end(d deed) string {
	switch {
	case d.does != tries:
		return "none"
	case d.err == api.ErrArg:
		return "wrong"
	case d.err != nil:
		return "acked, with an error"
	case d.seq >= 0:
		return "sent"
	case w.had == w.head:
		return "empty"
	case d.now < w.from:
		return "early"
	}
	return "blown"
}

// P24.4: at random: batches are sent in order, the same one, with the same bytes, till it is acked; none is sent twice
// behind that, none is left out; and in the end all have come.
func TestInOrder(t *testing.T) {
	rnd := rand.New(rand.NewSource(4))
	all := 0
	for range 2000 {
		m := anyMade(rnd)
		g, words := newRig(t, m, 1+rnd.Intn(4), 1000), &byWords{made: m, many: 1, room: 1000}
		came := 0
		sink := func(d deed) bool {
			x, sent, err := g.x.Try(d.now, d.outcome, d.jitter)
			if !sent {
				return false
			}
			if err != nil || string(x) != bytesOf(t, came) {
				t.Fatalf("%s: behind %d that came %q is sent, %v", m.text(), came, x, err)
			}
			if d.outcome == api.Acked {
				came++
			}
			return true
		}
		for range rnd.Intn(80) {
			d := anyDeed(rnd, words)
			if d.does == tries {
				sink(words.do(d))
			} else if d.does == puts {
				wantDeed(t, m.text(), g, words.do(put()))
			}
		}
		if g.x.At() > last-mostPause {
			continue
		}
		all++
		for sink(deed{now: last}) {
		}
		if came != words.had || g.s.Len() != 0 {
			t.Fatalf("%s: of %d batches %d came", m.text(), words.had, came)
		}
	}
	if all < 1000 {
		t.Errorf("of 2000 spills %d only were sent as a whole", all)
	}
}

// P24.2, P1: very many failures behind each other: the wait stays at the cap, and the same batch is sent each time.
func TestVeryMany(t *testing.T) {
	for _, m := range []made{{1, 1, 1, 1}, {3, 20, 1000, 1}, {1, mostWait, 2, 1}, {5, 9, 1, 9}} {
		g := rigWith(t, m, 2)
		now := int64(0)
		for n := range 100000 {
			wantTry(t, m.text(), g, deed{now: now, outcome: failing[n%3], jitter: n})
			if at := now + m.wait(n, n); g.x.At() != at {
				t.Fatalf("%s: behind failure %d At() = %d, want %d", m.text(), n+1, g.x.At(), at)
			}
			now = max(g.x.At(), now+int64(m.pause))
		}
		wantDone(t, m.text(), g, acked(now, 0, g.x.At()), lost(now, 0, 1, now+int64(m.base)))
	}
}

// P24.4: more batches than a spill has room for come and go, one behind the other, a failure ahead of each.
func TestComeAndGo(t *testing.T) {
	g := newRig(t, made{1, 1, 1, 1}, 2, 3)
	for n := range 3000 {
		now := int64(2 * n)
		wantDeed(t, "one more", g, put())
		wantTry(t, "fails", g, deed{now: now, outcome: failing[n%3], seq: n})
		wantTry(t, "comes", g, deed{now: now + 1, seq: n})
		if g.s.Len() != 0 || g.x.At() != now+1 || g.d.Used() > 200 {
			t.Fatalf("batch %d: Len() = %d, At() = %d, %d bytes are used", n, g.s.Len(), g.x.At(), g.d.Used())
		}
	}
}

// anyMade is one of any size; most bear few, and wait for about as long as they pause, so that each has its turn.
func anyMade(rnd *rand.Rand) made {
	wide := rnd.Intn(20)
	some := func() int { return 1 + rnd.Intn(mostWait)>>wide }
	base := some()
	m := made{base, max(base, min(some()<<rnd.Intn(4), mostWait)), 1 + rnd.Intn(3), some()}
	if rnd.Intn(8) == 0 {
		m.fails, m.pause = 1+rnd.Intn(30), 1+rnd.Intn(mostPause)>>rnd.Intn(20)
	}
	return m
}

// anyDeed is one at a tick near to what counts, or at any.
func anyDeed(rnd *rand.Rand, w *byWords) deed {
	switch rnd.Intn(24) {
	case 0, 1, 2, 3, 4:
		return put()
	case 5:
		return ack()
	case 6:
		return crash()
	case 7:
		return up()
	case 8:
		return deed{now: anyTick(rnd, w), outcome: others()[rnd.Intn(len(others()))]}
	}
	d := deed{now: anyTick(rnd, w), outcome: rnd.Intn(4)}
	switch rnd.Intn(4) {
	case 0:
		d.jitter = int(rnd.Uint64()) >> rnd.Intn(64)
	case 1:
		d.jitter = w.base/2 + rnd.Intn(5) - 2
	}
	return d
}

// anyTick is one at At, or at the end of the pause, or near to these, or to the ends of those that there are, or any.
func anyTick(rnd *rand.Rand, w *byWords) int64 {
	near := int64(rnd.Intn(5)) - 2
	switch n := rnd.Intn(60); {
	case n < 25:
		return w.from + near
	case n < 45 && len(w.failed) > 0:
		return w.failed[len(w.failed)-1] + int64(w.pause) + near
	case n < 54:
		return w.from + rnd.Int63n(1+int64(w.pause))
	case n == 54:
		return last - int64(w.limit) + near
	case n == 55:
		return last + near
	case n == 56:
		return int64(rnd.Uint64()) >> rnd.Intn(64)
	}
	return near
}
