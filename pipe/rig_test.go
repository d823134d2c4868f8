package pipe

import (
	"reflect"
	"slices"
	"strconv"
	"testing"

	"noggin/api"
	"noggin/batch"
	"noggin/disk"
)

// asks is a step that only asks.
const asks = -1

// step is a deed, with what is wanted of it, and behind it.
type step struct {
	deed
	want  told
	stats *api.Stats
	count []counted
}

// counted is what Count is to tell.
type counted struct {
	class, reason int
	came, ended   uint64
}

func comes(text string, reason int) step {
	return step{deed: deed{does: lines, text: text}, want: told{n: reason}}
}

func serve(reason int) step { return step{deed: deed{does: serves}, want: told{n: reason}} }

func tick(n int) step { return step{deed: deed{does: ticks, n: n}} }

func closed(many int) step { return step{deed: deed{does: closes}, want: told{n: many}} }

func sent(outcome, jitter int, b api.Batch) step {
	x, err := batch.Put(b)
	if err != nil {
		panic(err)
	}
	return step{deed: deed{does: flushes, n: jitter, outcome: outcome}, want: told{sent: true, text: string(x)}}
}

func unsent(outcome, jitter int) step {
	return step{deed: deed{does: flushes, n: jitter, outcome: outcome}}
}

func crash(keep int) step { return step{deed: deed{does: crashes, n: keep}} }

func fall(keep int) step { return step{deed: deed{does: goesDown, n: keep}} }

func rise() step { return step{deed: deed{does: comesUp}} }

func write(part int, text string) step {
	return step{deed: deed{does: writes, n: part, text: text}}
}

func sync(part int) step { return step{deed: deed{does: syncs, n: part}} }

func remove(part int) step { return step{deed: deed{does: removes, n: part}} }

// is holds what Stats tells; Queued is told apart, to be short.
func is(s api.Stats, queued ...int) step {
	s.Queued = queued
	return step{deed: deed{does: asks}, stats: &s}
}

// counts holds what Count tells: a class, a reason, how many came, and how many ended.
func counts(l ...counted) step { return step{deed: deed{does: asks}, count: l} }

// but is a step with an error.
func (s step) but(err error) step {
	s.want.err = err
	return s
}

// gone are all calls of a pipe that is down, with arguments of all kinds.
func gone() []step {
	l := []step{serve(0), closed(0)}
	for _, text := range []string{"", "x", "cpu c 1 1", "a g 7 12"} {
		l = append(l, comes(text, 0))
	}
	for _, n := range farInts() {
		l = append(l, tick(n), unsent(api.Acked, n), unsent(api.Lost, n), unsent(n, 0))
	}
	for i := range l {
		l[i] = l[i].but(api.ErrGone)
	}
	return l
}

func row(l ...[]step) []step { return slices.Concat(l...) }

func alike(many int, l ...step) []step { return slices.Repeat(l, many) }

// rig is a pipe on a disk, and the chapter's words.
type rig struct {
	p *Pipe
	d *disk.Disk
	w *words
}

func newDisk(t *testing.T, room int) *disk.Disk {
	t.Helper()
	d, err := disk.New(room)
	if err != nil {
		t.Fatal(err)
	}
	return d
}

func newRig(t *testing.T, c api.Config, room int) *rig {
	t.Helper()
	return newRigOn(t, c, newDisk(t, room), newPlates(room))
}

func newRigOn(t *testing.T, c api.Config, d *disk.Disk, of *plates) *rig {
	t.Helper()
	p, err := New(c, d)
	w, by := newWords(c, of)
	if err != nil || by != nil || p == nil {
		t.Fatalf("New = %v, %v, by the words %v", p, err, by)
	}
	return &rig{p, d, w}
}

// do does a deed with the pipe; what is told of bytes is written over then, as far as it has room.
func (g *rig) do(d deed) told {
	var x told
	var b []byte
	switch d.does {
	case lines:
		x.n, x.err = g.p.Line(d.text)
	case serves:
		x.n, x.err = g.p.Serve()
	case ticks:
		x.err = g.p.Tick(d.n)
	case closes:
		x.n, x.err = g.p.Close()
	case flushes:
		b, x.sent, x.err = g.p.Flush(d.outcome, d.n)
	case crashes:
		x.err = g.p.Crash(d.n)
	case goesDown:
		g.d.Crash(d.n)
	case comesUp:
		g.d.Up()
	case writes:
		x.err = g.d.Append(d.n, []byte(d.text))
	case syncs:
		x.err = g.d.Sync(d.n)
	case removes:
		x.err = g.d.Remove(d.n)
	}
	x.text = string(b)
	scribble(b)
	return x
}

func scribble(x []byte) {
	x = x[:cap(x)]
	for i := range x {
		x[i] ^= 0xff
	}
}

// wantTold holds an answer. Errors are held one by one: each is itself.
func wantTold(t *testing.T, name string, is, want told) {
	t.Helper()
	if is != want {
		t.Errorf("%s is %s, want %s", name, is.name(), want.name())
	}
}

func textOf(s api.Stats) string {
	text := "now " + strconv.FormatInt(s.Now, 10) + ", level " + strconv.Itoa(s.Level) + ", queued"
	for _, n := range s.Queued {
		text += " " + strconv.Itoa(n)
	}
	return text + ", windows " + strconv.Itoa(s.Windows) + ", spilled " + strconv.Itoa(s.Spilled) + ", seq " +
		strconv.Itoa(s.Seq) + ", mark " + strconv.FormatInt(s.Mark, 10)
}

// wantStats asks twice: asking turns nothing, and what was told may be turned.
func wantStats(t *testing.T, name string, p *Pipe, want api.Stats) {
	t.Helper()
	for range 2 {
		s := p.Stats()
		if !reflect.DeepEqual(s, want) {
			t.Errorf("%s: Stats() = %s, want %s", name, textOf(s), textOf(want))
		}
		for i := range s.Queued {
			s.Queued[i] += 7
		}
	}
}

func wantCount(t *testing.T, name string, p *Pipe, want counted) {
	t.Helper()
	came, ended := p.Count(want.class, want.reason)
	if came != want.came || ended != want.ended {
		t.Errorf("%s: Count(%d, %d) = %d, %d, want %d, %d", name, want.class, want.reason, came, ended, want.came,
			want.ended)
	}
}

// wantAll holds all that can be asked against the words.
func (g *rig) wantAll(t *testing.T, name string) {
	t.Helper()
	wantStats(t, name, g.p, g.w.stats())
	for class := -1; class <= g.w.c.Classes+1; class++ {
		for reason := -1; reason <= reasons; reason++ {
			came, ended := g.w.count(class, reason)
			wantCount(t, name, g.p, counted{class, reason, came, ended})
		}
	}
	g.wantDisk(t, name)
}

func (g *rig) wantDisk(t *testing.T, name string) {
	t.Helper()
	numbers := g.w.disk.numbers()
	if is := g.d.Parts(); !slices.Equal(is, numbers) || g.d.Used() != g.w.disk.used() {
		t.Errorf("%s: the disk has the parts %v with %d bytes, want %v with %d", name, is, g.d.Used(), numbers,
			g.w.disk.used())
		return
	}
	if g.w.disk.down {
		if err := g.d.Append(0, nil); err != api.ErrGone {
			t.Errorf("%s: the disk isn't down: %v", name, err)
		}
		return
	}
	for _, n := range numbers {
		if b, err := g.d.Read(n); err != nil || string(b) != g.w.disk.parts[n].text {
			t.Errorf("%s: part %d is %q, %v, want %q", name, n, b, err, g.w.disk.parts[n].text)
		}
	}
}

// wantSynced holds what stays of the disk when it goes down and nothing stays but what was synced.
func (g *rig) wantSynced(t *testing.T, name string) {
	t.Helper()
	for _, d := range []deed{{does: goesDown}, {does: comesUp}} {
		g.do(d)
		g.w.do(d)
	}
	g.wantDisk(t, name+": what was synced")
}

// wantOdds holds T1, and that nothing has more than it may: where it crashed, batches that were acked may be there again.
func (g *rig) wantOdds(t *testing.T, name string) {
	t.Helper()
	s := g.p.Stats()
	for class := range g.w.c.Classes + 1 {
		came, _ := g.p.Count(class, 0)
		sum, queued := uint64(0), 0
		for reason := range reasons {
			_, ended := g.p.Count(class, reason)
			sum += ended
		}
		if class < g.w.c.Classes {
			queued = s.Queued[class]
		}
		if came != sum+uint64(queued) || queued > g.w.c.Room {
			t.Errorf("%s: of class %d came %d, ended %d, and %d are queued", name, class, came, sum, queued)
		}
	}
	if s.Windows > g.w.c.Windows || s.Spilled > g.w.c.Spill && !g.w.crashed || len(s.Queued) != g.w.c.Classes {
		t.Errorf("%s: too much of something: %s", name, textOf(s))
	}
}

// wantRun does the steps with a pipe of its own, and asks behind each; with one that is asked nothing till the end; and by
// the chapter's words.
func wantRun(t *testing.T, name string, c api.Config, room int, l ...step) {
	t.Helper()
	g, bare := newRig(t, c, room), newRig(t, c, room)
	g.wantAll(t, name+": at its beginning")
	for i, s := range l {
		at := name + ": step " + strconv.Itoa(i)
		if s.does != asks {
			at += ": " + s.name()
			wantTold(t, at, g.do(s.deed), s.want)
			wantTold(t, at+", not asked", bare.do(s.deed), s.want)
			wantTold(t, at+", by the words", g.w.do(s.deed), s.want)
			bare.w.do(s.deed)
		}
		if s.stats != nil {
			wantStats(t, at, g.p, *s.stats)
		}
		for _, n := range s.count {
			wantCount(t, at, g.p, n)
		}
		g.wantAll(t, at)
		g.wantOdds(t, at)
		if t.Failed() {
			return
		}
	}
	bare.wantAll(t, name+": not asked till its end")
	g.wantSynced(t, name+": at its end")
}

// plain is a config of three classes, in which nothing is shed, and no line's time is late but behind a greater one.
func plain() api.Config {
	return api.Config{
		Classes: 3, Rules: []api.Rule{{Prefix: "cpu", Class: 0}, {Prefix: "mem", Class: 1}},
		Thresholds: [][]int{{0, 0, 0}, {0, 0, 0}, {0, 0, 0}}, Quanta: []int{1, 1, 1}, Room: 20,
		Target: 5, Interval: 10, Low: 0, High: 1000, Hold: 1, Lateness: 0, Idle: last,
		Width: 10, Windows: 5, Rows: 5, Spill: 3, Many: 2, Base: 2, Cap: 8, Fails: 2, Pause: 5,
	}
}

// but is a config with something else.
func but(c api.Config, turn func(c *api.Config)) api.Config {
	c = deepCopy(c)
	turn(&c)
	return c
}

// taken are lines of class 2 that come and are taken, one of each time.
func taken(times ...int) []step {
	var l []step
	for _, n := range times {
		l = append(l, comes("a c 1 "+strconv.Itoa(n), 0), serve(api.Taken))
	}
	return l
}

// ones is the batch of a window with as many values of 1 as taken took.
func ones(seq int, begin int64, many int) api.Batch {
	values := slices.Repeat([]int64{1}, many)
	return api.Batch{Seq: seq, Start: begin, Rows: []api.Row{rowOf("a", api.Count, values...)}}
}
