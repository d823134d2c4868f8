package pipe

import (
	"math/rand"
	"reflect"
	"strconv"
	"testing"
	"unsafe"

	"noggin/api"
	"noggin/batch"
)

// mutable is a text whose bytes can be turned, as no text's should be.
func mutable(text string) (string, []byte) {
	b := append([]byte(text), 0)
	return unsafe.String(&b[0], len(text)), b
}

// all is a row of deeds that asks all that a config's lists tell.
func all() []step {
	l := []step{comes("cpu,b=1,a=2 c 1 5", 0), comes("mem g 2 6", 0), comes("a h 3 7", 0), comes("a h 3 8", 0),
		comes("cpu c 1 9", 0), tick(1), comes("a c 1 1", api.Sampled), comes("cpu c 1 1", 0),
		is(api.Stats{Now: 1, Level: 1}, 3, 1, 2)}
	l = append(l, alike(6, serve(api.Taken))...)
	l = append(l, comes("cpu c 5 10", 0), serve(api.Taken), closed(1), sent(api.Lost, 0, api.Batch{Rows: []api.Row{
		rowOf("a", api.Histo, 3, 3), rowOf("cpu", api.Count, 1, 1), rowOf("cpu,a=2,b=1", api.Count, 1),
		rowOf("mem", api.Gauge, 2)}}))
	return l
}

// shedding is a config for these deeds.
func shedding() api.Config {
	return but(plain(), func(c *api.Config) {
		c.Thresholds, c.High, c.Quanta = [][]int{{0, 0}, {0, 0}, {0, 65536}}, 0, []int{2, 1, 1}
	})
}

// P25.4: a config that is turned behind New, its lists and its texts, turns nothing; not behind a crash either. New
// turns none of it.
func TestConfigIsNotKept(t *testing.T) {
	c := shedding()
	cpu, of := mutable("cpu")
	mem, by := mutable("mem")
	c.Rules = []api.Rule{{Prefix: cpu, Class: 0}, {Prefix: mem, Class: 1}}
	was := deepCopy(c)
	g := newRig(t, c, 1000)
	if !reflect.DeepEqual(c, was) || !May(c) || !reflect.DeepEqual(c, was) {
		t.Errorf("the config is %+v, was %+v", c, was)
	}
	scribble(of)
	scribble(by)
	for i := range c.Rules {
		c.Rules[i].Class = 2
	}
	c.Rules[0] = api.Rule{Class: 9}
	for i := range c.Thresholds {
		c.Thresholds[i][1] = -5
		c.Thresholds[i] = nil
		c.Quanta[i] = -1
	}
	g.wantSteps(t, "at first", all())
	l := append([]step{crash(0), is(api.Stats{Now: 1, Spilled: 1, Seq: 1}, 0, 0, 0)}, all()[:8]...)
	g.wantSteps(t, "behind a crash", append(l, is(api.Stats{Now: 2, Level: 1, Spilled: 1, Seq: 1}, 3, 1, 2)))
}

// P25.4: lists with room behind them are not written beyond their ends.
func TestConfigIsNotWrittenBeyond(t *testing.T) {
	c := shedding()
	rules := append(c.Rules, api.Rule{Prefix: "x", Class: 7})
	quanta := append(c.Quanta, 77)
	rows := append(c.Thresholds, []int{777})
	level := append([]int{0, 65536}, 7777)
	rows[2] = level[:2]
	c.Rules, c.Quanta, c.Thresholds = rules[:2], quanta[:3], rows[:3]
	newRig(t, c, 1000).wantSteps(t, "with room", all())
	if rules[2].Class != 7 || quanta[3] != 77 || rows[3][0] != 777 || level[2] != 7777 {
		t.Errorf("beyond the lists: %v, %v, %v, %v", rules, quanta, rows, level)
	}
}

// P25.4: a line that is turned behind the call turns nothing.
func TestLineIsNotKept(t *testing.T) {
	g := newRig(t, shedding(), 1000)
	for i, s := range all() {
		at := "step " + strconv.Itoa(i)
		if s.does == asks {
			continue
		}
		d := s.deed
		text, b := mutable(d.text)
		d.text = text
		wantTold(t, at, g.do(d), s.want)
		if string(b) != s.text+"\x00" {
			t.Errorf("%s: the line is %q, was %q", at, b, s.text)
		}
		scribble(b)
		wantTold(t, at+", by the words", g.w.do(s.deed), s.want)
		g.wantAll(t, at)
	}
}

// P25.4: what was told stays as it was told, whatever is done behind it, and each call tells memory of its own.
func TestToldStays(t *testing.T) {
	g := newRig(t, plain(), 1000)
	g.wantSteps(t, "ahead", row(taken(5, 15, 25), []step{closed(2), comes("a c 1 1", 0)}))
	s := g.p.Stats()
	was := g.p.Stats()
	lost, _, _ := g.p.Flush(api.Lost, 0)
	if err := g.p.Tick(2); err != nil {
		t.Fatal(err)
	}
	acked, _, _ := g.p.Flush(api.Acked, 0)
	for range 3 {
		g.do(deed{does: lines, text: "cpu c 1 1"})
		g.do(deed{does: serves})
	}
	g.do(deed{does: crashes})
	if !reflect.DeepEqual(s, was) {
		t.Errorf("Stats told %s, which is %s", textOf(was), textOf(s))
	}
	want, _ := batch.Put(ones(0, 0, 1))
	if string(lost) != string(want) || string(acked) != string(want) {
		t.Errorf("Flush told %q and %q, want %q", lost, acked, want)
	}
	scribble(lost)
	if string(acked) != string(want) {
		t.Errorf("both share memory")
	}
	if x, sent, err := g.p.Flush(api.Acked, 0); string(x) != string(want) || !sent || err != nil {
		t.Errorf("Flush = %q, %v, %v", x, sent, err)
	}
}

// P25.4: two pipes on two disks, of one config, know nothing of each other.
func TestTwoByHand(t *testing.T) {
	c := shedding()
	a, b := newRig(t, c, 1000), newRig(t, c, 1000)
	a.wantSteps(t, "a", all())
	b.wantAll(t, "b, at first")
	b.wantSteps(t, "b", all())
	a.wantSteps(t, "a, again", []step{tick(2), sent(api.Acked, 0, api.Batch{Rows: []api.Row{
		rowOf("a", api.Histo, 3, 3), rowOf("cpu", api.Count, 1, 1), rowOf("cpu,a=2,b=1", api.Count, 1),
		rowOf("mem", api.Gauge, 2)}}), crash(0)})
	b.wantAll(t, "b, behind a's crash")
	b.wantSteps(t, "b, again", []step{unsent(api.Acked, 0), comes("cpu c 1 11", 0), serve(api.Taken)})
	a.wantAll(t, "a, at its end")
}

// P1: all calls at arguments of all kinds, of one that is up and of one that is down.
func TestAnyArguments(t *testing.T) {
	for _, fault := range []bool{false, true} {
		g := newRig(t, plain(), 1000)
		if fault {
			g.wantSteps(t, "down", []step{write(0, "\x01x"), crash(9).but(api.ErrForm)})
		}
		for _, n := range append(farInts(), 0, 1, last) {
			for _, d := range []deed{{does: ticks, n: n}, {does: flushes, n: n}, {does: flushes, outcome: n},
				{does: flushes, n: n, outcome: api.Lost}, {does: closes}, {does: serves}, {does: crashes, n: n},
				{does: lines, text: strconv.Itoa(n)}, {does: lines, text: "a c " + strconv.Itoa(n) + " 1"},
				{does: lines, text: "a c 1 " + strconv.Itoa(n)}} {
				at := d.name()
				wantTold(t, at, g.do(d), g.w.do(d))
				g.wantAll(t, at)
				wantCount(t, at, g.p, counted{n, n, zeroOr(g, n, 0), zeroOr(g, n, n)})
			}
		}
	}
}

// zeroOr is what Count tells by the words: of a reason 0 how many came.
func zeroOr(g *rig, class, reason int) uint64 {
	came, ended := g.w.count(class, reason)
	if reason == 0 {
		return came
	}
	return ended
}

// anyConfig is a small one, so that all that may be reached is reached.
func anyConfig(rnd *rand.Rand) api.Config {
	classes, levels := 1+rnd.Intn(4), 1+rnd.Intn(4)
	high, base := rnd.Intn(8), 1+rnd.Intn(4)
	c := api.Config{
		Classes: classes, Room: 1 + rnd.Intn(6), Target: 1 + rnd.Intn(6), Interval: 1 + rnd.Intn(8),
		Low: rnd.Intn(high + 1), High: high, Hold: 1 + rnd.Intn(3), Lateness: rnd.Int63n(16), Idle: 1 + rnd.Int63n(20),
		Width: 1 + rnd.Int63n(12), Windows: 1 + rnd.Intn(4), Rows: 1 + rnd.Intn(4), Spill: 1 + rnd.Intn(4),
		Many: 1 + rnd.Intn(4), Base: base, Cap: base + rnd.Intn(9), Fails: 1 + rnd.Intn(3), Pause: 1 + rnd.Intn(6),
	}
	for range classes {
		l := make([]int, levels)
		for k := 1; k < levels; k++ {
			l[k] = l[k-1]
			if rnd.Intn(2) == 0 {
				l[k] += rnd.Intn(65537 - l[k])
			}
		}
		c.Thresholds, c.Quanta = append(c.Thresholds, l), append(c.Quanta, 1+rnd.Intn(4))
	}
	for range rnd.Intn(4) {
		prefix := []string{"cpu", "mem", "a", "cpu,h=1", "", "b", "cpu,h=1,i"}[rnd.Intn(7)]
		c.Rules = append(c.Rules, api.Rule{Prefix: prefix, Class: rnd.Intn(classes)})
	}
	return c
}

// anyLine is one whose time is near to a time, or far from it; some aren't lines.
func anyLine(rnd *rand.Rand, near int64) string {
	name := []string{"cpu", "mem", "a", "b"}[rnd.Intn(4)]
	tags := []string{"", "", "", ",h=1", ",h=2", ",i=1,h=1", ",h=1,i=1"}[rnd.Intn(7)]
	value := strconv.Itoa(rnd.Intn(20) - 5)
	if rnd.Intn(10) == 0 {
		value = []string{"9223372036854775807", "-9223372036854775808", "9223372036854775000"}[rnd.Intn(3)]
	}
	time := max(near+rnd.Int63n(30)-10, 0)
	switch rnd.Intn(100) {
	case 0:
		return []string{"", "cpu", "a,h=1,h=2 c 1 1", "a c 1 1 ", "a c 01 1", "a c 1 -1", "A c 1 1"}[rnd.Intn(7)]
	case 1:
		tags += ",h=3,h=1"
	case 2:
		time = rnd.Int63n(last + 3)
	}
	return name + tags + " " + []string{"c", "g", "h"}[rnd.Intn(3)] + " " + value + " " + strconv.FormatInt(time, 10)
}

// anyDeed is one of a pipe's calls; with others' deeds, and crashes, if wild.
func anyDeed(rnd *rand.Rand, s api.Stats, wild bool) deed {
	switch n := rnd.Intn(100); {
	case n < 38:
		return deed{does: lines, text: anyLine(rnd, s.Mark)}
	case n < 66:
		return deed{does: serves}
	case n < 78:
		return deed{does: ticks, n: rnd.Intn(5)}
	case n < 86:
		return deed{does: closes}
	case n < 95:
		return deed{does: flushes, outcome: rnd.Intn(4) * rnd.Intn(2), n: rnd.Intn(6)}
	case n == 95:
		far := append(farInts(), last, last-int(s.Now), last-int(s.Now)+1)
		return []deed{{does: ticks, n: far[rnd.Intn(11)]}, {does: flushes, outcome: far[rnd.Intn(11)]},
			{does: flushes, outcome: 1, n: far[rnd.Intn(11)]}, {does: ticks, n: far[rnd.Intn(13)+1]}}[rnd.Intn(4)]
	case n == 96 && wild:
		return deed{does: crashes, n: rnd.Intn(30) - 1}
	case n == 97 && wild && rnd.Intn(8) == 0:
		return othersDeed(rnd, s)
	}
	return deed{does: serves}
}

// othersDeed is one of what others do to the disk.
func othersDeed(rnd *rand.Rand, s api.Stats) deed {
	part := max(s.Seq-rnd.Intn(4), 0)
	switch rnd.Intn(8) {
	case 0:
		return deed{does: goesDown, n: rnd.Intn(20)}
	case 1:
		return deed{does: comesUp}
	case 2:
		return deed{does: removes, n: part}
	case 3:
		return deed{does: syncs, n: part}
	case 4:
		return deed{does: writes, n: part, text: "\x01x"}
	}
	x, err := batch.Put(api.Batch{Seq: max(s.Seq+rnd.Intn(3)-1, 0)})
	if err != nil {
		x = nil
	}
	return deed{does: writes, n: part, text: laid(string(x))}
}

// endOf is how a call ended, for to tell how often each end was reached.
func endOf(d deed, x told) string {
	switch {
	case x.err != nil && d.does <= crashes:
		return strconv.Itoa(d.does) + " " + x.err.Error()
	case d.does == lines || d.does == serves:
		return "reason " + strconv.Itoa(x.n)
	case d.does == closes:
		return "closed " + strconv.Itoa(min(x.n, 2))
	case d.does == flushes && x.sent:
		return "sent " + strconv.Itoa(d.outcome)
	}
	return "other"
}

// P25.1 to P25.3, T1, P1: configs, disks, deeds at random, each told against the chapter's words worked out apart, with
// all that can be asked behind each; one more is asked nothing till its end.
func TestAtRandom(t *testing.T) {
	rnd := rand.New(rand.NewSource(2))
	ends := map[string]int{}
	for n := range 3000 {
		c := anyConfig(rnd)
		room := []int{api.MaxDisk, api.MaxDisk, 1 + rnd.Intn(300)}[n%3]
		g, bare := newRig(t, c, room), newRig(t, c, room)
		for range rnd.Intn(250) {
			d := anyDeed(rnd, g.w.stats(), n%2 == 0)
			want := g.w.do(d)
			wantTold(t, d.name(), g.do(d), want)
			wantTold(t, d.name()+", not asked", bare.do(d), want)
			g.wantAll(t, "behind "+d.name())
			g.wantOdds(t, "behind "+d.name())
			ends[endOf(d, want)]++
			if t.Failed() {
				t.Fatalf("run %d: %+v", n, c)
			}
		}
		bare.w = g.w
		bare.wantAll(t, "not asked")
		g.wantSynced(t, "at its end")
	}
	for _, why := range []string{"reason 0", "reason 1", "reason 2", "reason 3", "reason 4", "reason 5", "reason 6", "reason 7",
		"closed 0", "closed 1", "closed 2", "sent 0", "sent 1", "sent 2", "sent 3", "0 error 10", "1 error 10", "2 error 1",
		"2 error 10", "3 error 6", "3 error 10", "4 error 1", "4 error 10", "5 error 2"} {
		if ends[why] < 20 {
			t.Errorf("%d only ended so: %s", ends[why], why)
		}
	}
}

// P25.2, P25.3: all lists of five of a few deeds, behind two that were taken, against the chapter's words.
func TestAllShortLists(t *testing.T) {
	each := []deed{{does: lines, text: "a c 1 25"}, {does: lines, text: "cpu g 2 3"}, {does: serves}, {does: ticks, n: 4},
		{does: closes}, {does: flushes}, {does: flushes, outcome: api.Lost}, {does: crashes}}
	quick := but(plain(), func(c *api.Config) {
		c.Target, c.Interval, c.High, c.Idle, c.Room, c.Spill, c.Windows = 2, 3, 1, 3, 2, 1, 2
		c.Thresholds = [][]int{{0, 0}, {0, 0}, {0, 65536}}
	})
	lists := 1
	for range 5 {
		lists *= len(each)
	}
	for _, c := range []api.Config{plain(), quick} {
		for list := range lists {
			g := newRig(t, c, 30)
			l := []deed{each[0], {does: lines, text: "a c 1 5"}, each[2], each[2]}
			for left := list; len(l) < 9; left /= len(each) {
				l = append(l, each[left%len(each)])
			}
			for _, d := range l {
				wantTold(t, d.name(), g.do(d), g.w.do(d))
				wantStats(t, "behind "+d.name(), g.p, g.w.stats())
			}
			g.wantAll(t, "at its end")
			g.wantOdds(t, "at its end")
			if t.Failed() {
				t.Fatalf("list %d", list)
			}
		}
	}
}

// P25.4: many pipes on disks of their own, in turn, each as if it were alone; some are made while the others are under
// way.
func TestApart(t *testing.T) {
	rnd := rand.New(rand.NewSource(3))
	for range 30 {
		var rigs []*rig
		c := anyConfig(rnd)
		for n := range 400 {
			if n%80 == 0 {
				rigs = append(rigs, newRig(t, c, 500))
				if n%160 == 0 {
					c = anyConfig(rnd)
				}
			}
			at := rnd.Intn(len(rigs))
			d := anyDeed(rnd, rigs[at].w.stats(), true)
			wantTold(t, d.name(), rigs[at].do(d), rigs[at].w.do(d))
			for i, g := range rigs {
				g.wantAll(t, "pipe "+strconv.Itoa(i)+", behind a deed of pipe "+strconv.Itoa(at))
			}
			if t.Failed() {
				return
			}
		}
	}
}

// sink takes what is sent, and holds it against the lines that came: T2. It goes by what is told alone.
type sink struct {
	p      *Pipe
	c      api.Config
	queues [][]api.Event
	open   map[int64]map[place][]int64
	took   int
	begin  int64 // of the last one that it took, -1 ahead of the first
	events uint64
	taken  int
}

// changed is the class whose queue has so many more than s told, or -1.
func changed(s, now api.Stats, by int) int {
	for class, n := range now.Queued {
		if n-s.Queued[class] == by {
			return class
		}
	}
	return -1
}

// eventOf is a line's event, its tags rising by hand.
func eventOf(text string) (e api.Event, key string) {
	x := []byte(text)
	for i := range x {
		if x[i] == ' ' {
			key = string(x[:i])
			break
		}
	}
	switch text[len(key)+1] {
	case 'c':
		e.Kind = api.Count
	case 'g':
		e.Kind = api.Gauge
	default:
		e.Kind = api.Histo
	}
	rest := text[len(key)+3:]
	for i := range rest {
		if rest[i] == ' ' {
			e.Value, _ = strconv.ParseInt(rest[:i], 10, 64)
			e.Time, _ = strconv.ParseInt(rest[i+1:], 10, 64)
		}
	}
	if n := len(key) - 8; n > 0 && key[n:] == ",i=1,h=1" {
		key = key[:n] + ",h=1,i=1"
	}
	e.Name = key
	return e, key
}

// do does a deed, and notes what became of lines.
func (k *sink) do(t *testing.T, d deed) {
	s := k.p.Stats()
	switch d.does {
	case lines:
		if n, _ := k.p.Line(d.text); n == 0 {
			class := changed(s, k.p.Stats(), 1)
			e, _ := eventOf(d.text)
			k.queues[class] = append(k.queues[class], e)
		}
	case serves:
		n, _ := k.p.Serve()
		class := changed(s, k.p.Stats(), -1)
		if (n == 0) != (class < 0) {
			t.Fatalf("Serve = %d, of class %d", n, class)
		}
		if n != 0 {
			k.served(k.queues[class][0], n)
			k.queues[class] = k.queues[class][1:]
		}
	case flushes:
		k.flushed(t, d)
	case ticks:
		k.p.Tick(d.n)
	case closes:
		k.p.Close()
	}
}

func (k *sink) served(e api.Event, reason int) {
	if reason != api.Taken {
		return
	}
	k.taken++
	begin := e.Time - e.Time%k.c.Width
	if k.open[begin] == nil {
		k.open[begin] = map[place][]int64{}
	}
	at := place{e.Name, e.Kind}
	k.open[begin][at] = append(k.open[begin][at], e.Value)
}

func (k *sink) flushed(t *testing.T, d deed) {
	x, sent, err := k.p.Flush(d.outcome, d.n)
	if !sent {
		return
	}
	b, of := batch.Get(x)
	want := batchOf(k.took, b.Start, k.open[b.Start])
	if err != nil || of != nil || !reflect.DeepEqual(b, want) || b.Start <= k.begin || len(b.Rows) > k.c.Rows {
		t.Fatalf("behind one that begins at %d %+v is sent, want %+v, %v, %v", k.begin, b, want, err, of)
	}
	if b.Start+k.c.Width > k.p.Stats().Mark {
		t.Fatalf("a window from %d on is sent, the mark stands at %d", b.Start, k.p.Stats().Mark)
	}
	if d.outcome != api.Acked {
		return
	}
	for _, r := range b.Rows {
		k.events += r.Many
	}
	delete(k.open, b.Start)
	k.took, k.begin = k.took+1, b.Start
}

// T2: without a crash, each batch that is sent is what the events come to that were taken, and lie in its window, worked
// out from the lines that were told 0, and served; in the end each event that was taken has come, just once.
func TestWhatIsSent(t *testing.T) {
	rnd := rand.New(rand.NewSource(4))
	batches, events := 0, 0
	for range 1500 {
		c := anyConfig(rnd)
		g := newRig(t, c, api.MaxDisk)
		k := &sink{p: g.p, c: c, queues: make([][]api.Event, c.Classes), open: map[int64]map[place][]int64{}, begin: -1}
		for range rnd.Intn(400) {
			d := anyDeed(rnd, g.p.Stats(), false)
			if d.does == ticks && (d.n < 0 || d.n > 1000) {
				continue
			}
			k.do(t, d)
		}
		// No time is above MaxTime, so that what lies in the last windows stays open.
		for range 40 {
			k.do(t, deed{does: ticks, n: 1000})
			k.do(t, deed{does: closes})
			k.do(t, deed{does: flushes})
		}
		left := 0
		for begin, rows := range k.open {
			if begin+c.Width <= g.p.Stats().Mark {
				t.Errorf("a window from %d on didn't come, the mark stands at %d", begin, g.p.Stats().Mark)
			}
			for _, values := range rows {
				left += len(values)
			}
		}
		if s := g.p.Stats(); s.Seq != k.took || s.Spilled != 0 || s.Windows != len(k.open) {
			t.Errorf("%d came: %s", k.took, textOf(s))
		}
		if k.events+uint64(left) != uint64(k.taken) {
			t.Errorf("of %d events %d came, and %d are open", k.taken, k.events, left)
		}
		if t.Failed() {
			t.Fatalf("%+v", c)
		}
		batches, events = batches+k.took, events+int(k.events)
	}
	if batches < 5000 || events < 10000 {
		t.Errorf("%d batches came, with %d events", batches, events)
	}
}

// P25.2, P1: so many of all that nothing more could be kept by any of them: the disk, the queues and the table have room
// again and again.
func TestComeAndGo(t *testing.T) {
	c := but(plain(), func(c *api.Config) { c.Spill, c.Many, c.Room = 1, 3, 1 })
	p, err := New(c, newDisk(t, 300))
	if err != nil {
		t.Fatal(err)
	}
	for n := range 5000 {
		for _, text := range []string{"a c 1 ", "cpu g -1 ", "mem h 7 "} {
			if got, err := p.Line(text + strconv.Itoa(10*n)); got != 0 || err != nil {
				t.Fatalf("line %d: %d, %v", n, got, err)
			}
			if got, err := p.Serve(); got != api.Taken || err != nil {
				t.Fatalf("serve %d: %d, %v", n, got, err)
			}
		}
		many, err := p.Close()
		if many != min(n, 1) || err != nil {
			t.Fatalf("close %d: %d, %v", n, many, err)
		}
		if _, is, err := p.Flush(api.Acked, 0); is != (n > 0) || err != nil {
			t.Fatalf("flush %d: %v, %v", n, is, err)
		}
	}
	wantCount(t, "all", p, counted{0, api.Taken, 5000, 5000})
	wantStats(t, "all", p, api.Stats{Queued: []int{0, 0, 0}, Windows: 1, Seq: 4999, Mark: 49990})
}
