package pipe

import (
	"errors"
	"math"
	"math/rand"
	"reflect"
	"strconv"
	"strings"
	"testing"

	"noggin/api"
	"noggin/batch"
	"noggin/disk"
	"noggin/spill"
)

func farInts() []int {
	return []int{math.MinInt, math.MinInt + 1, -1 << 40, -1 << 31, -1000000, -2, -1, 1 << 31, last + 1, math.MaxInt - 1,
		math.MaxInt}
}

// number is a number of a config, with the least and the most that it may be, the others as in base.
type number struct {
	name        string
	set         func(c *api.Config, n int)
	least, most int
}

// base is a config whose numbers have all room that they may have.
func base() api.Config {
	c := plain()
	c.Low, c.High, c.Base, c.Cap = 0, 1000, 1, 1000000
	return c
}

func numbers() []number {
	return []number{
		{"Classes", func(c *api.Config, n int) { c.Classes = n }, 3, 3},
		{"Class", func(c *api.Config, n int) { c.Rules[1].Class = n }, 0, 2},
		{"Quanta[0]", func(c *api.Config, n int) { c.Quanta[0] = n }, 1, 1000},
		{"Quanta[2]", func(c *api.Config, n int) { c.Quanta[2] = n }, 1, 1000},
		{"Thresholds[0][0]", func(c *api.Config, n int) { c.Thresholds[0][0] = n }, 0, 0},
		{"Thresholds[2][2]", func(c *api.Config, n int) { c.Thresholds[2][2] = n }, 0, 65536},
		{"Room", func(c *api.Config, n int) { c.Room = n }, 1, 1000},
		{"Target", func(c *api.Config, n int) { c.Target = n }, 1, 1000000},
		{"Interval", func(c *api.Config, n int) { c.Interval = n }, 1, 1000000},
		{"Low", func(c *api.Config, n int) { c.Low = n }, 0, 1000},
		{"High", func(c *api.Config, n int) { c.High = n }, 0, 1000},
		{"Low of High 7", func(c *api.Config, n int) { c.High, c.Low = 7, n }, 0, 7},
		{"High of Low 7", func(c *api.Config, n int) { c.Low, c.High = 7, n }, 7, 1000},
		{"Hold", func(c *api.Config, n int) { c.Hold = n }, 1, 1000},
		{"Lateness", func(c *api.Config, n int) { c.Lateness = int64(n) }, 0, last},
		{"Idle", func(c *api.Config, n int) { c.Idle = int64(n) }, 1, last},
		{"Width", func(c *api.Config, n int) { c.Width = int64(n) }, 1, last},
		{"Windows", func(c *api.Config, n int) { c.Windows = n }, 1, 100},
		{"Rows", func(c *api.Config, n int) { c.Rows = n }, 1, 200},
		{"Spill", func(c *api.Config, n int) { c.Spill = n }, 1, 1000},
		{"Many", func(c *api.Config, n int) { c.Many = n }, 1, 100},
		{"Base", func(c *api.Config, n int) { c.Base = n }, 1, 1000000},
		{"Cap", func(c *api.Config, n int) { c.Cap = n }, 1, 1000000},
		{"Base of Cap 7", func(c *api.Config, n int) { c.Cap, c.Base = 7, n }, 1, 7},
		{"Cap of Base 7", func(c *api.Config, n int) { c.Base, c.Cap = 7, n }, 7, 1000000},
		{"Fails", func(c *api.Config, n int) { c.Fails = n }, 1, 1000},
		{"Pause", func(c *api.Config, n int) { c.Pause = n }, 1, 1000000},
	}
}

// atFirst is what Stats is to tell of a pipe that is new on a new disk.
func atFirst(c api.Config) api.Stats { return api.Stats{Queued: make([]int, c.Classes)} }

// wantMay holds May and New: the config is told by the words, too.
func wantMay(t *testing.T, name string, c api.Config, may bool) {
	t.Helper()
	is := deepCopy(c)
	if mayBe(c) != may {
		t.Errorf("%s: by the words it may be: %v", name, !may)
	}
	for range 2 {
		if May(c) != may {
			t.Errorf("%s: May = %v", name, !may)
		}
	}
	p, err := New(c, newDisk(t, 100))
	if !may && (p != nil || err != api.ErrArg) || may && (p == nil || err != nil) {
		t.Errorf("%s: New = %v, %v", name, p, err)
	}
	if p, err := New(c, nil); p != nil || err != api.ErrArg {
		t.Errorf("%s: New without a disk = %v, %v", name, p, err)
	}
	if !reflect.DeepEqual(c, is) {
		t.Errorf("%s: the config was turned", name)
	}
	if p != nil {
		wantStats(t, name, p, atFirst(c))
		wantCount(t, name, p, counted{0, api.Taken, 0, 0})
	}
}

// P25.1, P1: each number of a config at and about its ends, and far from them, the others right.
func TestMayOfNumbers(t *testing.T) {
	wantMay(t, "base", base(), true)
	wantMay(t, "plain", plain(), true)
	wantMay(t, "a zero one", api.Config{}, false)
	for _, f := range numbers() {
		near := []int{-1, 0, 1, f.least - 1, f.least, f.least + 1, f.most - 1, f.most, f.most + 1, f.most + 2, 2 * f.most}
		for _, n := range append(near, farInts()...) {
			c := but(base(), func(c *api.Config) { f.set(c, n) })
			wantMay(t, f.name+" "+strconv.Itoa(n), c, n >= f.least && n <= f.most)
		}
	}
}

// ofClasses is a config of so many classes, with so many levels.
func ofClasses(classes, levels int) api.Config {
	c := base()
	c.Classes, c.Rules, c.Quanta, c.Thresholds = classes, nil, nil, nil
	for range classes {
		c.Quanta = append(c.Quanta, 1)
		c.Thresholds = append(c.Thresholds, make([]int, levels))
	}
	return c
}

// P25.1: how many classes and levels there are.
func TestMayOfClasses(t *testing.T) {
	for classes := range 7 {
		for levels := range 11 {
			name := strconv.Itoa(classes) + " classes of " + strconv.Itoa(levels) + " levels"
			may := classes >= 1 && classes <= 4 && levels >= 1 && levels <= 8
			wantMay(t, name, ofClasses(classes, levels), may)
			for _, n := range []int{-1, 0, classes - 1, classes + 1, math.MinInt, math.MaxInt} {
				c := ofClasses(classes, levels)
				c.Classes = n
				wantMay(t, name+", told as "+strconv.Itoa(n), c, may && n == classes)
			}
		}
	}
}

// P25.1: lists of a config, the others right.
func TestMayOfLists(t *testing.T) {
	rules := func(l ...api.Rule) api.Config { return but(base(), func(c *api.Config) { c.Rules = l }) }
	quanta := func(l ...int) api.Config { return but(base(), func(c *api.Config) { c.Quanta = l }) }
	rows := func(l ...[]int) api.Config { return but(base(), func(c *api.Config) { c.Thresholds = l }) }
	long := strings.Repeat("x", 300)
	many := make([]api.Rule, 12)
	ten := []int{0, 0, 0}
	for _, r := range []struct {
		name string
		c    api.Config
		may  bool
	}{
		{"no rules", rules(), true},
		{"an empty list of rules", rules([]api.Rule{}...), true},
		{"a rule", rules(api.Rule{}), true},
		{"nine rules", rules(many[:9]...), true},
		{"ten rules", rules(many[:10]...), true},
		{"eleven rules", rules(many[:11]...), false},
		{"twelve rules", rules(many...), false},
		{"a Prefix that is empty", rules(api.Rule{Prefix: "", Class: 2}), true},
		{"a Prefix of 299 bytes", rules(api.Rule{Prefix: long[1:]}), true},
		{"a Prefix of 300 bytes", rules(api.Rule{Prefix: long}), true},
		{"a Prefix of 301 bytes", rules(api.Rule{Prefix: long + "x"}), false},
		{"a Prefix of any bytes", rules(api.Rule{Prefix: "\x00 \xff,="}), true},
		{"a Prefix that is twice there", rules(api.Rule{Prefix: "a"}, api.Rule{Prefix: "a", Class: 1}), true},
		{"the last one at fault", rules(api.Rule{}, api.Rule{}, api.Rule{Class: 3}), false},
		{"the first one at fault", rules(api.Rule{Class: -1}, api.Rule{}, api.Rule{}), false},
		{"no quanta", quanta(), false},
		{"fewer quanta", quanta(1, 1), false},
		{"more quanta", quanta(1, 1, 1, 1), false},
		{"five quanta", quanta(1, 1, 1, 1, 1), false},
		{"quanta at their ends", quanta(1, 1000, 1), true},
		{"a quantum of 0", quanta(1, 0, 1), false},
		{"a quantum of 1001", quanta(1, 1, 1001), false},
		{"no thresholds", rows(), false},
		{"thresholds of fewer classes", rows(ten, ten), false},
		{"thresholds of more classes", rows(ten, ten, ten, ten), false},
		{"thresholds of five classes", rows(ten, ten, ten, ten, ten), false},
		{"thresholds without levels", rows(nil, nil, nil), false},
		{"one class without levels", rows(ten, nil, ten), false},
		{"the first class without levels", rows(nil, ten, ten), false},
		{"a class with fewer levels", rows(ten, ten[:2], ten), false},
		{"the first class with fewer levels", rows(ten[:2], ten, ten), false},
		{"a class with more levels", rows(ten, ten, []int{0, 0, 0, 0}), false},
		{"one level", rows(ten[:1], ten[:1], ten[:1]), true},
		{"thresholds that rise", rows([]int{0, 1, 2}, []int{0, 5, 5}, []int{0, 65535, 65536}), true},
		{"a threshold below the one ahead", rows(ten, []int{0, 2, 1}, ten), false},
		{"a threshold above 0 at level 0", rows(ten, ten, []int{1, 1, 1}), false},
		{"a threshold below 0", rows(ten, ten, []int{-1, 0, 0}), false},
		{"a threshold above all parts", rows([]int{0, 0, 65537}, ten, ten), false},
	} {
		wantMay(t, r.name, r.c, r.may)
	}
}

// P25.1: configs at random, against the words of each layer.
func TestMayAtRandom(t *testing.T) {
	rnd := rand.New(rand.NewSource(1))
	all := numbers()
	many := [2]int{}
	for range 4000 {
		c := ofClasses(1+rnd.Intn(4), 1+rnd.Intn(8))
		c.Rules = make([]api.Rule, 2+rnd.Intn(9))
		for range rnd.Intn(5) {
			f := all[rnd.Intn(len(all))]
			if strings.HasSuffix(f.name, "]") || f.name == "Classes" {
				continue
			}
			f.set(&c, []int{f.least, f.most, f.least + 1, f.most - 1, f.least - 1, f.most + 1, 1, 5, 8}[rnd.Intn(9)])
		}
		for i, l := range c.Thresholds {
			for k := range l {
				if k > 0 && rnd.Intn(3) == 0 {
					l[k] = l[k-1] + rnd.Intn(30000)
				} else if k > 0 {
					l[k] = l[k-1]
				}
			}
			c.Quanta[i] = 1 + rnd.Intn(1003)
		}
		may := mayBe(c)
		if may {
			many[0]++
		} else {
			many[1]++
		}
		wantMay(t, "a config at random", c, may)
		if t.Failed() {
			t.Fatalf("%+v", c)
		}
	}
	if many[0] < 500 || many[1] < 500 {
		t.Errorf("%d may be, %d may not", many[0], many[1])
	}
}

// P25.1: with ErrArg the disk is as it was: down, with bytes that are cut off, or removed, where a spill is opened.
func TestNewThatMayNotTurnsNothing(t *testing.T) {
	for _, f := range numbers() {
		if f.name == "Classes" {
			continue
		}
		c := but(base(), func(c *api.Config) { f.set(c, math.MinInt) })
		d := newDisk(t, 100)
		for _, part := range []int{3, 9} {
			if err := d.Append(part, []byte("torn")); err != nil {
				t.Fatal(err)
			}
		}
		d.Crash(8)
		if p, err := New(c, d); p != nil || err != api.ErrArg {
			t.Errorf("%s: New = %v, %v", f.name, p, err)
		}
		if _, err := d.Read(3); err != api.ErrGone || d.Used() != 8 || len(d.Parts()) != 2 {
			t.Errorf("%s: the disk was turned: %v, %v, %d bytes", f.name, err, d.Parts(), d.Used())
		}
	}
}

// onDisk is a disk with parts, as others left it, and the same by the words.
func onDisk(t *testing.T, parts map[int]string) (*disk.Disk, *plates) {
	t.Helper()
	d, of := newDisk(t, api.MaxDisk), newPlates(api.MaxDisk)
	for n, text := range parts {
		if err := d.Append(n, []byte(text)); err != nil {
			t.Fatal(err)
		}
		of.parts[n] = plate{text: text}
	}
	return d, of
}

// recordOf are the bytes on a disk of batches without rows, one behind the other.
func recordOf(t *testing.T, seqs ...int) string {
	t.Helper()
	text := ""
	for _, seq := range seqs {
		x, err := batch.Put(api.Batch{Seq: seq})
		if err != nil {
			t.Fatal(err)
		}
		text += laid(string(x))
	}
	return text
}

// P25.1: New on disks that hold something: Spilled and Seq are the spill's, all else is as on a new one.
func TestNewOnDisks(t *testing.T) {
	r := func(seqs ...int) string { return recordOf(t, seqs...) }
	const great = 1<<31 - 1
	for _, x := range []struct {
		name         string
		parts        map[int]string
		spilled, seq int
		err          error
	}{
		{"new", nil, 0, 0, nil},
		{"an empty part", map[int]string{0: ""}, 0, 0, nil},
		{"an empty part 7", map[int]string{7: ""}, 0, 7, nil},
		{"one that waits", map[int]string{0: r(0)}, 1, 1, nil},
		{"two that wait", map[int]string{0: r(0, 1)}, 2, 2, nil},
		{"as many as may wait", map[int]string{0: r(0, 1), 2: r(2)}, 3, 3, nil},
		{"more than may wait", map[int]string{0: r(0, 1), 2: r(2, 3), 4: r(4)}, 5, 5, nil},
		{"from 4 on", map[int]string{4: r(4, 5), 6: r(6)}, 3, 7, nil},
		{"torn", map[int]string{4: r(4, 5) + "\x03\x06"}, 2, 6, nil},
		{"a part that doesn't count", map[int]string{0: r(0, 1), 3: r(3)}, 2, 2, nil},
		{"the last one that a table may begin with", map[int]string{999999: r(999999)}, 1, 1000000, nil},
		{"one more", map[int]string{1000000: r(1000000)}, 1, 1000001, nil},
		{"far more", map[int]string{1234567890: r(1234567890)}, 1, 1234567891, nil},
		{"the greatest one", map[int]string{great: r(great)}, 1, great + 1, nil},
		{"behind all", map[int]string{math.MaxInt: ""}, 0, math.MaxInt, nil},
		{"no batch", map[int]string{0: "\x01x"}, 0, 0, api.ErrForm},
		{"another number", map[int]string{0: r(1)}, 0, 0, api.ErrForm},
		{"another number behind", map[int]string{0: r(0, 2)}, 0, 0, api.ErrForm},
		{"a part with another number", map[int]string{0: r(0, 1), 2: r(3)}, 0, 0, api.ErrForm},
	} {
		for _, down := range []bool{false, true} {
			d, of := onDisk(t, x.parts)
			if down {
				d.Crash(math.MaxInt)
				of.crash(math.MaxInt)
			}
			wantNewOn(t, x.name, d, of, x.spilled, x.seq, x.err)
		}
	}
}

func wantNewOn(t *testing.T, name string, d *disk.Disk, of *plates, spilled, seq int, want error) {
	t.Helper()
	p, err := New(plain(), d)
	w, by := newWords(plain(), of)
	if err != want || by != want || (p != nil) != (want == nil) {
		t.Fatalf("%s: New = %v, %v, by the words %v, want %v", name, p, err, by, want)
	}
	if p == nil {
		return
	}
	s := atFirst(plain())
	s.Spilled, s.Seq = spilled, seq
	wantStats(t, name, p, s)
	g := &rig{p, d, w}
	g.wantAll(t, name)
	g.wantSynced(t, name)
}

// P25.1: New tells spill.Open's error, itself.
func TestNewTellsTheSpillsError(t *testing.T) {
	d, _ := onDisk(t, map[int]string{0: "\x01x"})
	_, want := spill.Open(d, 2, 3)
	if _, err := New(plain(), d); err != want || err != api.ErrForm {
		t.Errorf("New = %v, want %v", err, want)
	}
	if _, err := New(plain(), d); !errors.Is(err, api.ErrForm) {
		t.Errorf("New again = %v", err)
	}
}

// P25.2, the chapter's example: a line that doesn't parse.
func TestExample(t *testing.T) {
	wantRun(t, "the chapter's", plain(), 1000, comes("", api.Malformed), counts(counted{3, api.Malformed, 1, 1}))
}

// P25.2: lines without an event, or whose event has no key, are of the odd class, whatever rules and queues there are.
func TestMalformed(t *testing.T) {
	l := []string{"", " ", "cpu", "cpu c 1", "cpu c 1 ", "cpu c 1 1 ", "cpu x 1 1", "cpu c 01 1", "cpu c -0 1", "cpu c 1 -1",
		"cpu c 1 1099511627777", "cpu c 9223372036854775808 1", "CPU c 1 1", "cpu,a c 1 1", "cpu,a=1,a=2 c 1 1",
		"cpu,a=1,b=2,a=1 c 1 1", "cpu,a=1,b=1,c=1,d=1,e=1,f=1,g=1 c 1 1", "abcdefghijklmnopq c 1 1", "\x00", "\xff c 1 1",
		strings.Repeat("a", 300), strings.Repeat("a", 301), strings.Repeat("a", 100000), "cpu c 1 1\n", " cpu c 1 1"}
	var steps []step
	for i, text := range l {
		n := uint64(i + 1)
		steps = append(steps, comes(text, api.Malformed), is(api.Stats{}, 0, 0, 0),
			counts(counted{3, api.Malformed, n, n}, counted{0, api.Malformed, 0, 0}, counted{2, api.Malformed, 0, 0}))
	}
	wantRun(t, "malformed", plain(), 1000, append(steps, serve(0), counts(counted{3, api.Taken, 25, 0}))...)
	// Also where the first rule takes all, all but level 0 sheds all, and the queue is full.
	c := but(plain(), func(c *api.Config) {
		c.Rules, c.Room, c.High = []api.Rule{{Class: 0}}, 1, 0
		c.Thresholds = [][]int{{0, 65536}, {0, 65536}, {0, 65536}}
	})
	wantRun(t, "malformed, at level 1", c, 1000, comes("a c 1 1", 0), comes("a,b=1,b=1 c 1 1", api.Malformed),
		comes("b c 1 1", api.QueueFull), tick(0), is(api.Stats{Level: 1}, 1, 0, 0), comes("a", api.Malformed),
		comes("b c 1 1", api.Sampled), counts(counted{3, api.Malformed, 2, 2}, counted{0, api.Sampled, 3, 1}))
}

// P25.2: lines of each class: by the first rule whose Prefix the key begins with, and the key's tags rise.
func TestClasses(t *testing.T) {
	c := but(plain(), func(c *api.Config) {
		c.Rules = []api.Rule{{Prefix: "cpu,a=1,b", Class: 1}, {Prefix: "cpu", Class: 0}, {Prefix: "cpu.x", Class: 2},
			{Prefix: "mem c", Class: 0}, {Prefix: "mem", Class: 1}, {Prefix: "n", Class: 2}}
	})
	wantRun(t, "classes", c, 1000,
		comes("cpu c 1 1", 0), is(api.Stats{}, 1, 0, 0),
		comes("cpu.x c 1 1", 0), is(api.Stats{}, 2, 0, 0),
		comes("cpu,b=2,a=1 g 1 1", 0), is(api.Stats{}, 2, 1, 0),
		comes("cpu,b=2,a=11 g 1 1", 0), is(api.Stats{}, 3, 1, 0),
		comes("mem c 1 1", 0), is(api.Stats{}, 3, 2, 0),
		comes("cp c 1 1", 0), is(api.Stats{}, 3, 2, 1),
		comes("n h 1 1", 0), is(api.Stats{}, 3, 2, 2),
		comes("a,cpu=1 h 1 1", 0), is(api.Stats{}, 3, 2, 3),
		counts(counted{0, 1, 3, 0}, counted{1, 2, 2, 0}, counted{2, 7, 3, 0}, counted{3, 1, 0, 0}))
	none := but(plain(), func(c *api.Config) { c.Rules = nil })
	wantRun(t, "no rules", none, 1000, comes("cpu c 1 1", 0), comes("a c 1 1", 0), is(api.Stats{}, 0, 0, 2))
	one := but(ofClasses(1, 1), func(c *api.Config) { c.Room = 3 })
	wantRun(t, "one class", one, 1000, comes("cpu c 1 1", 0), comes("", api.Malformed), is(api.Stats{}, 1),
		counts(counted{0, 1, 1, 0}, counted{1, 1, 1, 1}, counted{2, 1, 0, 0}))
}

// P25.2: Count at classes and reasons that there aren't: of a class how many came, all the same.
func TestCountOfNone(t *testing.T) {
	l := []step{comes("a c 1 1", 0), comes("", api.Malformed), serve(api.Taken)}
	for _, n := range append(farInts(), 4, 5, -3) {
		l = append(l, counts(counted{n, api.Taken, 0, 0}, counted{n, api.Malformed, 0, 0}, counted{n, n, 0, 0}))
	}
	for _, n := range append(farInts(), 0, 8, 9) {
		l = append(l, counts(counted{2, n, 1, 0}, counted{3, n, 1, 0}, counted{0, n, 0, 0}))
	}
	wantRun(t, "none", plain(), 1000, l...)
}

// P25.2: Sampled, at each level: a's part is 10540, b's is 11749.
func TestSampled(t *testing.T) {
	c := but(plain(), func(c *api.Config) {
		c.Thresholds = [][]int{{0, 0, 0, 0}, {0, 0, 0, 65536}, {0, 10540, 10541, 11750}}
		c.High, c.Low, c.Hold = 2, 1, 1
	})
	a, b, m := "a c 1 1", "b c 1 1", "mem c 1 1"
	wantRun(t, "each level", c, 1000, comes(a, 0), comes(a, 0), comes(b, 0), comes(m, 0), comes("cpu c 1 1", 0),
		tick(1), is(api.Stats{Now: 1, Level: 1}, 1, 1, 3),
		comes(a, 0), comes(b, 0), tick(1), is(api.Stats{Now: 2, Level: 2}, 1, 1, 5),
		comes(a, api.Sampled), comes(b, 0), comes(m, 0), tick(0), is(api.Stats{Now: 2, Level: 3}, 1, 2, 6),
		comes(a, api.Sampled), comes(b, api.Sampled), comes(m, api.Sampled), comes("cpu c 1 1", 0), comes("x", 1),
		is(api.Stats{Now: 2, Level: 3}, 2, 2, 6), tick(1), is(api.Stats{Now: 3, Level: 3}, 2, 2, 6),
		counts(counted{0, api.Sampled, 2, 0}, counted{1, api.Sampled, 3, 1}, counted{2, api.Sampled, 9, 3},
			counted{3, api.Sampled, 1, 0}))
	// The whole key is what is kept or not, not the name alone; thresholds are its own class's.
	tagged := but(plain(), func(c *api.Config) {
		c.Thresholds, c.High = [][]int{{0, 65536}, {0, 0}, {0, partOf("a,b=1,c=2") + 1}}, 0
		c.Thresholds[1][1] = partOf("mem,b=1,c=2")
	})
	wantRun(t, "by keys", tagged, 1000, comes("cpu c 1 1", 0), tick(0), comes("a,c=2,b=1 c 1 1", api.Sampled),
		comes("mem,c=2,b=1 c 1 1", 0), comes("cpu,c=2,b=1 c 1 1", api.Sampled), is(api.Stats{Level: 1}, 1, 1, 0))
	// Thresholds that keep all, at each level.
	l := []step{}
	low := but(plain(), func(c *api.Config) { c.High = 0 })
	for range 6 {
		l = append(l, comes(a, 0), comes(b, 0), comes(m, 0), comes("cpu h 1 1", 0), tick(1))
	}
	l = append(l, is(api.Stats{Now: 6, Level: 2}, 6, 6, 12), counts(counted{2, api.Sampled, 12, 0}))
	wantRun(t, "all are kept", low, 1000, l...)
}

// P25.2: what isn't kept is Sampled also where its queue is full.
func TestSampledAheadOfFull(t *testing.T) {
	c := but(plain(), func(c *api.Config) {
		c.Thresholds, c.High, c.Room = [][]int{{0, 0}, {0, 0}, {0, 10541}}, 0, 1
	})
	wantRun(t, "both", c, 1000, comes("b c 1 1", 0), comes("a c 1 1", api.QueueFull), tick(0),
		comes("a c 1 1", api.Sampled), comes("b c 1 1", api.QueueFull), is(api.Stats{Level: 1}, 0, 0, 1),
		counts(counted{2, api.Sampled, 4, 1}, counted{2, api.QueueFull, 4, 2}))
}

// P25.2: a queue that is full, the others not; once one is served, there is room again.
func TestFull(t *testing.T) {
	c := but(plain(), func(c *api.Config) { c.Room = 2 })
	wantRun(t, "room 2", c, 1000, comes("a c 1 1", 0), comes("a c 2 1", 0), comes("a c 3 1", api.QueueFull),
		comes("b g 4 1", api.QueueFull), comes("cpu c 1 1", 0), comes("mem c 1 1", 0), comes("mem c 1 1", 0),
		comes("mem c 1 1", api.QueueFull), is(api.Stats{}, 1, 2, 2), serve(api.Taken), serve(api.Taken),
		is(api.Stats{Windows: 1, Mark: 1}, 0, 1, 2), comes("a c 5 1", api.QueueFull), comes("mem c 1 1", 0), serve(api.Taken),
		comes("a c 6 1", 0), comes("a c 7 1", api.QueueFull),
		counts(counted{2, api.QueueFull, 7, 4}, counted{1, api.QueueFull, 4, 1}, counted{0, api.QueueFull, 1, 0}))
	most := but(plain(), func(c *api.Config) { c.Room = 1000 })
	wantRun(t, "room 1000", most, 1000, append(alike(1000, comes("a c 1 1", 0)), comes("a c 1 1", api.QueueFull),
		is(api.Stats{}, 0, 0, 1000))...)
	least := but(plain(), func(c *api.Config) { c.Room = 1 })
	wantRun(t, "room 1", least, 1000, alike(5, comes("a g 1 1", 0), comes("a g 2 1", api.QueueFull), serve(api.Taken))...)
}

// P25.2: what comes stands behind what came before it: of a Gauge the last one that was served is told.
func TestInTheirOrder(t *testing.T) {
	b := api.Batch{Seq: 0, Rows: []api.Row{rowOf("a", api.Gauge, 5, -7, 3), rowOf("b", api.Gauge, 2)}}
	wantRun(t, "in order", plain(), 1000, comes("a g 5 1", 0), comes("a g -7 2", 0), comes("b g 2 3", 0),
		comes("a g 3 1", 0), comes("a g 9 12", 0), serve(api.Taken), is(api.Stats{Windows: 1, Mark: 1}, 0, 0, 4),
		serve(api.Taken), is(api.Stats{Windows: 1, Mark: 2}, 0, 0, 3), serve(api.Taken),
		is(api.Stats{Windows: 1, Mark: 3}, 0, 0, 2), serve(api.Taken), is(api.Stats{Windows: 1, Mark: 3}, 0, 0, 1),
		serve(api.Taken), is(api.Stats{Windows: 2, Mark: 12}, 0, 0, 0), closed(1), sent(api.Acked, 0, b))
}

// P25.2: where nothing is queued none is served, and nothing is counted.
func TestServeNothing(t *testing.T) {
	l := alike(3, serve(0), is(api.Stats{}, 0, 0, 0))
	for class := range 4 {
		for reason := range reasons {
			l = append(l, counts(counted{class, reason, 0, 0}))
		}
	}
	l = append(l, comes("a c 1 1", 0), serve(api.Taken), serve(0), serve(0),
		counts(counted{2, api.Taken, 1, 1}, counted{0, api.Taken, 0, 0}), comes("", api.Malformed), serve(0),
		comes("cpu c 1 1", 0), serve(api.Taken), serve(0))
	wantRun(t, "nothing", plain(), 1000, l...)
}

// turnsOf are lines of each class, so many of each, and then a serve for each of the classes.
func turnsOf(many []int, order ...int) []step {
	var l []step
	left := append([]int(nil), many...)
	for class, name := range []string{"cpu", "mem", "a"} {
		l = append(l, alike(many[class], comes(name+" c 1 1", 0))...)
	}
	windows, mark := 0, int64(0)
	for _, class := range order {
		left[class]--
		windows, mark = 1, 1
		now := append([]int(nil), left...)
		l = append(l, serve(api.Taken), is(api.Stats{Windows: windows, Mark: mark}, now...))
	}
	return l
}

// P25.2: turns with cost 1 of each: a class is served as often as its quantum tells, one behind the other.
func TestTurns(t *testing.T) {
	of := func(l ...int) api.Config { return but(plain(), func(c *api.Config) { c.Quanta = l }) }
	wantRun(t, "one class", of(1, 1, 1), 1000, turnsOf([]int{0, 3, 0}, 1, 1, 1)...)
	wantRun(t, "alike", of(1, 1, 1), 1000, turnsOf([]int{2, 2, 2}, 0, 1, 2, 0, 1, 2)...)
	wantRun(t, "two of three", of(1, 1, 1), 1000, turnsOf([]int{2, 0, 2}, 0, 2, 0, 2)...)
	wantRun(t, "2, 1, 3", of(2, 1, 3), 1000, turnsOf([]int{5, 3, 7}, 0, 0, 1, 2, 2, 2, 0, 0, 1, 2, 2, 2, 0, 1, 2)...)
	wantRun(t, "one has less", of(2, 1, 3), 1000, turnsOf([]int{1, 3, 2}, 0, 1, 2, 2, 1, 1)...)
	wantRun(t, "the greatest", of(1000, 1, 1), 1000, turnsOf([]int{6, 2, 1}, 0, 0, 0, 0, 0, 0, 1, 2, 1)...)
	// What comes while others are served: a class that had nothing for a while has no credit left of its last turn.
	wantRun(t, "nothing for a while", of(3, 1, 1), 1000, comes("cpu c 1 1", 0), comes("a c 1 1", 0), serve(api.Taken),
		is(api.Stats{Windows: 1, Mark: 1}, 0, 0, 1), serve(api.Taken), is(api.Stats{Windows: 1, Mark: 1}, 0, 0, 0),
		comes("a c 1 1", 0), comes("cpu c 1 1", 0), comes("cpu c 1 1", 0), comes("cpu c 1 1", 0), comes("cpu c 1 1", 0),
		serve(api.Taken), is(api.Stats{Windows: 1, Mark: 1}, 3, 0, 1), serve(api.Taken), serve(api.Taken),
		is(api.Stats{Windows: 1, Mark: 1}, 1, 0, 1), serve(api.Taken), is(api.Stats{Windows: 1, Mark: 1}, 1, 0, 0),
		serve(api.Taken))
	// Turns are asked also where none has something: then the first class has no credit left, and mem is next.
	wantRun(t, "none has something", of(3, 1, 1), 1000, comes("cpu c 1 1", 0), serve(api.Taken), serve(0),
		comes("cpu c 1 1", 0), comes("mem c 1 1", 0), serve(api.Taken), is(api.Stats{Windows: 1, Mark: 1}, 1, 0, 0))
	wantRun(t, "not asked", of(3, 1, 1), 1000, comes("cpu c 1 1", 0), serve(api.Taken),
		comes("cpu c 1 1", 0), comes("mem c 1 1", 0), serve(api.Taken), is(api.Stats{Windows: 1, Mark: 1}, 0, 1, 0))
}

// P25.2: what waited so long that its class's control drops it: below Target, at it, above it; below Interval, at it,
// above it.
func TestDelayed(t *testing.T) {
	a := comes("a c 1 1", 0)
	yes, no := serve(api.Taken), serve(api.Delayed)
	wantRun(t, "at Target", plain(), 1000, row(alike(9, a), []step{tick(4), yes, tick(1), yes, tick(9), yes, tick(1), no,
		yes, tick(9), yes, tick(1), no, tick(6), yes, tick(1), no,
		counts(counted{2, api.Delayed, 9, 3}, counted{2, api.Taken, 9, 6})})...)
	wantRun(t, "one above Target", plain(), 1000, row(alike(5, a), []step{tick(6), yes, tick(9), yes, tick(1), no,
		tick(10), no})...)
	wantRun(t, "one above Interval", plain(), 1000, row(alike(5, a), []step{tick(5), yes, tick(11), no, tick(9), yes,
		tick(1), no})...)
	wantRun(t, "one below Target, for long", plain(), 1000, alike(9, a, tick(4), yes, tick(9))...)
	wantRun(t, "calm again", plain(), 1000, a, a, a, tick(5), yes, a, tick(3), yes, yes, yes, a, a, tick(6), yes, tick(1),
		yes, a, tick(8), yes)
	// Behind four drops, it drops again within 16 intervals: two fewer are counted, so that the next pause is 7, not 10.
	wantRun(t, "again soon", plain(), 1000, row(alike(6, a), []step{tick(5), yes, tick(10), no, tick(10), no, tick(7), no,
		tick(5), no, is(api.Stats{Now: 37, Windows: 1, Mark: 1}, 0, 0, 1), a, a, tick(0), yes, tick(3), yes, yes},
		alike(4, a), []step{tick(5), yes, tick(10), no, tick(6), yes, tick(1), no})...)
	// And as many behind 16 intervals: from 1 again.
	wantRun(t, "again late", plain(), 1000, row(alike(6, a), []step{tick(5), yes, tick(10), no, tick(10), no, tick(7), no,
		tick(5), no, a, tick(3), yes, yes, tick(152)}, alike(4, a), []step{tick(5), yes, tick(10), no, tick(7), yes,
		tick(3), no})...)
}

// P25.2: each class has a control of its own.
func TestDelayedByClass(t *testing.T) {
	c := but(plain(), func(c *api.Config) { c.Quanta = []int{2, 1, 1} })
	wantRun(t, "by class", c, 1000, row(alike(4, comes("cpu c 1 1", 0)), alike(2, comes("mem c 1 1", 0)), []step{
		tick(5), serve(api.Taken), is(api.Stats{Now: 5, Windows: 1, Mark: 1}, 3, 2, 0), tick(10), serve(api.Delayed),
		is(api.Stats{Now: 15, Windows: 1, Mark: 1}, 2, 2, 0), serve(api.Taken),
		is(api.Stats{Now: 15, Windows: 1, Mark: 1}, 2, 1, 0), tick(10), serve(api.Delayed), serve(api.Taken),
		serve(api.Delayed), is(api.Stats{Now: 25, Windows: 1, Mark: 1}, 0, 0, 0),
		counts(counted{0, api.Delayed, 4, 2}, counted{0, api.Taken, 4, 2}, counted{1, api.Delayed, 2, 1},
			counted{1, api.Taken, 2, 1})})...)
}

// P25.2: how long an event waited is told from when it came, not from when it stood at the front.
func TestDelayedFromWhenItCame(t *testing.T) {
	a := comes("a c 1 1", 0)
	wantRun(t, "from when it came", plain(), 1000, a, tick(3), a, tick(2), serve(api.Taken), tick(10), a,
		serve(api.Delayed), tick(4), serve(api.Taken), a, tick(20), serve(api.Taken), a, tick(9), serve(api.Taken))
}

// P25.2: what is Delayed is neither seen by the mark nor added to the table.
func TestDelayedIsUnseen(t *testing.T) {
	c := but(plain(), func(c *api.Config) { c.Idle = 12 })
	wantRun(t, "unseen", c, 1000, comes("a c 1 7", 0), comes("a c 1 99", 0), comes("b c 1 12", 0), tick(5),
		serve(api.Taken), tick(10), serve(api.Delayed), is(api.Stats{Now: 15, Windows: 1, Mark: 7}, 0, 0, 1),
		serve(api.Taken), is(api.Stats{Now: 15, Windows: 2, Mark: 12}, 0, 0, 0), closed(1), sent(api.Acked, 0, ones(0, 0, 1)))
	wantRun(t, "idle", c, 1000, comes("a c 1 7", 0), comes("a c 1 99", 0), tick(5), serve(api.Taken), tick(10),
		serve(api.Delayed), tick(1), is(api.Stats{Now: 16, Windows: 1, Mark: 7}, 0, 0, 0), tick(1),
		is(api.Stats{Now: 17, Windows: 1, Mark: 8}, 0, 0, 0))
}

// P25.2: a late event: the mark stands at its window's end, or one ahead of it.
func TestLate(t *testing.T) {
	a := func(time, reason int) []step {
		return []step{comes("a c 1 "+strconv.Itoa(time), 0), serve(reason)}
	}
	wantRun(t, "at the end", plain(), 1000, row(a(20, api.Taken), a(19, api.Late), a(10, api.Late), a(0, api.Late),
		a(20, api.Taken), []step{is(api.Stats{Windows: 1, Mark: 20}, 0, 0, 0), counts(counted{2, api.Late, 5, 3})})...)
	wantRun(t, "one ahead", plain(), 1000, row(a(19, api.Taken), a(10, api.Taken), a(9, api.Late), a(19, api.Taken),
		[]step{is(api.Stats{Windows: 1, Mark: 19}, 0, 0, 0)}, a(20, api.Taken), a(19, api.Late))...)
	c := but(plain(), func(c *api.Config) { c.Lateness = 5 })
	wantRun(t, "a lateness", c, 1000, row(a(24, api.Taken), a(10, api.Taken), a(9, api.Late), a(25, api.Taken), a(19, api.Late),
		a(20, api.Taken), []step{is(api.Stats{Windows: 2, Mark: 20}, 0, 0, 0)})...)
	// By the clock the mark goes on too, when it was idle.
	idle := but(plain(), func(c *api.Config) { c.Idle = 3 })
	wantRun(t, "idle", idle, 1000, row(a(17, api.Taken), []step{tick(2)}, a(10, api.Taken), []step{tick(2)},
		a(10, api.Taken), []step{tick(3), is(api.Stats{Now: 7, Windows: 1, Mark: 20}, 0, 0, 0)}, a(19, api.Late),
		a(20, api.Taken))...)
	// A late one is of no window, also where that window is open still, or there is no room.
	full := but(plain(), func(c *api.Config) { c.Windows, c.Rows = 1, 1 })
	wantRun(t, "no room", full, 1000, row(a(5, api.Taken), a(15, api.NoRoom), a(5, api.Late), []step{
		comes("b c 1 6", 0), serve(api.Late), is(api.Stats{Windows: 1, Mark: 15}, 0, 0, 0), closed(1)}, a(15, api.Taken),
		[]step{sent(api.Acked, 0, ones(0, 0, 1))})...)
}

// P25.2: the mark sees late ones, and those without room, at the clock: it isn't idle then.
func TestSeenAllTheSame(t *testing.T) {
	c := but(plain(), func(c *api.Config) { c.Idle, c.Windows = 10, 1 })
	wantRun(t, "late", c, 1000, comes("a c 1 50", 0), serve(api.Taken), tick(6), comes("a c 1 3", 0), serve(api.Late), tick(9),
		is(api.Stats{Now: 15, Windows: 1, Mark: 50}, 0, 0, 0), tick(1), is(api.Stats{Now: 16, Windows: 1, Mark: 51}, 0, 0, 0))
	wantRun(t, "no room", c, 1000, comes("a c 1 50", 0), serve(api.Taken), tick(6), comes("a c 1 60", 0), serve(api.NoRoom),
		is(api.Stats{Now: 6, Windows: 1, Mark: 60}, 0, 0, 0), tick(9),
		is(api.Stats{Now: 15, Windows: 1, Mark: 60}, 0, 0, 0), tick(1), is(api.Stats{Now: 16, Windows: 1, Mark: 61}, 0, 0, 0))
	wantRun(t, "taken", c, 1000, comes("a c 1 50", 0), serve(api.Taken), tick(6), comes("a c 1 50", 0), serve(api.Taken),
		tick(9), is(api.Stats{Now: 15, Windows: 1, Mark: 50}, 0, 0, 0), tick(1),
		is(api.Stats{Now: 16, Windows: 1, Mark: 51}, 0, 0, 0))
	wantRun(t, "queued alone", c, 1000, comes("a c 1 50", 0), serve(api.Taken), tick(6), comes("a c 1 70", 0), tick(9),
		is(api.Stats{Now: 15, Windows: 1, Mark: 59}, 0, 0, 1))
}

// P25.2: no room, of windows and of rows; where there is room again, what comes then is taken.
func TestNoRoom(t *testing.T) {
	c := but(plain(), func(c *api.Config) { c.Windows, c.Rows, c.Lateness = 2, 2, 10 })
	b := api.Batch{Rows: []api.Row{rowOf("a", api.Count, 1, 5), rowOf("a", api.Gauge, 2)}}
	wantRun(t, "rows", c, 1000, comes("a c 1 1", 0), serve(api.Taken), comes("a g 2 2", 0), serve(api.Taken),
		comes("a h 3 3", 0), serve(api.NoRoom), comes("b c 4 3", 0), serve(api.NoRoom), comes("a c 5 4", 0),
		serve(api.Taken), comes("b c 6 11", 0), serve(api.Taken), counts(counted{2, api.NoRoom, 6, 2}),
		is(api.Stats{Windows: 2, Mark: 1}, 0, 0, 0), comes("a c 1 25", 0), serve(api.NoRoom), comes("a c 1 30", 0),
		serve(api.NoRoom), is(api.Stats{Windows: 2, Mark: 20}, 0, 0, 0), closed(2), comes("a c 1 25", 0), serve(api.Taken),
		sent(api.Acked, 0, b), is(api.Stats{Windows: 1, Spilled: 1, Seq: 2, Mark: 20}, 0, 0, 0))
}

// P25.2: what is taken comes to its row: values of each kind, of keys whose tags come in any order.
func TestTaken(t *testing.T) {
	b := api.Batch{Start: 10, Rows: []api.Row{
		rowOf("a", api.Histo, 0, 5, -9, 7), rowOf("a,x=1,y=2", api.Count, math.MaxInt64, 1),
		rowOf("a,x=1,y=2", api.Gauge, math.MinInt64), rowOf("b", api.Count, math.MinInt64, -1)}}
	l := []step{comes("a h 0 10", 0), comes("a,y=2,x=1 c 9223372036854775807 11", 0), comes("a h 5 19", 0),
		comes("b c -9223372036854775808 15", 0), comes("a,x=1,y=2 c 1 12", 0), comes("a h -9 10", 0), comes("a h 7 19", 0),
		comes("a,y=2,x=1 g -9223372036854775808 13", 0), comes("b c -1 19", 0)}
	l = append(l, alike(9, serve(api.Taken))...)
	l = append(l, serve(0), closed(0), comes("z c 1 20", 0), serve(api.Taken), closed(1), sent(api.Acked, 0, b))
	wantRun(t, "all kinds", plain(), 1000, l...)
}

// P25.2, P1: how far the clock may go on.
func TestTick(t *testing.T) {
	wrong := func(n int) step { return tick(n).but(api.ErrArg) }
	now := func(n int64) step { return is(api.Stats{Now: n}, 0, 0, 0) }
	l := []step{tick(0), now(0), tick(1), now(1)}
	for _, n := range append(farInts(), last) {
		if n < 0 || n >= last {
			l = append(l, wrong(n), now(1))
		}
	}
	l = append(l, tick(41), now(42), wrong(-1), wrong(last-41), now(42), tick(last-43), now(last-1), wrong(2), tick(0),
		tick(1), now(last), wrong(1), wrong(math.MaxInt), wrong(-1), tick(0), now(last))
	wantRun(t, "at first", plain(), 1000, l...)
	wantRun(t, "at once", plain(), 1000, wrong(last+1), tick(last), now(last), wrong(1), tick(0))
}

// P25.2: where Tick tells an error nothing is turned: neither the gauge nor the mark is told.
func TestTickThatMayNot(t *testing.T) {
	c := but(plain(), func(c *api.Config) { c.High, c.Idle = 0, 5 })
	wantRun(t, "nothing is turned", c, 1000, comes("a c 1 3", 0), serve(api.Taken), comes("a c 1 4", 0), tick(4),
		is(api.Stats{Now: 4, Level: 1, Windows: 1, Mark: 3}, 0, 0, 1), tick(-1).but(api.ErrArg), tick(last).but(api.ErrArg),
		is(api.Stats{Now: 4, Level: 1, Windows: 1, Mark: 3}, 0, 0, 1), tick(1),
		is(api.Stats{Now: 5, Level: 2, Windows: 1, Mark: 4}, 0, 0, 1))
}

// P25.2: behind a clock at its end all else goes on.
func TestAtTheLastTick(t *testing.T) {
	b := ones(0, 0, 1)
	wantRun(t, "the last tick", plain(), 1000, comes("a c 1 1", 0), tick(last), comes("a c 1 10", 0), serve(api.Taken),
		serve(api.Taken), closed(1), sent(api.Lost, 0, b), unsent(api.Acked, 0), comes("a c 1 1099511627776", 0), serve(api.Taken),
		closed(1), tick(0), is(api.Stats{Now: last, Windows: 1, Spilled: 2, Seq: 2, Mark: last}, 0, 0, 0), crash(0),
		is(api.Stats{Now: last, Spilled: 2, Seq: 2}, 0, 0, 0), sent(api.Acked, 0, b))
}

// P25.2: a tick that is told is one, however far it goes: the mark goes on by all of it, the gauge by one.
func TestTickTellsMarkAndGauge(t *testing.T) {
	c := but(plain(), func(c *api.Config) {
		c.Low, c.High, c.Hold, c.Idle = 2, 3, 2, 10
		c.Thresholds = [][]int{{0, 0, 0, 0}, {0, 0, 0, 0}, {0, 0, 0, 0}}
	})
	st := func(now int64, level int, mark int64, queued ...int) step {
		return is(api.Stats{Now: now, Level: level, Windows: 1, Mark: mark}, queued...)
	}
	// Three are between both marks, four above the high one, in whichever queues they are.
	wantRun(t, "up", c, 1000, comes("a c 1 5", 0), serve(api.Taken), tick(9), st(9, 0, 5, 0, 0, 0), tick(1),
		st(10, 0, 6, 0, 0, 0), tick(1000), st(1010, 0, 1006, 0, 0, 0), comes("a c 1 5", 0), comes("cpu c 1 5", 0),
		comes("mem c 1 5", 0), tick(0), st(1010, 0, 1006, 1, 1, 1), comes("mem c 1 5", 0), tick(0),
		st(1010, 1, 1006, 1, 2, 1), tick(7), st(1017, 2, 1013, 1, 2, 1), tick(0), st(1017, 3, 1013, 1, 2, 1), tick(0),
		st(1017, 3, 1013, 1, 2, 1))
	// Down behind two ticks with fewer than two, one behind the other; below level 0 there is none.
	wantRun(t, "down", c, 1000, row(alike(4, comes("a c 1 5", 0)), alike(3, tick(1)), []step{
		is(api.Stats{Now: 3, Level: 3}, 0, 0, 4)}, alike(2, serve(api.Taken)), []step{tick(0), st(3, 3, 5, 0, 0, 2),
		serve(api.Taken), tick(0), st(3, 3, 5, 0, 0, 1), tick(0), st(3, 2, 5, 0, 0, 1), tick(0), comes("b c 1 5", 0),
		tick(0), serve(api.Taken), tick(0), st(3, 2, 5, 0, 0, 1), tick(0), st(3, 1, 5, 0, 0, 1), tick(0), tick(0),
		st(3, 0, 5, 0, 0, 1), tick(0), tick(0), st(3, 0, 5, 0, 0, 1)})...)
}

// P25.2: windows that are due are closed, as many as the spill has room for; the others wait.
func TestClose(t *testing.T) {
	st := func(windows, spilled, seq int, mark int64) step {
		return is(api.Stats{Windows: windows, Spilled: spilled, Seq: seq, Mark: mark}, 0, 0, 0)
	}
	wantRun(t, "nothing", plain(), 1000, closed(0), comes("a c 1 5", 0), closed(0), serve(api.Taken), closed(0), st(1, 0, 0, 5))
	wantRun(t, "one", plain(), 1000, row(taken(5, 9, 10), []step{closed(1), st(1, 1, 1, 10), closed(0), st(1, 1, 1, 10)})...)
	wantRun(t, "one ahead of its end", plain(), 1000, row(taken(19), []step{closed(0)}, taken(20), []step{closed(1)})...)
	wantRun(t, "several", plain(), 1000, row(taken(5, 15, 15, 25, 30), []step{st(4, 0, 0, 30), closed(3), st(1, 3, 3, 30),
		sent(api.Acked, 0, ones(0, 0, 1)), sent(api.Acked, 0, ones(1, 10, 2)), sent(api.Acked, 0, ones(2, 20, 1)),
		unsent(api.Acked, 0), st(1, 0, 3, 30)})...)
	wantRun(t, "more than there is room for", plain(), 1000, row(taken(5, 15, 25, 35, 45), []step{closed(3), st(2, 3, 3, 45),
		closed(0), sent(api.Lost, 0, ones(0, 0, 1)), closed(0), tick(2), sent(api.Acked, 0, ones(0, 0, 1)), closed(1),
		closed(0), is(api.Stats{Now: 2, Windows: 1, Spilled: 3, Seq: 4, Mark: 45}, 0, 0, 0),
		sent(api.Acked, 0, ones(1, 10, 1)), sent(api.Acked, 0, ones(2, 20, 1)), sent(api.Acked, 0, ones(3, 30, 1)), closed(0)},
		taken(50), []step{closed(1), sent(api.Acked, 0, ones(4, 40, 1))})...)
	// Windows that came in any order are closed by when they begin; gaps between them are none.
	c := but(plain(), func(c *api.Config) { c.Lateness = 50 })
	wantRun(t, "by when they begin", c, 1000, row(taken(45, 5, 15, 49, 5), []step{closed(0)}, taken(100), []step{closed(3),
		sent(api.Acked, 0, ones(0, 0, 2)), sent(api.Acked, 0, ones(1, 10, 1)), sent(api.Acked, 0, ones(2, 40, 2)),
		st(1, 0, 3, 50)})...)
	one := but(plain(), func(c *api.Config) { c.Spill = 1 })
	wantRun(t, "room for one", one, 1000, row(taken(5, 15, 25), alike(1, closed(1), closed(0), sent(api.Acked, 0, ones(0, 0, 1)),
		closed(1), closed(0), sent(api.Acked, 0, ones(1, 10, 1)), closed(0)))...)
}

// P25.2: windows are closed at where the mark stands, also where it was idle.
func TestCloseByTheClock(t *testing.T) {
	c := but(plain(), func(c *api.Config) { c.Idle = 7 })
	wantRun(t, "idle", c, 1000, row(taken(5, 15), []step{closed(1), tick(6), closed(0), tick(4), closed(0), tick(1), closed(1),
		is(api.Stats{Now: 11, Spilled: 2, Seq: 2, Mark: 20}, 0, 0, 0)})...)
}

// P25.2: a disk that is full: what was closed ahead of that is told with the error, and the pipe is down.
func TestCloseOnAFullDisk(t *testing.T) {
	// A batch of one row has 13 bytes on the disk.
	for _, room := range []int{1, 12, 13, 25, 26, 38} {
		many := room / 13
		st := is(api.Stats{Now: 4, Level: 1, Windows: 3 - many, Spilled: many, Seq: many + 1, Mark: 35}, 1, 0, 0)
		n := counts(counted{0, api.Taken, 1, 0}, counted{2, api.Taken, 4, 4}, counted{3, api.Malformed, 1, 1})
		c := but(plain(), func(c *api.Config) { c.High = 0 })
		l := row(taken(5, 15, 25, 35), []step{comes("x", api.Malformed), comes("cpu c 1 1", 0), tick(4),
			closed(many).but(api.ErrFull), st, n}, gone(), []step{st, n, crash(0),
			is(api.Stats{Now: 4, Spilled: many, Seq: many}, 0, 0, 0), closed(0), serve(0), comes("cpu c 1 1", 0)})
		wantRun(t, "room "+strconv.Itoa(room), c, room, l...)
	}
	// Once an acked part has gone there is room again, for the next batches, of the numbers behind.
	c := but(plain(), func(c *api.Config) { c.Many = 1 })
	wantRun(t, "room again", c, 26, row(taken(5, 15, 25, 35), []step{closed(2).but(api.ErrFull), crash(5),
		sent(api.Acked, 0, ones(0, 0, 1))}, taken(5, 15), []step{closed(1), is(api.Stats{Windows: 1, Spilled: 2, Seq: 3, Mark: 15},
		0, 0, 0), sent(api.Acked, 0, ones(1, 10, 1)), sent(api.Acked, 0, ones(2, 0, 1)), unsent(api.Acked, 0)})...)
}

// P25.2: any error of the spill's: a batch with more bytes than a record may have, a disk that is down.
func TestCloseThatTellsAnError(t *testing.T) {
	c := but(plain(), func(c *api.Config) { c.Rows, c.Room = 200, 1000 })
	var l []step
	// A row of these has 40 bytes, so that 102 of them are a record, and 103 aren't.
	for i := range 103 {
		l = append(l, comes("k"+strconv.Itoa(100+i)+" h -9223372036854775808 1", 0), serve(api.Taken))
	}
	wantRun(t, "just enough", c, api.MaxDisk, row(l[:204], taken(15), []step{closed(1)})...)
	wantRun(t, "too much", c, api.MaxDisk, row(l, taken(15), []step{closed(0).but(api.ErrLarge),
		is(api.Stats{Windows: 1, Seq: 1, Mark: 15}, 0, 0, 0)}, gone(), []step{crash(0), is(api.Stats{}, 0, 0, 0)})...)
	wantRun(t, "a disk that is down", plain(), 1000, row(taken(5, 15), []step{fall(0), closed(0).but(api.ErrGone),
		is(api.Stats{Windows: 1, Seq: 1, Mark: 15}, 0, 0, 0)}, gone(), []step{rise()}, gone(), []step{crash(0), closed(0)},
		taken(5, 15), []step{closed(1)})...)
	wantRun(t, "nothing due on a disk that is down", plain(), 1000, row(taken(5), []step{fall(0), closed(0)}, taken(6),
		[]step{closed(0), rise()}, taken(15), []step{closed(1)})...)
	full := but(plain(), func(c *api.Config) { c.Spill = 1 })
	wantRun(t, "no room, on a disk that is down", full, 1000, row(taken(5, 15, 25), []step{closed(1), fall(0), closed(0)},
		taken(26))...)
}

// P25.1, P25.2: numbers go on from the spill's, however great; behind the greatest one that a batch may have it is down.
func TestNumbersGoOn(t *testing.T) {
	const great = 1<<31 - 1
	for _, first := range []int{0, 7, 999999, 1000000, 1000001, 1 << 30, great - 3} {
		d, of := onDisk(t, map[int]string{first: recordOf(t, first)})
		g := newRigOn(t, plain(), d, of)
		l := row(taken(5, 15, 25), []step{closed(2), is(api.Stats{Windows: 1, Spilled: 3, Seq: first + 3, Mark: 25}, 0, 0, 0),
			sent(api.Acked, 0, api.Batch{Seq: first}), sent(api.Acked, 0, ones(first+1, 0, 1)),
			sent(api.Acked, 0, ones(first+2, 10, 1)), is(api.Stats{Windows: 1, Seq: first + 3, Mark: 25}, 0, 0, 0), crash(0),
			is(api.Stats{Spilled: 1, Seq: first + 3}, 0, 0, 0)}, taken(5, 10), []step{closed(1),
			sent(api.Acked, 0, ones(first+2, 10, 1)), sent(api.Acked, 0, ones(first+3, 0, 1))})
		g.wantSteps(t, "from "+strconv.Itoa(first), l)
	}
	d, of := onDisk(t, map[int]string{great: ""})
	g := newRigOn(t, plain(), d, of)
	g.wantSteps(t, "the greatest", row(taken(5, 15, 25), []step{closed(1).but(api.ErrArg),
		is(api.Stats{Windows: 1, Spilled: 1, Seq: great + 2, Mark: 25}, 0, 0, 0)}, gone(), []step{crash(0),
		is(api.Stats{Spilled: 1, Seq: great + 1}, 0, 0, 0), sent(api.Acked, 0, ones(great, 0, 1))}))
	d, of = onDisk(t, map[int]string{math.MaxInt: ""})
	g = newRigOn(t, plain(), d, of)
	g.wantSteps(t, "behind all", row(taken(5, 15), []step{closed(0).but(api.ErrArg)}, gone(), []step{crash(0)}))
}

// wantSteps does steps with a rig, and holds it against them and the words.
func (g *rig) wantSteps(t *testing.T, name string, l []step) {
	t.Helper()
	for i, s := range l {
		at := name + ": step " + strconv.Itoa(i)
		if s.does != asks {
			at += ": " + s.name()
			wantTold(t, at, g.do(s.deed), s.want)
			wantTold(t, at+", by the words", g.w.do(s.deed), s.want)
		}
		if s.stats != nil {
			wantStats(t, at, g.p, *s.stats)
		}
		for _, n := range s.count {
			wantCount(t, at, g.p, n)
		}
		g.wantAll(t, at)
		if t.Failed() {
			return
		}
	}
	g.wantSynced(t, name+": at its end")
}

// P25.2, P1: what Flush answers is the sender's own, at the clock.
func TestFlush(t *testing.T) {
	b, x := ones(0, 0, 1), ones(1, 10, 1)
	var none, wrong []step
	for outcome := api.Acked; outcome <= api.TimedOut; outcome++ {
		for _, jitter := range append(farInts(), 0, 1, 2, 3) {
			none = append(none, unsent(outcome, jitter))
		}
	}
	for _, outcome := range append(farInts(), 4, 5) {
		wrong = append(wrong, unsent(outcome, 0).but(api.ErrArg), unsent(outcome, math.MinInt).but(api.ErrArg))
	}
	two := row(taken(5, 15, 25), []step{closed(2)})
	wantRun(t, "nothing spilled", plain(), 1000, row(none, wrong, taken(5, 15), none, wrong)...)
	wantRun(t, "acked", plain(), 1000, row(two, wrong, []step{sent(api.Acked, 0, b), sent(api.Acked, math.MaxInt, x)}, none)...)
	for _, failing := range []int{api.Lost, api.Rejected, api.TimedOut} {
		// A wait of 2, then of 4, less the jitter; the second failure blows the fuse, for 5.
		wantRun(t, "fails", plain(), 1000, row(two, []step{sent(failing, 0, b)}, none, wrong, []step{tick(1)}, none, []step{tick(1),
			sent(failing, 1, b), tick(3)}, none, []step{tick(1)}, none, []step{tick(1), sent(api.Acked, 0, b),
			sent(failing, math.MinInt, x), tick(1)}, none, []step{tick(1), sent(api.Acked, 0, x)}, none)...)
		wantRun(t, "fails on trial", plain(), 1000, row(two, []step{sent(failing, 0, b), tick(2), sent(failing, math.MaxInt, b),
			tick(5), sent(failing, 4, b), tick(4)}, none, []step{tick(1), sent(failing, 0, b), tick(7)}, none, []step{tick(1),
			sent(api.Acked, 0, b), sent(api.Acked, 0, x)})...)
	}
	slow := but(plain(), func(c *api.Config) { c.Fails, c.Pause, c.Base, c.Cap = 1, 9, 1, 1 })
	wantRun(t, "its fuse", slow, 1000, row(two, []step{sent(api.Lost, 0, b), tick(8)}, none, []step{tick(1), sent(api.Acked, 0, b)})...)
	long := but(plain(), func(c *api.Config) { c.Fails, c.Pause, c.Base, c.Cap = 1000, 1, 20, 21 })
	wantRun(t, "its wait", long, 1000, row(two, []step{sent(api.Lost, 0, b), tick(19)}, none, []step{tick(1), sent(api.Lost, 0, b),
		tick(20)}, none, []step{tick(1), sent(api.Acked, 0, b)})...)
}

// P25.2: an error of acking is told with the bytes that were sent; it doesn't take the pipe down.
func TestFlushThatTellsAnError(t *testing.T) {
	c := but(plain(), func(c *api.Config) { c.Many = 1 })
	three := row(taken(5, 15, 25, 35), []step{closed(3)})
	wantRun(t, "a disk that is down", c, 1000, row(three, []step{fall(0), sent(api.Acked, 0, ones(0, 0, 1)).but(api.ErrGone),
		is(api.Stats{Windows: 1, Spilled: 2, Seq: 3, Mark: 35}, 0, 0, 0), tick(1), comes("a c 1 36", 0), serve(api.Taken),
		sent(api.Rejected, 0, ones(1, 10, 1)), rise(), tick(2), sent(api.Acked, 0, ones(1, 10, 1)),
		sent(api.Acked, 0, ones(2, 20, 1))})...)
	wantRun(t, "a part that is gone", c, 1000, row(three, []step{remove(0), sent(api.Acked, 0, ones(0, 0, 1)).but(api.ErrNone),
		comes("a c 1 36", 0), serve(api.Taken), sent(api.Acked, 0, ones(1, 10, 1)).but(api.ErrNone), closed(0)}, taken(40), []step{closed(1)})...)
}

// P25.3: a crash takes all but the disk, the clock and the config: no queue, no turn, no control, no level, no count, no
// mark, no window, no wait, no failure of the fuse is left.
func TestCrash(t *testing.T) {
	c := but(plain(), func(c *api.Config) { c.High, c.Low, c.Hold, c.Quanta = 0, 0, 3, []int{3, 1, 1} })
	cpu, a := comes("cpu c 1 1", 0), comes("a c 1 9", 0)
	for _, keep := range []int{-1, 0, 1, 13, math.MaxInt, math.MinInt} {
		st := is(api.Stats{Now: 15, Spilled: 2, Seq: 2}, 0, 0, 0)
		none := counts(counted{0, api.Delayed, 0, 0}, counted{2, api.Taken, 0, 0}, counted{3, api.Malformed, 0, 0})
		wantRun(t, "keep "+strconv.Itoa(keep), c, 1000, row(taken(5, 15, 25), []step{closed(2), cpu, cpu, cpu, cpu, cpu, a,
			comes("", api.Malformed), sent(api.Lost, 0, ones(0, 0, 1)), tick(5), serve(api.Late),
			sent(api.Rejected, 0, ones(0, 0, 1)), tick(10), serve(api.Delayed),
			is(api.Stats{Now: 15, Level: 2, Windows: 1, Spilled: 2, Seq: 2, Mark: 25}, 3, 0, 1), crash(keep), st, none,
			// What a crash took would have the fuse say no, have the class at turn another one, and drop what waited.
			serve(0), sent(api.Lost, 0, ones(0, 0, 1)), unsent(api.Lost, 0), tick(2), sent(api.Lost, 0, ones(0, 0, 1)),
			unsent(api.Acked, 0), cpu, comes("mem c 1 8", 0), serve(api.Taken),
			is(api.Stats{Now: 17, Windows: 1, Spilled: 2, Seq: 2, Mark: 1}, 0, 1, 0), tick(8), serve(api.Taken),
			is(api.Stats{Now: 25, Level: 1, Windows: 1, Spilled: 2, Seq: 2, Mark: 8}, 0, 0, 0)}, taken(9, 10),
			[]step{closed(1), crash(keep), crash(keep), is(api.Stats{Now: 25, Spilled: 3, Seq: 3}, 0, 0, 0),
				sent(api.Acked, 0, ones(0, 0, 1)), sent(api.Acked, 0, ones(1, 10, 1))})...)
	}
	wantRun(t, "with nothing", plain(), 1000, alike(3, crash(0), is(api.Stats{}, 0, 0, 0), serve(0), closed(0))...)
}

// P25.3: what was acked within a part that is there yet is spilled again; what was trimmed isn't.
func TestCrashBehindAcks(t *testing.T) {
	b := []api.Batch{ones(0, 0, 1), ones(1, 10, 1), ones(2, 20, 1)}
	three := row(taken(5, 15, 25, 35), []step{closed(3)})
	wantRun(t, "within a part", plain(), 1000, row(three, []step{sent(api.Acked, 0, b[0]), crash(0),
		is(api.Stats{Spilled: 3, Seq: 3}, 0, 0, 0), sent(api.Acked, 0, b[0]), sent(api.Acked, 0, b[1]), crash(0),
		is(api.Stats{Spilled: 1, Seq: 3}, 0, 0, 0), sent(api.Acked, 0, b[2]), crash(0), sent(api.Acked, 0, b[2])})...)
	// More than there is room for may be there again: then nothing is closed till there are fewer.
	wantRun(t, "more than there is room for", but(plain(), func(c *api.Config) { c.Spill, c.Many = 1, 100 }), 1000,
		row(taken(5, 15, 25, 35), []step{closed(1), sent(api.Acked, 0, b[0]), closed(1), sent(api.Acked, 0, b[1]), closed(1),
			crash(0), is(api.Stats{Spilled: 3, Seq: 3}, 0, 0, 0)}, taken(5, 15), []step{closed(0), sent(api.Acked, 0, b[0]),
			sent(api.Acked, 0, b[1]), closed(0), sent(api.Acked, 0, b[2]), closed(1), sent(api.Acked, 0, ones(3, 0, 1))})...)
}

// P25.3: of bytes that weren't synced, which others wrote, as many stay as the crash tells; what is spilled is what the
// disk holds then.
func TestCrashKeeps(t *testing.T) {
	next := recordOf(t, 2)
	two := row(taken(5, 15, 25), []step{closed(2)})
	for keep := -2; keep < len(next)+3; keep++ {
		spilled := 2
		if keep >= len(next) {
			spilled = 3
		}
		wantRun(t, "the next record, keep "+strconv.Itoa(keep), plain(), 1000, row(two, []step{write(2, next), crash(keep),
			is(api.Stats{Spilled: spilled, Seq: spilled}, 0, 0, 0)}, taken(5, 15), []step{sent(api.Acked, 0, ones(0, 0, 1)),
			closed(1), is(api.Stats{Windows: 1, Spilled: spilled, Seq: spilled + 1, Mark: 15}, 0, 0, 0)})...)
	}
	wantRun(t, "the greatest keep", plain(), 1000, row(two, []step{write(2, next), crash(math.MaxInt),
		is(api.Stats{Spilled: 3, Seq: 3}, 0, 0, 0)})...)
	wantRun(t, "the least keep", plain(), 1000, row(two, []step{write(2, next), write(0, "\x07"), write(9, "x"), crash(math.MinInt),
		is(api.Stats{Spilled: 2, Seq: 2}, 0, 0, 0)})...)
	wantRun(t, "torn, and synced", plain(), 1000, row(two, []step{write(0, "\x07"), sync(0), write(9, "x"), sync(9), crash(0),
		is(api.Stats{Spilled: 2, Seq: 2}, 0, 0, 0)})...)
	// Its disk is down already: nothing more goes.
	wantRun(t, "a disk that is down", plain(), 1000, row(two, []step{write(2, next), fall(4), crash(0),
		is(api.Stats{Spilled: 3, Seq: 3}, 0, 0, 0)})...)
	// All that there was has been taken away by others: it begins anew.
	wantRun(t, "a part that is gone", plain(), 1000, row(two, []step{remove(0), crash(0), is(api.Stats{}, 0, 0, 0)},
		taken(5, 15), []step{closed(1), sent(api.Acked, 0, ones(0, 0, 1))})...)
}

// P25.3, P1: a disk whose bytes aren't a spill's any more: the error, and it is down, with nothing left; till a crash on
// a disk that is a spill's again.
func TestCrashThatTellsAnError(t *testing.T) {
	two := row(taken(5, 15, 25), []step{closed(2), tick(3), comes("cpu c 1 1", 0)})
	none := is(api.Stats{Now: 3}, 0, 0, 0)
	zero := counts(counted{0, api.Taken, 0, 0}, counted{2, api.Taken, 0, 0}, counted{3, api.Malformed, 0, 0})
	bad := func(keep int) step { return crash(keep).but(api.ErrForm) }
	wantRun(t, "no batch", plain(), 1000, row(two, []step{write(2, "\x01x"), bad(2), none, zero}, gone(), []step{none, zero,
		bad(0), none}, gone(), []step{bad(math.MinInt), bad(math.MaxInt), remove(2), crash(0),
		is(api.Stats{Now: 3, Spilled: 2, Seq: 2}, 0, 0, 0), zero, sent(api.Acked, 0, ones(0, 0, 1)), serve(0), closed(0)},
		taken(5), []step{tick(1)})...)
	wantRun(t, "another number", plain(), 1000, row(two, []step{remove(0), write(0, recordOf(t, 1)), sync(0), bad(0), none, zero},
		gone(), []step{fall(0), bad(0), none}, gone(), []step{remove(0), crash(0), none}, taken(5))...)
	// Not kept, they are no fault.
	wantRun(t, "torn", plain(), 1000, row(two, []step{write(2, "\x01x"), crash(1), is(api.Stats{Now: 3, Spilled: 2, Seq: 2},
		0, 0, 0)}, taken(5))...)
	// Down by a put that failed, and then by a crash.
	wantRun(t, "twice", plain(), 13, row(taken(5, 15, 25), []step{closed(1).but(api.ErrFull), remove(0), write(0, "\x01x"), bad(2)},
		gone(), []step{is(api.Stats{}, 0, 0, 0), remove(0), crash(0)}, taken(5, 15), []step{closed(1)})...)
}

// P25.2: what is told of all calls is told in turn, by one whole run.
func TestAllTogether(t *testing.T) {
	c := but(plain(), func(c *api.Config) {
		c.Thresholds, c.Low, c.High, c.Room = [][]int{{0, 0}, {0, 0}, {0, 65536}}, 1, 2, 3
		c.Lateness, c.Windows = 5, 2
	})
	b := api.Batch{Rows: []api.Row{rowOf("cpu", api.Count, 1, 2), rowOf("mem", api.Histo, 3)}}
	wantRun(t, "all", c, 1000, comes("cpu c 1 3", 0), comes("cpu c 2 4", 0), comes("mem h 3 3", 0), comes("a g 7 12", 0),
		comes("cpu c 9 1", 0), comes("cpu c 9 1", api.QueueFull), comes("cpu", api.Malformed), tick(1), comes("a g 1 1", api.Sampled),
		is(api.Stats{Now: 1, Level: 1}, 3, 1, 1), serve(api.Taken), serve(api.Taken), serve(api.Taken),
		is(api.Stats{Now: 1, Level: 1, Windows: 2, Mark: 7}, 2, 0, 0), serve(api.Taken), tick(4), comes("cpu c 1 29", 0),
		comes("mem c 1 2", 0), serve(api.Taken), serve(api.Taken), serve(api.NoRoom), serve(0))
	wantRun(t, "all", c, 1000, comes("cpu c 1 3", 0), comes("cpu c 2 4", 0), comes("mem h 3 3", 0), comes("a g 7 12", 0),
		tick(2), serve(api.Taken), serve(api.Taken), serve(api.Taken), serve(api.Taken), comes("cpu c 1 29", 0),
		serve(api.NoRoom), is(api.Stats{Now: 2, Level: 1, Windows: 2, Mark: 24}, 0, 0, 0), comes("cpu c 1 9", 0), serve(api.Late),
		tick(1), is(api.Stats{Now: 3, Windows: 2, Mark: 24}, 0, 0, 0), closed(2), sent(api.TimedOut, 0, b), tick(2),
		sent(api.Acked, 0, b), crash(0), is(api.Stats{Now: 5, Spilled: 2, Seq: 2}, 0, 0, 0), sent(api.Acked, 0, b))
}
