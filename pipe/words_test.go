package pipe

import (
	"encoding/binary"
	"hash/fnv"
	"maps"
	"math"
	"math/big"
	"math/bits"
	"slices"
	"strconv"
	"strings"

	"noggin/api"
	"noggin/batch"
	"noggin/line"
	"noggin/series"
)

const (
	last       = 1 << 40
	mostRecord = 4096
	reasons    = 8
)

// What is done: a pipe's calls, and what others do to its disk.
const (
	lines = iota
	serves
	ticks
	closes
	flushes
	crashes
	goesDown
	comesUp
	writes
	syncs
	removes
)

// deed is one call: of a Tick n is how far, of a Crash, and where its disk goes down, how many bytes stay, of a Flush the
// jitter; what others do, they do to part n.
type deed struct {
	does    int
	text    string
	n       int
	outcome int
}

// told is what a call answers.
type told struct {
	n    int
	sent bool
	text string
	err  error
}

func (d deed) name() string {
	n := strconv.Itoa(d.n)
	switch d.does {
	case lines:
		return "Line(" + strconv.Quote(d.text) + ")"
	case serves:
		return "Serve()"
	case ticks:
		return "Tick(" + n + ")"
	case closes:
		return "Close()"
	case flushes:
		return "Flush(" + strconv.Itoa(d.outcome) + ", " + n + ")"
	case crashes:
		return "Crash(" + n + ")"
	case goesDown:
		return "its disk's Crash(" + n + ")"
	case comesUp:
		return "its disk's Up()"
	case writes:
		return "its disk's Append(" + n + ", " + strconv.Quote(d.text) + ")"
	case syncs:
		return "its disk's Sync(" + n + ")"
	}
	return "its disk's Remove(" + n + ")"
}

func (x told) name() string {
	text := strconv.Itoa(x.n)
	if x.sent {
		text = "sent " + strconv.Quote(x.text)
	}
	if x.err != nil {
		text += " and " + x.err.Error()
	}
	return text
}

// words is a pipe by the chapter's words, and by those of the chapters below that keep something, worked out apart. Of
// events it keeps all values till their window is closed, of batches their bytes on the disk alone.
type words struct {
	c        api.Config
	disk     *plates
	now      int64
	down     bool
	queues   [][]came
	controls []codel
	turns    robin
	level    int
	held     int
	received []uint64
	ended    [][reasons]uint64
	mark     far
	open     map[int64]map[place][]int64
	seq      int
	log      *book // nil, where none is open
	failed   []int64
	from     int64
	crashed  bool
}

// came is an event that came at a tick.
type came struct {
	e   api.Event
	key string
	at  int64
}

type place struct {
	key  string
	kind int
}

// newWords is one of a config that may be, on a disk that is told its own.
func newWords(c api.Config, d *plates) (*words, error) {
	w := &words{c: deepCopy(c), disk: d}
	return w, w.begin()
}

func (w *words) begin() error {
	many := w.c.Classes
	w.queues, w.controls = make([][]came, many), make([]codel, many)
	w.turns = robin{credits: make([]int, many)}
	w.level, w.held = 0, 0
	w.received, w.ended = make([]uint64, many+1), make([][reasons]uint64, many+1)
	w.mark = far{}
	w.open = map[int64]map[place][]int64{}
	w.seq, w.log, w.failed, w.from = 0, nil, nil, 0
	b, err := openBook(w.disk, w.c.Many)
	w.down = err != nil
	if err == nil {
		w.log, w.seq = b, b.next()
	}
	return err
}

// do does a deed, and tells what it answers.
func (w *words) do(d deed) told {
	switch d.does {
	case crashes:
		w.disk.crash(d.n)
		w.crashed = true
		return told{err: w.begin()}
	case goesDown, comesUp, writes, syncs, removes:
		return told{err: w.disk.do(d)}
	}
	if w.down {
		return told{err: api.ErrGone}
	}
	switch d.does {
	case lines:
		return told{n: w.line(d.text)}
	case serves:
		return told{n: w.serve()}
	case ticks:
		return told{err: w.tick(d.n)}
	case closes:
		return w.close()
	}
	return w.flush(d.outcome, d.n)
}

func (w *words) line(s string) int {
	e, err := line.Parse(s)
	key := ""
	if err == nil {
		key, err = series.Key(e)
	}
	if err != nil {
		w.received[w.c.Classes]++
		w.ended[w.c.Classes][api.Malformed]++
		return api.Malformed
	}
	class := w.classOf(key)
	w.received[class]++
	reason := 0
	if partOf(key) < w.c.Thresholds[class][w.level] {
		reason = api.Sampled
	} else if len(w.queues[class]) >= w.c.Room {
		reason = api.QueueFull
	} else {
		w.queues[class] = append(w.queues[class], came{e, key, w.now})
		return 0
	}
	w.ended[class][reason]++
	return reason
}

func (w *words) classOf(key string) int {
	for _, r := range w.c.Rules {
		if strings.HasPrefix(key, r.Prefix) {
			return r.Class
		}
	}
	return w.c.Classes - 1
}

func partOf(key string) int {
	h := fnv.New32a()
	h.Write([]byte(key))
	return int(h.Sum32() % 65536)
}

func (w *words) serve() int {
	class := w.turns.pick(w.c.Quanta, w.queues)
	if class < 0 {
		return 0
	}
	x := w.queues[class][0]
	w.queues[class] = slices.Clone(w.queues[class][1:])
	reason := w.end(class, x)
	w.ended[class][reason]++
	return reason
}

func (w *words) end(class int, x came) int {
	if w.controls[class].drops(w.c, w.now, w.now-x.at) {
		return api.Delayed
	}
	w.mark.see(w.now, x.e.Time)
	begin := x.e.Time / w.c.Width * w.c.Width
	if begin+w.c.Width <= w.mark.at(w.c) {
		return api.Late
	}
	rows, isOpen := w.open[begin]
	values, isThere := rows[place{x.key, x.e.Kind}]
	if !isOpen && len(w.open) >= w.c.Windows || !isThere && len(rows) >= w.c.Rows {
		return api.NoRoom
	}
	if !isOpen {
		rows = map[place][]int64{}
		w.open[begin] = rows
	}
	rows[place{x.key, x.e.Kind}] = append(values, x.e.Value)
	return api.Taken
}

func (w *words) tick(n int) error {
	// In numbers of any length, so that no sum of both is beyond what there is.
	sum := new(big.Int).Add(big.NewInt(w.now), big.NewInt(int64(n)))
	if n < 0 || sum.Cmp(big.NewInt(last)) > 0 {
		return api.ErrArg
	}
	w.now = sum.Int64()
	w.mark.tick(w.c, w.now)
	depth := 0
	for _, q := range w.queues {
		depth += len(q)
	}
	switch levels := len(w.c.Thresholds[0]); {
	case depth > w.c.High:
		w.held = 0
		if w.level+1 < levels {
			w.level++
		}
	case depth >= w.c.Low:
		w.held = 0
	default:
		if w.held++; w.held >= w.c.Hold {
			w.held = 0
			w.level = max(w.level-1, 0)
		}
	}
	return nil
}

func (w *words) close() told {
	for n := 0; ; n++ {
		begin, is := w.due()
		if !is || w.log.len() >= w.c.Spill {
			return told{n: n}
		}
		b := batchOf(w.seq, begin, w.open[begin])
		delete(w.open, begin)
		w.seq++
		if err := w.log.put(w.disk, b, w.c.Many); err != nil {
			w.down = true
			return told{n: n, err: err}
		}
	}
}

// due is when the first window begins, if it is due.
func (w *words) due() (int64, bool) {
	if len(w.open) == 0 {
		return 0, false
	}
	first := slices.Min(slices.Collect(maps.Keys(w.open)))
	return first, first+w.c.Width <= w.mark.at(w.c)
}

// flush keeps the ticks of the failures since one was acked: once there are as many as the fuse bears, each one that is
// sent is on trial, so that the last failure is the one that blew it.
func (w *words) flush(outcome, jitter int) told {
	if outcome < 0 || outcome > 3 {
		return told{err: api.ErrArg}
	}
	n := len(w.failed)
	blown := n >= w.c.Fails && w.now-w.failed[n-1] < int64(w.c.Pause)
	if w.log.len() <= 0 || w.now < w.from || blown {
		return told{}
	}
	x := told{sent: true, text: w.log.headBytes()}
	if outcome == api.Acked {
		w.failed = nil
		x.err = w.log.ack(w.disk)
		return x
	}
	full := min(int64(w.c.Base)<<min(n, 20), int64(w.c.Cap))
	w.from = w.now + full - int64(max(jitter, 0))%(full/2+1)
	w.failed = append(w.failed, w.now)
	return x
}

func (w *words) stats() api.Stats {
	s := api.Stats{Now: w.now, Level: w.level, Windows: len(w.open), Seq: w.seq, Mark: w.mark.at(w.c)}
	for _, q := range w.queues {
		s.Queued = append(s.Queued, len(q))
	}
	if w.log != nil {
		s.Spilled = w.log.len()
	}
	return s
}

func (w *words) count(class, reason int) (uint64, uint64) {
	switch {
	case class < 0 || class > w.c.Classes:
		return 0, 0
	case reason < 1 || reason > 7:
		return w.received[class], 0
	}
	return w.received[class], w.ended[class][reason]
}

// batchOf is a window's batch.
func batchOf(seq int, begin int64, window map[place][]int64) api.Batch {
	b := api.Batch{Seq: seq, Start: begin}
	for at, values := range window {
		b.Rows = append(b.Rows, rowOf(at.key, at.kind, values...))
	}
	slices.SortFunc(b.Rows, func(a, b api.Row) int {
		if a.Key != b.Key {
			return strings.Compare(a.Key, b.Key)
		}
		return a.Kind - b.Kind
	})
	return b
}

// rowOf is what a series with these values comes to.
func rowOf(key string, kind int, values ...int64) api.Row {
	r := api.Row{Key: key, Kind: kind, Many: uint64(len(values)), Least: slices.Min(values), Most: slices.Max(values)}
	for _, v := range values {
		sum := new(big.Int).Add(big.NewInt(r.Sum), big.NewInt(v))
		switch {
		case kind == api.Gauge:
			r.Sum = v
		case sum.IsInt64():
			r.Sum = sum.Int64()
		case v < 0:
			r.Sum, r.Over = math.MinInt64, true
		default:
			r.Sum, r.Over = math.MaxInt64, true
		}
		if kind != api.Histo {
			continue
		}
		bucket := bits.Len64(uint64(max(v, 0)))
		for len(r.Buckets) <= bucket {
			r.Buckets = append(r.Buckets, 0)
		}
		r.Buckets[bucket]++
	}
	return r
}

// codel is a control.
type codel struct {
	wary, dropping bool
	till, next     int64
	count          int
}

func (k *codel) drops(c api.Config, now, waited int64) bool {
	interval := int64(c.Interval)
	switch {
	case waited < int64(c.Target):
		k.wary, k.dropping = false, false
		return false
	case !k.wary && !k.dropping:
		k.wary, k.till = true, now+interval
		return false
	case k.wary && now < k.till || k.dropping && now < k.next:
		return false
	case k.wary:
		k.wary, k.dropping = false, true
		if k.count > 2 && now-k.next < 16*interval {
			k.count -= 2
		} else {
			k.count = 1
		}
		k.next = now + pauseOf(c.Interval, k.count)
		return true
	}
	k.count++
	k.next += pauseOf(c.Interval, k.count)
	return true
}

func pauseOf(interval, count int) int64 {
	root := new(big.Int).Sqrt(big.NewInt(1048576 * int64(count)))
	return int64(interval) * 1024 / root.Int64()
}

// robin is turns.
type robin struct {
	credits []int
	at      int
	visited bool
}

func (r *robin) pick(quanta []int, queues [][]came) int {
	has := false
	for _, q := range queues {
		has = has || len(q) > 0
	}
	if !has {
		r.credits = make([]int, len(quanta))
		return -1
	}
	for {
		if len(queues[r.at]) > 0 {
			if !r.visited {
				r.credits[r.at] += quanta[r.at]
				r.visited = true
			}
			if r.credits[r.at] >= 1 {
				r.credits[r.at]--
				return r.at
			}
		} else {
			r.credits[r.at] = 0
		}
		r.at, r.visited = (r.at+1)%len(quanta), false
	}
}

// far is a mark.
type far struct {
	saw                   bool
	greatest, told, sawAt int64
}

func (m *far) see(now, time int64) {
	m.saw, m.sawAt, m.told = true, now, now
	m.greatest = max(m.greatest, time)
}

func (m *far) tick(c api.Config, now int64) {
	if m.saw && now >= m.sawAt+c.Idle {
		m.greatest = min(m.greatest+now-m.told, last)
	}
	m.told = now
}

func (m *far) at(c api.Config) int64 { return max(m.greatest-c.Lateness, 0) }

// plate is a part of a disk.
type plate struct {
	text   string
	synced int
}

// plates are a disk.
type plates struct {
	room  int
	down  bool
	parts map[int]plate
}

func newPlates(room int) *plates { return &plates{room: room, parts: map[int]plate{}} }

func (d *plates) numbers() []int { return slices.Sorted(maps.Keys(d.parts)) }

func (d *plates) used() int {
	n := 0
	for _, p := range d.parts {
		n += len(p.text)
	}
	return n
}

// do does what others do.
func (d *plates) do(x deed) error {
	switch x.does {
	case goesDown:
		d.crash(x.n)
	case comesUp:
		d.down = false
	case writes:
		return d.append(x.n, x.text)
	case syncs:
		return d.sync(x.n)
	case removes:
		return d.remove(x.n)
	}
	return nil
}

func (d *plates) append(n int, text string) error {
	switch {
	case d.down:
		return api.ErrGone
	case n < 0:
		return api.ErrArg
	case d.used()+len(text) > d.room:
		return api.ErrFull
	}
	d.parts[n] = plate{d.parts[n].text + text, d.parts[n].synced}
	return nil
}

// fault is why nothing can be done with a part.
func (d *plates) fault(n int) error {
	if d.down {
		return api.ErrGone
	}
	if _, is := d.parts[n]; !is {
		return api.ErrNone
	}
	return nil
}

func (d *plates) sync(n int) error {
	if err := d.fault(n); err != nil {
		return err
	}
	d.parts[n] = plate{d.parts[n].text, len(d.parts[n].text)}
	return nil
}

func (d *plates) remove(n int) error {
	if err := d.fault(n); err != nil {
		return err
	}
	delete(d.parts, n)
	return nil
}

func (d *plates) crash(keep int) {
	if d.down {
		return
	}
	d.down = true
	for _, n := range d.numbers() {
		p := d.parts[n]
		more := min(max(keep, 0), len(p.text)-p.synced)
		keep -= more
		d.parts[n] = plate{p.text[:p.synced+more], p.synced + more}
	}
}

// book is a spill.
type book struct {
	parts   []int
	records []string
	head    int
}

func (b *book) first() int {
	if len(b.parts) == 0 {
		return 0
	}
	return b.parts[0]
}

func (b *book) next() int { return b.first() + len(b.records) }

func (b *book) len() int { return b.next() - b.head }

func (b *book) headBytes() string { return b.records[b.head-b.first()] }

// laid are a record's bytes on the disk.
func laid(record string) string {
	return string(binary.AppendUvarint(nil, uint64(len(record)))) + record
}

// wholeOf are the whole records ahead of what is torn.
func wholeOf(text string) (l []string) {
	for {
		n, size := binary.Uvarint([]byte(text))
		if size <= 0 || n < 1 || n > mostRecord || uint64(len(text)-size) < n {
			return l
		}
		record := text[size : size+int(n)]
		// A number is written in one way alone.
		if laid(record) != text[:size+int(n)] {
			return l
		}
		l, text = append(l, record), text[size+int(n):]
	}
}

func openBook(d *plates, many int) (*book, error) {
	d.down = false
	b := &book{}
	gone := false
	for _, n := range d.numbers() {
		if gone = gone || len(b.parts) > 0 && n != b.next(); gone {
			delete(d.parts, n)
			continue
		}
		b.parts = append(b.parts, n)
		text := ""
		for _, record := range wholeOf(d.parts[n].text) {
			b.records = append(b.records, record)
			text += laid(record)
		}
		d.parts[n] = plate{text, len(text)}
	}
	for i, record := range b.records {
		if x, err := batch.Get([]byte(record)); err != nil || x.Seq != b.first()+i {
			return nil, api.ErrForm
		}
	}
	b.head = b.first()
	return b, nil
}

func (b *book) put(d *plates, x api.Batch, many int) error {
	record, err := batch.Put(x)
	switch {
	case err != nil || x.Seq != b.next():
		return api.ErrArg
	case len(record) > mostRecord:
		return api.ErrLarge
	case len(b.parts) > 0 && b.next()-b.parts[len(b.parts)-1] < many:
		n := b.parts[len(b.parts)-1]
		if err := d.append(n, laid(string(record))); err != nil {
			return err
		}
		b.records = append(b.records, string(record))
		return d.sync(n)
	}
	n := b.next()
	if len(b.parts) > 0 {
		if err := d.sync(b.parts[len(b.parts)-1]); err != nil {
			return err
		}
	}
	if err := d.append(n, laid(string(record))); err != nil {
		return err
	}
	b.parts, b.records = append(b.parts, n), append(b.records, string(record))
	return d.sync(n)
}

func (b *book) ack(d *plates) error {
	b.head++
	for len(b.parts) > 1 && b.parts[1] <= b.head {
		if err := d.remove(b.parts[0]); err != nil {
			return err
		}
		b.records = slices.Clone(b.records[b.parts[1]-b.parts[0]:])
		b.parts = slices.Clone(b.parts[1:])
	}
	return nil
}

// deepCopy is a config that shares nothing with c.
func deepCopy(c api.Config) api.Config {
	c.Rules, c.Quanta = slices.Clone(c.Rules), slices.Clone(c.Quanta)
	for i := range c.Rules {
		c.Rules[i].Prefix = strings.Clone(c.Rules[i].Prefix)
	}
	c.Thresholds = slices.Clone(c.Thresholds)
	for i := range c.Thresholds {
		c.Thresholds[i] = slices.Clone(c.Thresholds[i])
	}
	return c
}

// mayBe tells whether a config may be, by the words of each layer.
func mayBe(c api.Config) bool {
	in := func(n, least, most int) bool { return least <= n && n <= most }
	if !in(c.Classes, 1, 4) || len(c.Rules) > 10 || len(c.Thresholds) != c.Classes || len(c.Quanta) != c.Classes {
		return false
	}
	for _, r := range c.Rules {
		if len(r.Prefix) > 300 || !in(r.Class, 0, c.Classes-1) {
			return false
		}
	}
	for i, l := range c.Thresholds {
		if !in(len(l), 1, 8) || len(l) != len(c.Thresholds[0]) || l[0] != 0 || !in(c.Quanta[i], 1, 1000) {
			return false
		}
		for k, n := range l {
			if !in(n, 0, 65536) || k > 0 && n < l[k-1] {
				return false
			}
		}
	}
	return in(c.Room, 1, 1000) && in(c.Target, 1, 1000000) && in(c.Interval, 1, 1000000) &&
		in(c.High, 0, 1000) && in(c.Low, 0, c.High) && in(c.Hold, 1, 1000) &&
		in(int(c.Lateness), 0, last) && in(int(c.Idle), 1, last) &&
		in(int(c.Width), 1, last) && in(c.Windows, 1, 100) && in(c.Rows, 1, 200) &&
		in(c.Spill, 1, 1000) && in(c.Many, 1, 100) &&
		in(c.Cap, 1, 1000000) && in(c.Base, 1, c.Cap) && in(c.Fails, 1, 1000) && in(c.Pause, 1, 1000000)
}
