package window

import (
	"fmt"
	"math"
	"math/big"
	"math/rand"
	"regexp"
	"slices"
	"strings"
	"testing"
	"unsafe"

	"noggin/api"
)

// The chapter's limits, and its kinds.
const (
	maxTime    = 1099511627776
	maxTableOf = 100
	maxRoom    = 200
	maxNumber  = 1000000

	most  = math.MaxInt64
	least = math.MinInt64

	count = 1
	gauge = 2
	histo = 3
)

// made is what a table is made of.
type made struct {
	width              int64
	windows, rows, seq int
}

func (m made) text() string {
	return fmt.Sprintf("width %d, %d windows of %d rows, from %d on", m.width, m.windows, m.rows, m.seq)
}

// may tells whether a table may be made of that, by the chapter's words.
func (m made) may() bool {
	wrong := m.width < 1 || m.width > maxTime
	wrong = wrong || m.windows < 1 || m.windows > maxTableOf
	wrong = wrong || m.rows < 1 || m.rows > maxRoom
	wrong = wrong || m.seq < 0 || m.seq > maxNumber
	return !wrong
}

// value is one that is added.
type value struct {
	key   string
	kind  int
	value int64
	time  int64
}

// deed is one Add at a mark, or one Close.
type deed struct {
	closes bool
	mark   int64
	value
}

func add(mark int64, key string, kind int, v, time int64) deed {
	return deed{false, mark, value{key, kind, v, time}}
}

func closing(mark int64) deed { return deed{closes: true, mark: mark} }

func (d deed) text() string {
	if d.closes {
		return fmt.Sprintf("Close(%d)", d.mark)
	}
	return fmt.Sprintf("Add(%d, %.40q, %d, %d, %d)", d.mark, d.key, d.kind, d.value.value, d.time)
}

func texts(l []deed) string {
	s := ""
	for _, d := range l {
		s += " " + d.text()
	}
	return s
}

// answer is what a deed is answered.
type answer struct {
	err   error
	batch api.Batch
	is    bool
}

func (a answer) text() string {
	if a.err != nil {
		return a.err.Error()
	}
	s := fmt.Sprintf("batch %d from %d, %t:", a.batch.Seq, a.batch.Start, a.is)
	for _, r := range a.batch.Rows {
		s += fmt.Sprintf(" {%q kind %d: %d, sum %d (%t), %d to %d, %d}", r.Key, r.Kind, r.Many, r.Sum, r.Over, r.Least,
			r.Most, r.Buckets)
	}
	return s
}

// sameBatch tells whether two are alike; a list of none may be nil or empty.
func sameBatch(a, b api.Batch) bool {
	return a.Seq == b.Seq && a.Start == b.Start && slices.EqualFunc(a.Rows, b.Rows, sameRow)
}

func sameRow(a, b api.Row) bool {
	return a.Key == b.Key && a.Kind == b.Kind && a.Many == b.Many && a.Sum == b.Sum && a.Least == b.Least &&
		a.Most == b.Most && a.Over == b.Over && slices.Equal(a.Buckets, b.Buckets)
}

// sameAnswer asks for an error itself, not for one that is of that number.
func sameAnswer(a, b answer) bool {
	return a.err == b.err && a.is == b.is && sameBatch(a.batch, b.batch)
}

// do is a deed done to a table.
func do(t *Table, d deed) answer {
	if d.closes {
		b, is := t.Close(d.mark)
		return answer{batch: b, is: is}
	}
	return answer{err: t.Add(d.mark, d.key, d.kind, d.value.value, d.time)}
}

// byWords is a table by the chapter's words: it keeps each value that came and lies in no batch, in the order in which
// they came, and works all out from these anew.
type byWords struct {
	made
	came   []value
	closed int
}

// begin is when the window of a time begins: the last of all beginnings that is no greater.
func (w *byWords) begin(time int64) int64 { return time / w.width * w.width }

func (w *byWords) late(begin, mark int64) bool { return begin+w.width <= mark }

// begins are when its open windows begin, rising.
func (w *byWords) begins() []int64 {
	l := []int64{}
	for _, v := range w.came {
		l = append(l, w.begin(v.time))
	}
	slices.Sort(l)
	return slices.Compact(l)
}

// which is what a row is known by.
type which struct {
	key  string
	kind int
}

// rowsOf are what the rows of the window that begins then are known by, in the order in which they are told.
func (w *byWords) rowsOf(begin int64) []which {
	l := []which{}
	for _, v := range w.came {
		if w.begin(v.time) == begin {
			l = append(l, which{v.key, v.kind})
		}
	}
	slices.SortFunc(l, func(a, b which) int {
		if a.key != b.key {
			return slices.Compare([]byte(a.key), []byte(b.key))
		}
		return a.kind - b.kind
	})
	return slices.Compact(l)
}

// row is what all values of a row come to.
func (w *byWords) row(begin int64, x which) api.Row {
	l := []int64{}
	for _, v := range w.came {
		if w.begin(v.time) == begin && v.key == x.key && v.kind == x.kind {
			l = append(l, v.value)
		}
	}
	return rowByWords(x, l)
}

func (w *byWords) add(mark int64, v value) error {
	begin := w.begin(v.time)
	begins, rows := w.begins(), w.rowsOf(begin)
	switch {
	case !isKey(v.key) || v.kind < 1 || v.kind > 3 || v.time < 0 || v.time > maxTime:
		return api.ErrArg
	case w.late(begin, mark):
		return api.ErrLate
	case !slices.Contains(begins, begin) && len(begins) >= w.windows:
		return api.ErrFull
	case !slices.Contains(rows, which{v.key, v.kind}) && len(rows) >= w.rows:
		return api.ErrFull
	}
	w.came = append(w.came, v)
	return nil
}

func (w *byWords) close(mark int64) (api.Batch, bool) {
	for _, begin := range w.begins() {
		if w.late(begin, mark) {
			return w.take(begin), true
		}
	}
	return api.Batch{}, false
}

// take takes a window's values away, and tells what they come to.
func (w *byWords) take(begin int64) api.Batch {
	b := api.Batch{Seq: w.seq + w.closed, Start: begin}
	for _, x := range w.rowsOf(begin) {
		b.Rows = append(b.Rows, w.row(begin, x))
	}
	w.closed++
	left := []value{}
	for _, v := range w.came {
		if w.begin(v.time) != begin {
			left = append(left, v)
		}
	}
	w.came = left
	return b
}

func (w *byWords) do(d deed) answer {
	if d.closes {
		b, is := w.close(d.mark)
		return answer{batch: b, is: is}
	}
	return answer{err: w.add(d.mark, d.value)}
}

func (w *byWords) due(mark int64) int {
	many := 0
	for _, begin := range w.begins() {
		if w.late(begin, mark) {
			many++
		}
	}
	return many
}

func (w *byWords) allRows() int {
	many := 0
	for _, begin := range w.begins() {
		many += len(w.rowsOf(begin))
	}
	return many
}

// rowByWords is what values come to, each thing asked of all of them together.
func rowByWords(x which, l []int64) api.Row {
	sorted := slices.Sorted(slices.Values(l))
	r := api.Row{Key: x.key, Kind: x.kind, Many: uint64(len(l)), Sum: l[len(l)-1], Least: sorted[0],
		Most: sorted[len(l)-1]}
	if x.kind != gauge {
		r.Sum, r.Over = sumByWords(l)
	}
	if x.kind == histo {
		r.Buckets = make([]uint64, bitsByWords(r.Most)+1)
		for _, v := range l {
			r.Buckets[bitsByWords(v)]++
		}
	}
	return r
}

// sumByWords sums in numbers that have no ends; where a sum is beyond, the nearer end stands for it.
func sumByWords(l []int64) (int64, bool) {
	sum, beyond := big.NewInt(l[0]), false
	for _, v := range l[1:] {
		sum.Add(sum, big.NewInt(v))
		if !sum.IsInt64() {
			beyond = true
			sum = big.NewInt(map[int]int64{-1: least, 1: most}[sum.Sign()])
		}
	}
	return sum.Int64(), beyond
}

// bitsByWords is how many bits a value has, counted by halving.
func bitsByWords(v int64) int {
	many := 0
	for ; v > 0; v /= 2 {
		many++
	}
	return many
}

var ofKey = regexp.MustCompile(`^[a-z0-9_.]{1,16}(,[a-z0-9_.]{1,16}=[a-z0-9_.]{1,16}){0,6}$`)

// isKey tells whether a text is a series' key, by layer 5's words.
func isKey(key string) bool {
	if !ofKey.MatchString(key) || strings.HasSuffix(key, "\n") {
		return false
	}
	last := ""
	for _, tag := range strings.Split(key, ",")[1:] {
		k := strings.Split(tag, "=")[0]
		if k <= last {
			return false
		}
		last = k
	}
	return true
}

const (
	word16 = "abcdefghij_z.019"
	// widest is a key of as many bytes as there may be.
	widest = word16 + ",aaaaaaaaaaaaaaa0=" + word16 + ",aaaaaaaaaaaaaaa1=" + word16 + ",aaaaaaaaaaaaaaa2=" + word16 +
		",aaaaaaaaaaaaaaa3=" + word16 + ",aaaaaaaaaaaaaaa4=" + word16 + ",aaaaaaaaaaaaaaa5=" + word16
)

// rightKeys are series' keys, rising by their bytes.
func rightKeys() []string {
	return []string{".", "0", "9", "_", "a", "a,a=2", "a,a=2,b=1", "a,a=6,a.=5,a0=4,a_=3,aa=2,b=1", "a.", "a.,a=1", "a0",
		"a_", "aa", word16, widest, "b", "cpu", "cpu,host=a", "cpu,host=b", "cpu.", "cpu0", "cpux", "z", "z,z=z"}
}

// wrongKeys are texts that are no series' keys.
func wrongKeys() []string {
	return []string{"", " ", "A", "é", "\x00", "\xff", "a b", "a ", " a", "a\n", "a=b", "a,", ",", ",a=1", "a,b", "a,b=",
		"a,=b", "a,b=1,", "a,,b=1", "a,b=1=2", "a, b=1", "a,b= 1", "a,B=1", "a,b=B", "a-b", word16 + "a",
		"a," + word16 + "a=1", "a,b=" + word16 + "a", "a,b=1,a=2", "a,a=1,a=1", "a,a=1,a=2", "a,b=1,c=2,b=3", "a,a.=1,a=1",
		"a,a=1,c=2,b=3", "a,a=1,b=1,c=1,d=1,e=1,f=1,g=1", "a c 5 100", "a c 0 0", widest + "a", widest + ",b=1",
		strings.Repeat("a", 300), strings.Repeat("a", 301), strings.Repeat("a,", 5000), strings.Repeat("\xff", 100000)}
}

func kinds() []int { return []int{count, gauge, histo} }

// wrongKinds are numbers that are none of the three.
func wrongKinds() []int {
	return []int{0, 4, -1, -2, -3, 5, 6, 7, 255, 256, 257, 258, 259, math.MinInt, math.MinInt + 1, math.MinInt32,
		math.MaxInt32, 1<<32 + 1, 1<<32 + 2, 1<<32 + 3, math.MaxInt - 1, math.MaxInt}
}

// wrongTimes are numbers that are no times.
func wrongTimes() []int64 {
	return []int64{-1, maxTime + 1, -2, -10, -maxTime, maxTime + 2, 2 * maxTime, math.MinInt32, least, least + 1,
		most - maxTime, most - 1, most}
}

// edges are numbers at the ends of what may be, and far from them.
func edges() []int64 {
	return []int64{least, least + 1, -maxTime - 1, -maxTime, math.MinInt32, -2, -1, 0, 1, 2, 9, 10, 11, 100, 101, 200, 201,
		maxNumber, maxNumber + 1, math.MaxInt32, math.MaxUint32, maxTime / 2, maxTime - 1, maxTime, maxTime + 1,
		2*maxTime - 1, 2 * maxTime, 2*maxTime + 1, most - maxTime, most - 1, most}
}

func newTable(t *testing.T, m made) *Table {
	t.Helper()
	x, err := New(m.width, m.windows, m.rows, m.seq)
	if err != nil || x == nil {
		t.Fatalf("%s: New = %v, %v", m.text(), x, err)
	}
	return x
}

// wantState asks all that can be asked without a deed, twice, for asking turns nothing.
func wantState(t *testing.T, what string, x *Table, w *byWords) {
	t.Helper()
	for range 2 {
		if n := x.Open(); n != len(w.begins()) {
			t.Fatalf("%s: Open() = %d, want %d", what, n, len(w.begins()))
		}
		if n := x.Rows(); n != w.allRows() {
			t.Fatalf("%s: Rows() = %d, want %d", what, n, w.allRows())
		}
		if n := x.Seq(); n != w.seq+w.closed {
			t.Fatalf("%s: Seq() = %d, want %d", what, n, w.seq+w.closed)
		}
		marks := []int64{least, -1, 0, 1, w.width, maxTime, 2 * maxTime, most}
		for _, begin := range w.begins() {
			marks = append(marks, begin, begin+w.width-1, begin+w.width, begin+w.width+1)
		}
		for _, mark := range marks {
			if n := x.Due(mark); n != w.due(mark) {
				t.Fatalf("%s: Due(%d) = %d, want %d", what, mark, n, w.due(mark))
			}
		}
	}
}

// done is a deed, and what is to be answered.
type done struct {
	deed
	want answer
}

// came is one that comes.
func came(mark int64, key string, kind int, v, time int64) done {
	return done{deed: add(mark, key, kind, v, time)}
}

func refused(err error, d deed) done { return done{d, answer{err: err}} }

func closed(mark int64, seq int, start int64, rows ...api.Row) done {
	return done{closing(mark), answer{batch: api.Batch{Seq: seq, Start: start, Rows: rows}, is: true}}
}

// none is a Close where none is due.
func none(mark int64) done { return done{deed: closing(mark)} }

// a row of a Count, of a Gauge and of a Histo.
func counted(key string, many uint64, sum, low, high int64) api.Row {
	return api.Row{Key: key, Kind: count, Many: many, Sum: sum, Least: low, Most: high}
}

func gauged(key string, many uint64, last, low, high int64) api.Row {
	return api.Row{Key: key, Kind: gauge, Many: many, Sum: last, Least: low, Most: high}
}

func histoed(key string, many uint64, sum, low, high int64, buckets ...uint64) api.Row {
	return api.Row{Key: key, Kind: histo, Many: many, Sum: sum, Least: low, Most: high, Buckets: buckets}
}

func over(r api.Row) api.Row {
	r.Over = true
	return r
}

// one is the row of one value.
func one(key string, kind int, v int64) api.Row { return rowByWords(which{key, kind}, []int64{v}) }

// turnsNothing tells whether a deed leaves a table as it was, by what it is answered.
func turnsNothing(d deed, a answer) bool { return a.err != nil || d.closes && !a.is }

// wantRow does deeds to a table of its own, of the words too, and again to one that is asked nothing, and to one that
// isn't told what turns nothing.
func wantRow(t *testing.T, m made, l ...done) {
	t.Helper()
	asked, unasked, spared, words := newTable(t, m), newTable(t, m), newTable(t, m), &byWords{made: m}
	wantState(t, m.text()+": at its beginning", asked, words)
	for i, d := range l {
		what := fmt.Sprintf("%s: row %d: %s", m.text(), i, d.text())
		if a := words.do(d.deed); !sameAnswer(a, d.want) {
			t.Errorf("%s: by the words %s, want %s", what, a.text(), d.want.text())
		}
		if a := do(asked, d.deed); !sameAnswer(a, d.want) {
			t.Errorf("%s = %s, want %s", what, a.text(), d.want.text())
		}
		if a := do(unasked, d.deed); !sameAnswer(a, d.want) {
			t.Errorf("%s, not asked = %s, want %s", what, a.text(), d.want.text())
		}
		if !turnsNothing(d.deed, d.want) {
			if a := do(spared, d.deed); !sameAnswer(a, d.want) {
				t.Errorf("%s, without what turns nothing = %s, want %s", what, a.text(), d.want.text())
			}
		}
		wantState(t, "behind "+what, asked, words)
	}
	wantEnd(t, m.text(), words, asked, unasked, spared)
}

// wantEnd closes all that tables have, which have all had the same.
func wantEnd(t *testing.T, what string, w *byWords, tables ...*Table) {
	t.Helper()
	for i, x := range tables {
		wantState(t, fmt.Sprintf("%s: table %d at its end", what, i), x, w)
	}
	for is := true; is; {
		want := w.do(closing(most))
		is = want.is
		for i, x := range tables {
			if a := do(x, closing(most)); !sameAnswer(a, want) {
				t.Fatalf("%s: at its end table %d closes %s, want %s", what, i, a.text(), want.text())
			}
		}
	}
	for i, x := range tables {
		wantState(t, fmt.Sprintf("%s: table %d behind its end", what, i), x, w)
	}
}

// wantNew holds what New answers against the chapter's words.
func wantNew(t *testing.T, m made) {
	t.Helper()
	x, err := New(m.width, m.windows, m.rows, m.seq)
	if !m.may() {
		if x != nil || err != error(api.ErrArg) {
			t.Errorf("%s: New = %v, %v, want nil, %v", m.text(), x, err, api.ErrArg)
		}
		return
	}
	if x == nil || err != nil {
		t.Errorf("%s: New = %v, %v", m.text(), x, err)
		return
	}
	wantState(t, m.text(), x, &byWords{made: m})
	for _, mark := range edges() {
		if b, is := x.Close(mark); is || b.Seq != 0 || b.Start != 0 || len(b.Rows) != 0 {
			t.Errorf("%s: Close(%d) = %v, %t", m.text(), mark, b, is)
		}
	}
	wantState(t, m.text()+", behind Close", x, &byWords{made: m})
}

// P20.1: the limits and the kinds are the document's.
func TestLimits(t *testing.T) {
	if api.MaxTime != maxTime || api.MaxRows != maxRoom || api.Count != count || api.Gauge != gauge || api.Histo != histo {
		t.Error(int64(api.MaxTime), api.MaxRows, api.Count, api.Gauge, api.Histo)
	}
	if !slices.IsSorted(rightKeys()) {
		t.Error("the keys don't rise")
	}
	for _, key := range rightKeys() {
		if !isKey(key) {
			t.Errorf("by the words %q is no key", key)
		}
	}
	for _, key := range wrongKeys() {
		if isKey(key) {
			t.Errorf("by the words %q is a key", key)
		}
	}
}

// P20.1, P1: each of New's numbers at its edges, by hand.
func TestNewByHand(t *testing.T) {
	rows := []struct {
		made
		may bool
	}{
		{made{10, 2, 3, 7}, true},
		{made{-1, 2, 3, 7}, false}, {made{0, 2, 3, 7}, false}, {made{1, 2, 3, 7}, true}, {made{2, 2, 3, 7}, true},
		{made{maxTime - 1, 2, 3, 7}, true}, {made{maxTime, 2, 3, 7}, true}, {made{maxTime + 1, 2, 3, 7}, false},
		{made{least, 2, 3, 7}, false}, {made{most, 2, 3, 7}, false},
		{made{10, -1, 3, 7}, false}, {made{10, 0, 3, 7}, false}, {made{10, 1, 3, 7}, true}, {made{10, 99, 3, 7}, true},
		{made{10, 100, 3, 7}, true}, {made{10, 101, 3, 7}, false}, {made{10, math.MinInt, 3, 7}, false},
		{made{10, math.MaxInt, 3, 7}, false},
		{made{10, 2, -1, 7}, false}, {made{10, 2, 0, 7}, false}, {made{10, 2, 1, 7}, true}, {made{10, 2, 199, 7}, true},
		{made{10, 2, 200, 7}, true}, {made{10, 2, 201, 7}, false}, {made{10, 2, math.MinInt, 7}, false},
		{made{10, 2, math.MaxInt, 7}, false},
		{made{10, 2, 3, -1}, false}, {made{10, 2, 3, 0}, true}, {made{10, 2, 3, 1}, true}, {made{10, 2, 3, 999999}, true},
		{made{10, 2, 3, 1000000}, true}, {made{10, 2, 3, 1000001}, false}, {made{10, 2, 3, math.MinInt}, false},
		{made{10, 2, 3, math.MaxInt}, false},
		{made{1, 1, 1, 0}, true}, {made{maxTime, 100, 200, 1000000}, true}, {made{0, 0, 0, -1}, false},
		{made{maxTime + 1, 101, 201, 1000001}, false}, {made{0, 1, 1, -1}, false}, {made{1, 0, 201, 0}, false},
	}
	for _, r := range rows {
		if r.made.may() != r.may {
			t.Errorf("%s: by the words it may be: %v", r.text(), !r.may)
		}
		wantNew(t, r.made)
	}
}

// P20.1, P1: New's numbers at their edges, all at once, and near to them.
func TestNewOfAll(t *testing.T) {
	for _, width := range []int64{least, -1, 0, 1, 10, maxTime, maxTime + 1, most} {
		for _, windows := range []int{math.MinInt, -1, 0, 1, 100, 101, math.MaxInt} {
			for _, rows := range []int{math.MinInt, -1, 0, 1, 200, 201, math.MaxInt} {
				for _, seq := range []int{math.MinInt, -1, 0, 1, 1000000, 1000001, math.MaxInt} {
					wantNew(t, made{width, windows, rows, seq})
				}
			}
		}
	}
	for n := -300; n <= 300; n++ {
		wantNew(t, made{int64(n), 5, 5, 5})
		wantNew(t, made{maxTime + int64(n), 5, 5, 5})
		wantNew(t, made{10, n, 5, 5})
		wantNew(t, made{10, 5, n, 5})
		wantNew(t, made{10, 5, 5, n})
		wantNew(t, made{10, 5, 5, maxNumber + n})
	}
	for _, n := range edges() {
		wantNew(t, made{n, 5, 5, 5})
		wantNew(t, made{10, int(n), 5, 5})
		wantNew(t, made{10, 5, int(n), 5})
		wantNew(t, made{10, 5, 5, int(n)})
	}
}

// P20.1: New that fails touches no table that was made ahead of it.
func TestNewThatFailsTouchesNone(t *testing.T) {
	m := made{10, 2, 2, 7}
	x, w := newTable(t, m), &byWords{made: m}
	for i, d := range []deed{add(0, "b", count, 5, 12), add(0, "a", histo, 3, 25), closing(20), add(20, "a", count, 1, 29)} {
		for _, wrong := range []made{{0, 2, 2, 7}, {10, 0, 2, 7}, {10, 2, 201, 7}, {10, 2, 2, -1}, {10, 2, 2, maxNumber + 1}} {
			wantNew(t, wrong)
		}
		if a, want := do(x, d), w.do(d); !sameAnswer(a, want) {
			t.Errorf("row %d: %s = %s, want %s", i, d.text(), a.text(), want.text())
		}
		wantState(t, d.text(), x, w)
	}
	wantEnd(t, "behind New that fails", w, x)
}

// P20.2, P20.3: the chapter's example: of a width of 10 the window of 25 is that from 20 to 30.
func TestExample(t *testing.T) {
	wantRow(t, made{10, 2, 2, 0}, came(29, "a", count, 5, 25), none(29), closed(30, 0, 20, one("a", count, 5)))
	wantRow(t, made{10, 2, 2, 0}, refused(api.ErrLate, add(30, "a", count, 5, 25)), came(0, "a", count, 5, 25), none(20),
		none(25), closed(31, 0, 20, one("a", count, 5)), none(31))
}

// P20.1 to P20.3: the life of one table, by hand.
func TestByHand(t *testing.T) {
	wantRow(t, made{10, 2, 3, 7},
		came(0, "b", count, 5, 12),
		came(0, "a", histo, 3, 19),
		came(0, "b", count, 6, 10),
		came(0, "b", gauge, 4, 11),
		refused(api.ErrFull, add(0, "c", count, 1, 11)),
		refused(api.ErrFull, add(0, "a", count, 1, 11)),
		came(0, "b", gauge, 2, 10),
		came(5, "c", count, 1, 9),
		refused(api.ErrFull, add(5, "c", count, 1, 20)),
		refused(api.ErrFull, add(5, "b", count, 1, 29)),
		came(9, "c", count, 1, 0),
		none(9),
		closed(20, 7, 0, counted("c", 2, 2, 1, 1)),
		came(10, "b", count, 1, 20),
		refused(api.ErrLate, add(20, "b", count, 1, 19)),
		came(19, "b", count, 1, 19),
		none(19),
		closed(20, 8, 10, histoed("a", 1, 3, 3, 3, 0, 0, 1), counted("b", 3, 12, 1, 6), gauged("b", 2, 2, 2, 4)),
		none(20),
		came(20, "z", histo, -4, 29),
		closed(30, 9, 20, one("b", count, 1), histoed("z", 1, -4, -4, -4, 1)),
		none(most),
	)
}

// P20.2: the window of a time, of widths that divide it, that don't, of one, and of the greatest, each told by Close;
// at the mark of its end it is late, and one below that it isn't.
func TestWindowOfTime(t *testing.T) {
	rows := []struct{ width, time, begin int64 }{
		{10, 0, 0}, {10, 1, 0}, {10, 9, 0}, {10, 10, 10}, {10, 19, 10}, {10, 20, 20}, {10, 25, 20}, {10, 29, 20},
		{10, 30, 30}, {7, 0, 0}, {7, 6, 0}, {7, 7, 7}, {7, 13, 7}, {7, 14, 14}, {7, 100, 98}, {7, 104, 98}, {7, 105, 105},
		{1, 0, 0}, {1, 1, 1}, {1, 2, 2}, {1, maxTime - 1, maxTime - 1}, {1, maxTime, maxTime},
		{2, maxTime - 1, maxTime - 2}, {2, maxTime, maxTime}, {10, maxTime, 1099511627770},
		{7, maxTime, 1099511627774}, {3, maxTime, 1099511627775}, {3, maxTime - 1, 1099511627775},
		{3, maxTime - 2, 1099511627772}, {maxTime, 0, 0}, {maxTime, 1, 0}, {maxTime, maxTime - 1, 0},
		{maxTime, maxTime, maxTime}, {maxTime - 1, maxTime - 2, 0}, {maxTime - 1, maxTime - 1, maxTime - 1},
		{maxTime - 1, maxTime, maxTime - 1}, {maxTime / 2, maxTime/2 - 1, 0}, {maxTime / 2, maxTime / 2, maxTime / 2},
		{maxTime/2 + 1, maxTime, maxTime/2 + 1},
	}
	for _, r := range rows {
		m := made{r.width, 2, 2, 0}
		end := r.begin + r.width
		for _, kind := range kinds() {
			row := one("a", kind, 5)
			wantRow(t, m, came(end-1, "a", kind, 5, r.time), none(end-1), closed(end, 0, r.begin, row))
			wantRow(t, m, came(least, "a", kind, 5, r.time), none(least), none(r.begin), closed(most, 0, r.begin, row))
			wantRow(t, m, came(r.begin, "a", kind, 5, r.time), none(r.time), closed(end+1, 0, r.begin, row))
			for _, mark := range []int64{end, end + 1, end + r.width, 2*maxTime + 1, most} {
				wantRow(t, m, refused(api.ErrLate, add(mark, "a", kind, 5, r.time)), none(most))
			}
		}
	}
}

// P20.2: late at the first, at a middle and at the last time of a window, whether it is open, and whether as many are
// open, or as many rows there, as may be.
func TestLate(t *testing.T) {
	for _, width := range []int64{1, 2, 7, 10, 1000, maxTime / 2, maxTime - 1, maxTime} {
		for _, m := range []made{{width, 1, 1, 0}, {width, 1, 5, 0}, {width, 5, 1, 0}, {width, 5, 5, 0}} {
			for _, time := range []int64{0, width / 2, width - 1} {
				late := refused(api.ErrLate, add(width, "a", count, 1, time))
				new1, new2 := late, late
				new1.key, new2.kind = "b", gauge
				later := late
				later.mark = most
				wantRow(t, m, late, later, new1, came(width-1, "a", count, 1, time), late, later, new1, new2, none(width-1),
					came(width-1, "a", count, 2, time), late, closed(width, 0, 0, counted("a", 2, 3, 1, 2)), late, later,
					came(width-1, "a", count, 2, time), late)
			}
		}
	}
}

// P20.2: a window that is late isn't open, and the others that may be are: ErrLate, not ErrFull.
func TestLateWhereFull(t *testing.T) {
	m := made{10, 2, 1, 0}
	wantRow(t, m, came(0, "a", count, 1, 20), came(0, "a", count, 1, 30),
		refused(api.ErrFull, add(0, "a", count, 1, 0)), refused(api.ErrFull, add(9, "a", count, 1, 9)),
		refused(api.ErrLate, add(10, "a", count, 1, 9)), refused(api.ErrLate, add(10, "a", count, 1, 0)),
		refused(api.ErrFull, add(10, "a", count, 1, 10)), refused(api.ErrLate, add(most, "a", count, 1, 50)),
		refused(api.ErrFull, add(10, "b", count, 1, 20)), refused(api.ErrLate, add(30, "b", count, 1, 29)),
		refused(api.ErrLate, add(30, "a", count, 1, 29)), came(29, "a", count, 1, 29))
}

// P20.2, P1: what may not be, one thing at a time, whatever the mark, and whether the table has room.
func TestWrongArguments(t *testing.T) {
	m := made{10, 1, 1, 3}
	l := []value{}
	for _, key := range wrongKeys() {
		l = append(l, value{key, count, 1, 5}, value{key, histo, least, 25})
	}
	for _, kind := range wrongKinds() {
		l = append(l, value{"a", kind, 1, 5}, value{"b", kind, most, 25})
	}
	for _, time := range wrongTimes() {
		l = append(l, value{"a", count, 1, time}, value{"b", gauge, 0, time})
	}
	for _, v := range l {
		wrong := func(mark int64) done { return refused(api.ErrArg, deed{mark: mark, value: v}) }
		rows := []done{wrong(0), wrong(least), wrong(most), none(most), came(0, "a", count, 1, 5), wrong(0), wrong(9),
			wrong(10), wrong(least), wrong(most), refused(api.ErrFull, add(0, "a", count, 1, 25)), wrong(20), wrong(30),
			came(0, "a", count, 1, 5), closed(10, 3, 0, counted("a", 2, 2, 1, 1)), wrong(0), wrong(10)}
		wantRow(t, m, rows...)
	}
}

// P20.2, P1: where more than one thing is wrong, and where it is late and the table full besides: ErrArg.
func TestManyWrongArguments(t *testing.T) {
	m := made{10, 1, 1, 3}
	x, w := newTable(t, m), &byWords{made: m}
	for _, d := range []deed{add(0, "a", count, 1, 5), add(0, "a", count, 2, 9)} {
		if a := do(x, d); a.err != nil || w.do(d).err != nil {
			t.Fatal(a.text())
		}
	}
	keys := append(wrongKeys()[:12], "a", "b")
	many := 0
	for _, key := range keys {
		for _, kind := range append(wrongKinds(), count, gauge) {
			for _, time := range append(wrongTimes(), 0, 5, 25, maxTime) {
				for _, mark := range []int64{least, 0, 9, 10, 30, maxTime, most} {
					d := add(mark, key, kind, 1, time)
					want := w.add(mark, value{key, kind, 1, time})
					if want == nil { // this one comes: it isn't what is asked here
						w.came = w.came[:2]
						continue
					}
					if a := do(x, d); a.err != want {
						t.Fatalf("%s = %v, want %v", d.text(), a.err, want)
					}
					many++
				}
			}
		}
	}
	wantState(t, "behind what is wrong", x, w)
	wantEnd(t, "behind what is wrong", w, x)
	if many < 30000 {
		t.Errorf("%d were wrong", many)
	}
}

// P20.2: by hand, which error it is, where several apply.
func TestOrderOfErrors(t *testing.T) {
	m := made{10, 1, 1, 0}
	wantRow(t, m, came(0, "a", count, 1, 5),
		refused(api.ErrArg, add(most, "A", count, 1, 25)), refused(api.ErrArg, add(most, "a", 4, 1, 25)),
		refused(api.ErrArg, add(most, "a", count, 1, -1)), refused(api.ErrArg, add(most, "A", 0, 1, maxTime+1)),
		refused(api.ErrArg, add(0, "A", count, 1, 25)), refused(api.ErrArg, add(0, "a", 0, 1, 25)),
		refused(api.ErrLate, add(30, "a", count, 1, 25)), refused(api.ErrFull, add(29, "a", count, 1, 25)),
		refused(api.ErrLate, add(10, "b", count, 1, 5)), refused(api.ErrFull, add(9, "b", count, 1, 5)),
		refused(api.ErrLate, add(10, "a", count, 1, 5)), came(9, "a", count, 1, 5))
}

// P20.2: all keys that are such, each kind, and the ends of times and of values are fine.
func TestRightArguments(t *testing.T) {
	values := []int64{least, least + 1, -1, 0, 1, 5, most - 1, most}
	for _, key := range rightKeys() {
		for _, kind := range kinds() {
			for _, time := range []int64{0, 1, 5, maxTime - 1, maxTime} {
				for _, v := range values {
					m := made{10, 1, 1, 0}
					row := one(key, kind, v)
					wantRow(t, m, came(0, key, kind, v, time), closed(most, 0, time/10*10, row))
				}
			}
		}
	}
	wantRow(t, made{maxTime, 2, 1, 0}, came(0, "a", count, 1, 0), came(0, "a", count, 2, maxTime),
		came(0, "a", count, 4, maxTime-1), none(maxTime-1), closed(maxTime, 0, 0, counted("a", 2, 5, 1, 4)),
		none(2*maxTime-1), closed(2*maxTime, 1, maxTime, one("a", count, 2)))
}

// P20.2: as many windows as may be: one that isn't open isn't opened, one that is takes what comes to it.
func TestFullOfWindows(t *testing.T) {
	for _, many := range []int{1, 2, 3, 99, 100} {
		m := made{10, many, 2, 0}
		x, w := newTable(t, m), &byWords{made: m}
		tell := func(d deed, want error) {
			t.Helper()
			if a, also := do(x, d), w.do(d); a.err != want || also.err != want {
				t.Fatalf("%d windows: %s = %v, by the words %v, want %v", many, d.text(), a.err, also.err, want)
			}
		}
		for i := range many {
			// Every other one of them, from the last on, so that there are gaps between.
			tell(add(0, "a", count, int64(i), int64(many-i)*20+5), nil)
			if x.Open() != i+1 || x.Rows() != i+1 {
				t.Fatalf("behind %d: %d open, %d rows", i+1, x.Open(), x.Rows())
			}
		}
		for i := range many {
			tell(add(0, "a", count, 1, int64(i)*20+10), api.ErrFull)
			tell(add(0, "a", count, 1, int64(many-i)*20+9), nil)
			tell(add(0, "b", count, 1, int64(many-i)*20), nil)
			tell(add(0, "b", gauge, 1, int64(many-i)*20), api.ErrFull)
		}
		tell(add(0, "a", count, 1, 0), api.ErrFull)
		tell(add(0, "a", count, 1, maxTime), api.ErrFull)
		wantState(t, "full", x, w)
		// One is closed: there is room for just one again.
		if a, want := do(x, closing(30)), w.do(closing(30)); !sameAnswer(a, want) || !a.is {
			t.Fatalf("Close(30) = %s, want %s", a.text(), want.text())
		}
		tell(add(0, "a", count, 1, maxTime), nil)
		tell(add(0, "a", count, 1, 0), api.ErrFull)
		tell(add(0, "a", count, 1, 25), api.ErrFull)
		wantEnd(t, fmt.Sprintf("%d windows", many), w, x)
	}
}

// keyOf are keys by numbers, whose bytes don't rise as the numbers do.
func keyOf(n int) string { return fmt.Sprintf("k%d,n=%d", n*7919%1000, n) }

// P20.2: as many rows as may be: one that isn't there doesn't begin, one that is takes what comes to it; the same key
// with another kind is another row, and each window has a room of its own.
func TestFullOfRows(t *testing.T) {
	for _, many := range []int{1, 2, 3, 199, 200} {
		m := made{10, 3, many, 0}
		x, w := newTable(t, m), &byWords{made: m}
		tell := func(d deed, want error) {
			t.Helper()
			if err := do(x, d).err; err != want {
				t.Fatalf("%d rows: %s = %v, want %v", many, d.text(), err, want)
			}
			if want == nil {
				w.came = append(w.came, d.value)
			}
		}
		for window := range int64(3) {
			for i := range many {
				tell(add(0, keyOf(i/3), 1+i%3, int64(i), window*10+int64(i%10)), nil)
				if x.Rows() != int(window)*many+i+1 || x.Open() != int(window)+1 {
					t.Fatalf("behind %d: %d open, %d rows", i+1, x.Open(), x.Rows())
				}
			}
			for i := range many {
				tell(add(0, keyOf(i/3), 1+i%3, int64(i), window*10+int64(i%10)), nil)
				tell(add(0, keyOf(i+many), 1+i%3, int64(i), window*10), api.ErrFull)
			}
			if kind := 1 + many%3; kind != 1 {
				tell(add(0, keyOf(many/3), kind, 1, window*10), api.ErrFull)
			}
		}
		tell(add(0, "a", count, 1, 30), api.ErrFull)
		wantState(t, "full", x, w)
		wantEnd(t, fmt.Sprintf("%d rows", many), w, x)
	}
}

// P20.2: one key has a row of each kind, and kinds don't share anything.
func TestKindsApart(t *testing.T) {
	rows := []done{}
	for _, v := range []int64{5, -2, 9} {
		for _, kind := range []int{histo, count, gauge} {
			rows = append(rows, came(0, "a", kind, v, 5))
		}
	}
	wantRow(t, made{10, 1, 3, 0}, append(rows, refused(api.ErrFull, add(0, "b", count, 1, 5)),
		closed(10, 0, 0, counted("a", 3, 12, -2, 9), gauged("a", 3, 9, -2, 9), histoed("a", 3, 12, -2, 9, 1, 0, 0, 1, 1)))...)
	wantRow(t, made{10, 1, 2, 0}, rows[0], rows[1], refused(api.ErrFull, rows[2].deed), rows[3], rows[4],
		refused(api.ErrFull, rows[5].deed), closed(10, 0, 0, counted("a", 2, 3, -2, 5), histoed("a", 2, 3, -2, 5, 1, 0, 0, 1)))
}

// P20.2: what a row comes to, of each kind: sums beyond, the last one that came of a Gauge whatever its time, buckets.
func TestRowsByHand(t *testing.T) {
	m := made{10, 2, 3, 0}
	wantRow(t, m, came(0, "a", count, most, 5), came(0, "a", count, 1, 4), came(0, "a", count, -3, 6),
		closed(10, 0, 0, over(counted("a", 3, most-3, -3, most))))
	wantRow(t, m, came(0, "a", count, least, 5), came(0, "a", count, -1, 5), closed(10, 0, 0, over(counted("a", 2, least, least, -1))))
	wantRow(t, m, came(0, "a", gauge, most, 9), came(0, "a", gauge, 7, 0), closed(10, 0, 0, gauged("a", 2, 7, 7, most)))
	wantRow(t, m, came(0, "a", gauge, most, 0), came(0, "a", gauge, most, 9), came(0, "a", gauge, -7, 3),
		closed(10, 0, 0, gauged("a", 3, -7, -7, most)))
	wantRow(t, m, came(0, "a", histo, 0, 9), came(0, "a", histo, 1, 0), came(0, "a", histo, 3, 5),
		closed(10, 0, 0, histoed("a", 3, 4, 0, 3, 1, 1, 1)))
	wantRow(t, m, came(0, "a", histo, most, 9), came(0, "a", histo, most, 0),
		closed(10, 0, 0, over(histoed("a", 2, most, most, most, append(make([]uint64, 63), 2)...))))
	wantRow(t, m, came(0, "a", histo, least, 9), came(0, "a", histo, -5, 0), came(0, "a", histo, 8, 0),
		closed(10, 0, 0, over(histoed("a", 3, least+8, least, 8, 2, 0, 0, 0, 1))))
	// Two windows have rows of their own.
	wantRow(t, m, came(0, "a", count, 1, 5), came(0, "a", count, 2, 15), came(0, "a", count, 4, 0), came(0, "a", count, 8, 19),
		closed(20, 0, 0, counted("a", 2, 5, 1, 4)), closed(20, 1, 10, counted("a", 2, 10, 2, 8)))
}

// P20.3: Due, by hand: of no windows, of such whose end is below, at and above the mark.
func TestDue(t *testing.T) {
	x := newTable(t, made{10, 5, 1, 0})
	want := func(mark int64, due int) {
		t.Helper()
		for range 2 {
			if n := x.Due(mark); n != due {
				t.Errorf("Due(%d) = %d, want %d", mark, n, due)
			}
		}
	}
	for _, mark := range edges() {
		want(mark, 0)
	}
	for _, time := range []int64{25, 0, maxTime, 41} {
		if err := x.Add(0, "a", count, 1, time); err != nil {
			t.Fatal(err)
		}
	}
	for _, r := range []struct {
		mark int64
		due  int
	}{
		{least, 0}, {least + 1, 0}, {-maxTime, 0}, {-10, 0}, {-1, 0}, {0, 0}, {1, 0}, {9, 0}, {10, 1}, {11, 1}, {20, 1},
		{29, 1}, {30, 2}, {31, 2}, {40, 2}, {49, 2}, {50, 3}, {51, 3}, {1099511627776, 3}, {1099511627779, 3},
		{1099511627780, 4}, {1099511627781, 4}, {2 * maxTime, 4}, {most - 1, 4}, {most, 4},
	} {
		want(r.mark, r.due)
	}
	if x.Open() != 4 || x.Rows() != 4 || x.Seq() != 0 {
		t.Error(x.Open(), x.Rows(), x.Seq())
	}
}

// P20.3: the first one by when it begins, whatever the order in which they were opened: all orders of five.
func TestCloseFirst(t *testing.T) {
	times := []int64{3, 15, 100, 20, 1000}
	rising := slices.Sorted(slices.Values(times))
	for n := range 120 {
		left, rows := slices.Clone(times), []done{}
		for many := len(times); many > 0; many-- {
			at := n % many
			n /= many
			rows = append(rows, came(0, "a", count, left[at], left[at]))
			left = slices.Delete(left, at, at+1)
		}
		for i, time := range rising {
			start := time / 10 * 10
			rows = append(rows, none(start+9))
			rows = append(rows, closed([]int64{start + 10, 2000, most}[i%3], 40+i, start, one("a", count, time)))
		}
		wantRow(t, made{10, 5, 1, 40}, append(rows, none(most))...)
	}
}

// P20.3: a window whose end is above the mark stays open, also where others are closed.
func TestCloseNotAboveTheMark(t *testing.T) {
	wantRow(t, made{10, 3, 1, 1000000}, came(0, "a", count, 1, 35), came(0, "a", count, 2, 5), came(0, "a", count, 3, 15),
		none(least), none(-1), none(0), none(9), closed(10, 1000000, 0, one("a", count, 2)), none(10), none(19),
		closed(25, 1000001, 10, one("a", count, 3)), none(25), none(39), came(39, "a", count, 4, 30),
		closed(40, 1000002, 30, counted("a", 2, 5, 1, 4)), none(40), none(most), came(0, "a", count, 1, 0),
		closed(most, 1000003, 0, one("a", count, 1)))
}

// P20.3: Close where none is due turns nothing, however often.
func TestCloseOfNone(t *testing.T) {
	m := made{10, 2, 2, 5}
	rows := []done{came(0, "b", histo, 1, 15), came(0, "a", count, 1, 25)}
	for range 20 {
		rows = append(rows, none(19), none(0), none(least), none(-1))
	}
	wantRow(t, m, append(rows, came(0, "b", histo, 2, 15), none(19), closed(20, 5, 10, histoed("b", 2, 3, 1, 2, 0, 1, 1)),
		none(20), closed(30, 6, 20, one("a", count, 1)), none(most), none(most))...)
}

// P20.3: a window that was closed may be opened anew by what isn't late, as at a mark that fell, and has nothing of
// before; it has a number of its own.
func TestOpenedAnew(t *testing.T) {
	m := made{10, 1, 2, 0}
	wantRow(t, m, came(0, "a", count, 5, 5), came(0, "b", histo, 100, 5),
		closed(10, 0, 0, one("a", count, 5), one("b", histo, 100)),
		refused(api.ErrLate, add(10, "a", count, 1, 5)),
		came(9, "b", histo, 2, 5), refused(api.ErrLate, add(10, "b", histo, 3, 5)), came(9, "c", gauge, 1, 5),
		refused(api.ErrFull, add(9, "a", count, 1, 5)),
		closed(10, 1, 0, one("b", histo, 2), one("c", gauge, 1)),
		came(0, "a", count, 1, 0), closed(10, 2, 0, one("a", count, 1)), none(most))
}

// P20.3: rows by rising Key, byte by byte, of one Key by rising Kind, in whatever order they began.
func TestRowsRise(t *testing.T) {
	want := []api.Row{}
	for i, key := range rightKeys() {
		for _, kind := range kinds() {
			want = append(want, one(key, kind, int64(i*10+kind)))
		}
	}
	rnd := rand.New(rand.NewSource(1))
	for n := range 100 {
		rows := []done{}
		for _, r := range want {
			rows = append(rows, came(0, r.Key, r.Kind, r.Sum, rnd.Int63n(1000)))
		}
		switch n {
		case 0: // as they rise
		case 1:
			slices.Reverse(rows)
		default:
			rnd.Shuffle(len(rows), func(i, j int) { rows[i], rows[j] = rows[j], rows[i] })
		}
		x := newTable(t, made{1000, 1, 200, 0})
		for _, d := range rows {
			if a := do(x, d.deed); a.err != nil {
				t.Fatalf("%s = %v", d.text(), a.err)
			}
		}
		if a := do(x, closing(1000)); !sameAnswer(a, closed(1000, 0, 0, want...).want) {
			t.Fatalf("round %d: %s", n, a.text())
		}
	}
	// A comma stands ahead of a point, and that ahead of a digit, as bytes; by layer 5's Keys it needn't be so.
	wantRow(t, made{10, 1, 9, 0}, came(0, "a0", count, 1, 0), came(0, "a.", count, 2, 0), came(0, "a,z=9", count, 3, 0),
		came(0, "a", histo, 4, 0), came(0, "a_", count, 5, 0), came(0, "aa", count, 6, 0), came(0, "a", count, 7, 0),
		came(0, "a,b=1,c=1", gauge, 8, 0), came(0, "a,b.=1", gauge, 9, 0),
		closed(10, 0, 0, one("a", count, 7), one("a", histo, 4), one("a,b.=1", gauge, 9), one("a,b=1,c=1", gauge, 8),
			one("a,z=9", count, 3), one("a.", count, 2), one("a0", count, 1), one("a_", count, 5), one("aa", count, 6)))
}

// P20.3: each Close tells the next number, far beyond the greatest that New takes too.
func TestNumbers(t *testing.T) {
	for _, seq := range []int{0, 1, 7, 999999, 1000000} {
		x := newTable(t, made{1, 3, 1, seq})
		for n := range 3000 {
			time := int64(n)
			if x.Seq() != seq+n {
				t.Fatalf("Seq() = %d, want %d", x.Seq(), seq+n)
			}
			if err := x.Add(time, "a", count, time, time); err != nil {
				t.Fatal(err)
			}
			if _, is := x.Close(time); is || x.Seq() != seq+n {
				t.Fatalf("Close(%d): %t, Seq() = %d", time, is, x.Seq())
			}
			b, is := x.Close(time + 1)
			if !is || !sameBatch(b, api.Batch{Seq: seq + n, Start: time, Rows: []api.Row{one("a", count, time)}}) {
				t.Fatalf("Close(%d) = %v, %t", time+1, b, is)
			}
		}
	}
}

// P20.1 to P20.3: the greatest table there may be, full, and closed to its end.
func TestGreatestTable(t *testing.T) {
	x := newTable(t, made{10, 100, 200, 0})
	for i := range 100 * 200 {
		// 7919 has nothing in common with 20000, so that each window and row is reached once.
		n := i * 7919 % 20000
		window, row := int64(n/200), n%200
		if err := x.Add(0, fmt.Sprintf("k%03d", row/2), 1+row%2*2, int64(n), window*10+int64(n%10)); err != nil {
			t.Fatal(err)
		}
		if x.Rows() != i+1 {
			t.Fatalf("behind %d: Rows() = %d", i+1, x.Rows())
		}
	}
	if x.Open() != 100 || x.Due(999) != 99 || x.Due(1000) != 100 {
		t.Fatal(x.Open(), x.Due(999), x.Due(1000))
	}
	for window := range 100 {
		b, is := x.Close(1000)
		if !is || b.Seq != window || b.Start != int64(window)*10 || len(b.Rows) != 200 {
			t.Fatalf("window %d: batch %d from %d, %d rows, %t", window, b.Seq, b.Start, len(b.Rows), is)
		}
		for row, r := range b.Rows {
			want := one(fmt.Sprintf("k%03d", row/2), 1+row%2*2, int64(window*200+row))
			if !sameRow(r, want) {
				t.Fatalf("window %d, row %d: %v, want %v", window, row, r, want)
			}
		}
		if x.Open() != 99-window || x.Rows() != (99-window)*200 || x.Due(1000) != 99-window {
			t.Fatal(x.Open(), x.Rows(), x.Due(1000))
		}
	}
}

// text is a string that lies in bytes which a test may write over.
func text(bytes []byte) string { return unsafe.String(&bytes[0], len(bytes)) }

// P20.4: what a key lies in reads behind Add as ahead of it, also behind its length.
func TestKeyStays(t *testing.T) {
	const all = "cpu,host=a,x=1 and more"
	bytes := []byte(all)
	x := newTable(t, made{10, 2, 2, 0})
	for _, many := range []int{3, 10, 14, 11, 0, 3} {
		for _, kind := range []int{count, gauge, histo, 4} {
			for _, time := range []int64{5, 15, 25, -1} {
				key := unsafe.String(unsafe.SliceData(bytes), many)
				x.Add(15, key, kind, 1, time)
				x.Close(16)
				if string(bytes) != all || key != all[:many] {
					t.Fatalf("behind %d bytes: %q", many, bytes)
				}
			}
		}
	}
}

// P20.4: a key isn't kept: writing over what it lay in turns neither rows nor what is told, wherever it was handed in:
// with the value that began the row, with one that came to it, with one that was refused.
func TestKeyIsNotKept(t *testing.T) {
	for _, kind := range kinds() {
		x := newTable(t, made{10, 2, 2, 0})
		tell := func(key string, v, time int64, want error) {
			t.Helper()
			bytes := []byte(key)
			if err := x.Add(0, text(bytes), kind, v, time); err != want {
				t.Fatalf("Add of %s = %v, want %v", key, err, want)
			}
			copy(bytes, "mem,zzzzzzzzzzzzzzz")
		}
		values := []int64{5, 6, 7, 8}
		for i, v := range values {
			tell("cpu,host=a", v, 5, nil)
			tell("cpu,host=b", v, 5, nil)
			tell("cpu,host=c", v, 5, api.ErrFull)
			tell("cpu,host=a", v, 25, nil)
			if x.Rows() != 3 || x.Open() != 2 {
				t.Fatalf("round %d: Open() = %d, Rows() = %d", i, x.Open(), x.Rows())
			}
		}
		first := do(x, closing(10))
		tell("mem", 1, 5, nil)
		tell("mem", 2, 5, nil)
		a, b := rowByWords(which{"cpu,host=a", kind}, values), rowByWords(which{"cpu,host=b", kind}, values)
		m := rowByWords(which{"mem", kind}, []int64{1, 2})
		for i, want := range []done{closed(10, 0, 0, a, b), closed(most, 1, 0, m), closed(most, 2, 20, a), none(most)} {
			is := first
			if i > 0 {
				is = do(x, want.deed)
			}
			if !sameAnswer(is, want.want) {
				t.Errorf("kind %d, batch %d: %s, want %s", kind, i, is.text(), want.want.text())
			}
		}
	}
}

// scribble writes over all the memory of a batch that was told, that behind lengths too.
func scribble(b api.Batch) {
	for i := range b.Rows {
		l := b.Rows[i].Buckets
		l = l[:cap(l)]
		for j := range l {
			l[j] = 0xabcdef
		}
	}
	rows := b.Rows[:cap(b.Rows)]
	for i := range rows {
		rows[i] = api.Row{Key: "scribble", Kind: -9, Many: 9, Sum: 9, Least: 9, Most: -9, Over: true}
	}
}

// cloned is a copy of a batch.
func cloned(b api.Batch) api.Batch {
	b.Rows = slices.Clone(b.Rows)
	for i := range b.Rows {
		b.Rows[i].Buckets = slices.Clone(b.Rows[i].Buckets)
	}
	return b
}

// P20.4: no two rows of a batch share anything: all of the memory of one's buckets is its own.
func TestRowsShareNothing(t *testing.T) {
	x := newTable(t, made{10, 1, 20, 0})
	for v := range int64(10) {
		for n := range 20 {
			if err := x.Add(0, keyOf(n), histo, v*int64(n), 5); err != nil {
				t.Fatal(err)
			}
		}
	}
	b, _ := x.Close(10)
	for at := range b.Rows {
		was := cloned(b)
		l := b.Rows[at].Buckets
		for i := range l[:cap(l)] {
			l[:cap(l)][i] = 0xabcdef
		}
		for i, r := range b.Rows {
			if i != at && !sameRow(r, was.Rows[i]) {
				t.Fatalf("scribbling over row %d turned row %d: %v", at, i, r)
			}
		}
	}
}

// P20.4: turning a batch that was told turns neither the table nor another batch, told before or behind it.
func TestToldIsNew(t *testing.T) {
	rnd := rand.New(rand.NewSource(2))
	for range 300 {
		m := made{10, 4, 4, 0}
		x, w := newTable(t, m), &byWords{made: m}
		told, kept := []api.Batch{}, []api.Batch{}
		for range 200 {
			d := add(0, rightKeys()[rnd.Intn(6)], histo-rnd.Intn(2)*rnd.Intn(3), rnd.Int63()>>rnd.Intn(63), rnd.Int63n(50))
			if rnd.Intn(4) == 0 {
				d = closing(rnd.Int63n(70))
			}
			a, want := do(x, d), w.do(d)
			if !sameAnswer(a, want) {
				t.Fatalf("%s = %s, want %s", d.text(), a.text(), want.text())
			}
			for i, b := range told {
				if !sameBatch(b, kept[i]) {
					t.Fatalf("behind %s: batch %d was turned", d.text(), kept[i].Seq)
				}
			}
			if !a.is {
				continue
			}
			if rnd.Intn(2) == 0 {
				scribble(a.batch)
			} else {
				told, kept = append(told, a.batch), append(kept, cloned(a.batch))
			}
		}
		wantEnd(t, "behind scribbling", w, x)
	}
}

// P20.4: by hand: a window is opened anew where the batch that was told of it was turned.
func TestToldIsNewByHand(t *testing.T) {
	x := newTable(t, made{10, 2, 2, 0})
	rows := []done{came(0, "a", histo, 3, 5), came(0, "b", count, 4, 5), came(0, "a", histo, 5, 15), came(0, "a", histo, 4, 5),
		closed(10, 0, 0, histoed("a", 2, 7, 3, 4, 0, 0, 1, 1), one("b", count, 4)), came(0, "a", histo, 5, 15),
		came(0, "a", histo, 3, 5), closed(10, 1, 0, histoed("a", 1, 3, 3, 3, 0, 0, 1)), came(0, "a", histo, 6, 15),
		closed(20, 2, 10, histoed("a", 3, 16, 5, 6, 0, 0, 0, 3)), none(most)}
	for i, d := range rows {
		a := do(x, d.deed)
		if !sameAnswer(a, d.want) {
			t.Errorf("row %d: %s = %s, want %s", i, d.text(), a.text(), d.want.text())
		}
		scribble(a.batch)
	}
}

// anyMade is a table of few windows and rows mostly, for these are soon full.
func anyMade(rnd *rand.Rand) made {
	m := made{[]int64{1, 2, 3, 7, 10, 64, 1000, maxTime / 3, maxTime - 1, maxTime}[rnd.Intn(10)], 1 + rnd.Intn(4),
		1 + rnd.Intn(4), rnd.Intn(3)}
	switch rnd.Intn(10) {
	case 0:
		m.windows, m.rows = 100, 200
	case 1:
		m.seq = maxNumber
	case 2:
		m.width = 1 + rnd.Int63n(maxTime)
	}
	return m
}

// anyValue is one of any size, of either sign.
func anyValue(rnd *rand.Rand) int64 {
	switch rnd.Intn(8) {
	case 0:
		return most - rnd.Int63n(4)
	case 1:
		return least + rnd.Int63n(4)
	case 2, 3, 4:
		return rnd.Int63n(20) - 5
	}
	return int64(rnd.Uint64()) >> rnd.Intn(64)
}

// anyTime is one near to a place, some windows around it, in what times there are mostly.
func anyTime(rnd *rand.Rand, m made, near int64) int64 {
	switch rnd.Intn(30) {
	case 0:
		return wrongTimes()[rnd.Intn(len(wrongTimes()))]
	case 1:
		return []int64{0, 1, maxTime - 1, maxTime}[rnd.Intn(4)]
	}
	spread := min(m.width*6, maxTime)
	time := near + rnd.Int63n(spread+1) - spread/2
	return min(max(time, 0), maxTime)
}

func anyKey(rnd *rand.Rand) string {
	if rnd.Intn(40) == 0 {
		return wrongKeys()[rnd.Intn(len(wrongKeys()))]
	}
	return rightKeys()[rnd.Intn(5+rnd.Intn(len(rightKeys())-5))]
}

func anyKind(rnd *rand.Rand) int {
	if rnd.Intn(40) == 0 {
		return wrongKinds()[rnd.Intn(len(wrongKinds()))]
	}
	return 1 + rnd.Intn(3)
}

// nextMark is one that rises, stays or falls, near to windows' ends.
func nextMark(rnd *rand.Rand, m made, mark int64) int64 {
	switch rnd.Intn(30) {
	case 0:
		return edges()[rnd.Intn(len(edges()))]
	case 1, 2, 3:
		return mark - rnd.Int63n(2*m.width)
	case 4, 5, 6, 7:
		return mark + rnd.Int63n(2*m.width)
	case 8, 9, 10:
		end := mark/m.width*m.width + m.width
		return end + rnd.Int63n(3) - 1
	case 11, 12, 13:
		return mark + rnd.Int63n(3)
	}
	return mark
}

// anyDeeds are so many, of values near to where the mark is.
func anyDeeds(rnd *rand.Rand, m made, many int) []deed {
	l := []deed{}
	mark := []int64{0, 0, 0, -5, rnd.Int63n(maxTime), maxTime}[rnd.Intn(6)]
	for range many {
		next := nextMark(rnd, m, mark)
		if next > -maxTime && next < 2*maxTime {
			mark = next
		}
		d := deed{closes: rnd.Intn(6) == 0, mark: next}
		if !d.closes {
			d.value = value{anyKey(rnd), anyKind(rnd), anyValue(rnd), anyTime(rnd, m, mark+m.width/2)}
		}
		l = append(l, d)
	}
	return l
}

// wantAlike does deeds to a table, and holds all that it answers against the chapter's words.
func wantAlike(t *testing.T, m made, l []deed) {
	t.Helper()
	x, w := newTable(t, m), &byWords{made: m}
	for i, d := range l {
		if a, want := do(x, d), w.do(d); !sameAnswer(a, want) {
			t.Fatalf("%s,%s: %s, want %s", m.text(), texts(l[:i+1]), a.text(), want.text())
		}
		if due := w.due(d.mark); x.Due(d.mark) != due || x.Open() != len(w.begins()) || x.Rows() != w.allRows() ||
			x.Seq() != w.seq+w.closed {
			t.Fatalf("%s,%s: due %d, %d open, %d rows, next %d", m.text(), texts(l[:i+1]), x.Due(d.mark), x.Open(), x.Rows(),
				x.Seq())
		}
	}
	wantEnd(t, m.text()+","+texts(l), w, x)
}

// P20.1 to P20.3: all lists of four of a few deeds, of small tables.
func TestAllShortLists(t *testing.T) {
	each := []deed{closing(2), closing(4), closing(9), add(0, "", count, 1, 1), add(0, "a", count, 1, -1)}
	for _, time := range []int64{0, 3, 5} {
		each = append(each, add(0, "a", count, 1+time, time), add(4, "a", count, 9, time), add(0, "b", histo, time, time))
	}
	l := make([]deed, 4)
	for _, m := range []made{{2, 1, 1, 0}, {2, 2, 1, 5}, {2, 1, 2, 0}, {3, 2, 2, 0}, {6, 1, 1, 0}} {
		for n := range len(each) * len(each) * len(each) * len(each) {
			for i := range l {
				l[i] = each[n%len(each)]
				n /= len(each)
			}
			wantAlike(t, m, l)
		}
	}
}

// P20.1 to P20.3, P20.5, P1: values at random, added and closed in any order, with marks that rise, stay and fall, each
// told against the chapter's words worked out apart.
func TestAtRandom(t *testing.T) {
	rnd := rand.New(rand.NewSource(3))
	for range 3000 {
		m := anyMade(rnd)
		wantAlike(t, m, anyDeeds(rnd, m, rnd.Intn(80)))
	}
	for range 20 {
		m := anyMade(rnd)
		wantAlike(t, m, anyDeeds(rnd, m, 700))
	}
}

// P20.1 to P20.3, P1: numbers of any height.
func TestAnyNumbers(t *testing.T) {
	rnd := rand.New(rand.NewSource(4))
	number := func() int64 {
		if rnd.Intn(2) == 0 {
			return edges()[rnd.Intn(len(edges()))]
		}
		return int64(rnd.Uint64()) >> rnd.Intn(64)
	}
	for range 3000 {
		l := []deed{}
		for range 20 {
			l = append(l, deed{rnd.Intn(4) == 0, number(), value{anyKey(rnd), anyKind(rnd), number(), number()}})
		}
		wantAlike(t, anyMade(rnd), l)
	}
}

// P20.2, P20.3: a value that was refused, and a Close where none is due, leave no trace: a table that isn't told them
// answers alike to its end.
func TestRefusedLeavesNoTrace(t *testing.T) {
	rnd := rand.New(rand.NewSource(5))
	refusals := map[error]int{}
	for range 1500 {
		m := anyMade(rnd)
		all, spared, w := newTable(t, m), newTable(t, m), &byWords{made: m}
		for _, d := range anyDeeds(rnd, m, 60) {
			want := w.do(d)
			if a := do(all, d); !sameAnswer(a, want) {
				t.Fatalf("%s: %s = %s, want %s", m.text(), d.text(), a.text(), want.text())
			}
			if turnsNothing(d, want) {
				refusals[want.err]++
			} else if a := do(spared, d); !sameAnswer(a, want) {
				t.Fatalf("%s, without what is refused: %s = %s, want %s", m.text(), d.text(), a.text(), want.text())
			}
			if all.Open() != spared.Open() || all.Rows() != spared.Rows() || all.Seq() != spared.Seq() ||
				all.Due(d.mark) != spared.Due(d.mark) {
				t.Fatalf("%s: behind %s not alike", m.text(), d.text())
			}
		}
		wantEnd(t, m.text(), w, all, spared)
	}
	for _, err := range []error{nil, api.ErrArg, api.ErrLate, api.ErrFull} {
		if refusals[err] < 1000 {
			t.Errorf("%v: %d", err, refusals[err])
		}
	}
}

// P20.5: each value that was added comes to just one row of one batch: they are powers of two, so that a sum and the
// buckets tell which of them are in it. What was refused is in none.
func TestEachValueOnce(t *testing.T) {
	rnd := rand.New(rand.NewSource(6))
	for range 2000 {
		m := anyMade(rnd)
		x, added, batches := newTable(t, m), map[int64]value{}, []api.Batch{}
		deeds := anyDeeds(rnd, m, 75)
		power := int64(1)
		for _, d := range append(deeds, slices.Repeat([]deed{closing(most)}, m.windows+1)...) {
			if d.kind == gauge {
				d.kind = histo
			}
			if !d.closes && power > 0 {
				d.value.value = power
				if do(x, d).err == nil {
					added[power] = d.value
				}
				power <<= 1
			}
			if a := do(x, closing(d.mark)); a.is {
				batches = append(batches, a.batch)
			}
		}
		if x.Open() != 0 || x.Rows() != 0 {
			t.Fatalf("%d open, %d rows", x.Open(), x.Rows())
		}
		wantOnce(t, m, added, batches)
	}
}

// wantOnce takes out of values that are powers of two what the rows of batches have; it wants none to be left.
func wantOnce(t *testing.T, m made, added map[int64]value, batches []api.Batch) {
	t.Helper()
	for _, b := range batches {
		if b.Start%m.width != 0 || len(b.Rows) == 0 {
			t.Fatalf("%s: a batch from %d with %d rows", m.text(), b.Start, len(b.Rows))
		}
		for _, r := range b.Rows {
			many := uint64(0)
			for n := range 63 {
				power := int64(1) << n
				if r.Sum&power == 0 {
					continue
				}
				many++
				v, is := added[power]
				if !is || v.key != r.Key || v.kind != r.Kind || v.time < b.Start || v.time-b.Start >= m.width {
					t.Fatalf("%s: %v, %t, in %v of the batch from %d", m.text(), v, is, r, b.Start)
				}
				if r.Kind == histo && r.Buckets[n+1] != 1 {
					t.Fatalf("%s: %v has %d in the bucket of %d", m.text(), r, r.Buckets[n+1], power)
				}
				delete(added, power)
			}
			if r.Many != many || r.Over {
				t.Fatalf("%s: %v is of %d values", m.text(), r, many)
			}
		}
	}
	if len(added) != 0 {
		t.Fatalf("%s: %v is in no row", m.text(), added)
	}
}

// P20.5: with marks that don't fall, the batches' Start rise, each by so many whole widths, and no window is told twice.
func TestStartsRise(t *testing.T) {
	rnd := rand.New(rand.NewSource(7))
	batches := 0
	for range 2000 {
		m := anyMade(rnd)
		x, mark, last, many := newTable(t, m), int64(least), int64(-1), 0
		tell := func(d deed) {
			a := do(x, d)
			if !a.is {
				return
			}
			if a.batch.Start <= last || a.batch.Start%m.width != 0 || a.batch.Seq != m.seq+many {
				t.Fatalf("%s: batch %d from %d behind one from %d", m.text(), a.batch.Seq, a.batch.Start, last)
			}
			last = a.batch.Start
			many++
		}
		for _, d := range anyDeeds(rnd, m, 80) {
			// Behind a mark that is far up all would be late.
			if d.mark <= maxTime {
				mark = max(mark, d.mark)
				d.mark = mark
				tell(d)
			}
		}
		for range m.windows {
			tell(closing(most))
		}
		batches += many
	}
	if batches < 4000 {
		t.Errorf("%d batches", batches)
	}
}

// P20.5: what comes late changes none: two tables, one of which is told much that is late, close alike.
func TestLateChangesNone(t *testing.T) {
	rnd := rand.New(rand.NewSource(8))
	lates := 0
	for range 1000 {
		m := anyMade(rnd)
		told, spared := newTable(t, m), newTable(t, m)
		for _, d := range anyDeeds(rnd, m, 60) {
			a, b := do(told, d), do(spared, d)
			if !sameAnswer(a, b) {
				t.Fatalf("%s: %s = %s, without what is late %s", m.text(), d.text(), a.text(), b.text())
			}
			time := min(max(anyTime(rnd, m, d.mark), 0), maxTime)
			late := value{rightKeys()[rnd.Intn(5)], 1 + rnd.Intn(3), anyValue(rnd), time}
			end := time/m.width*m.width + m.width
			if err := told.Add(end+rnd.Int63n(5), late.key, late.kind, late.value, late.time); err != api.ErrLate {
				t.Fatalf("%s: %v at the mark of its end: %v", m.text(), late, err)
			}
			lates++
		}
		for is := true; is; {
			a, b := do(told, closing(most)), do(spared, closing(most))
			if is = a.is; !sameAnswer(a, b) {
				t.Fatalf("%s: closes %s, without what is late %s", m.text(), a.text(), b.text())
			}
		}
	}
	if lates != 60000 {
		t.Errorf("%d were late", lates)
	}
}

// P20.3: what is told hangs on no order in which maps are gone through: the same deeds answer alike, again and again.
func TestAgainAlike(t *testing.T) {
	rnd := rand.New(rand.NewSource(9))
	m := made{10, 30, 60, 0}
	l := []deed{}
	for range 600 {
		l = append(l, add(0, rightKeys()[rnd.Intn(len(rightKeys()))], 1+rnd.Intn(3), anyValue(rnd), rnd.Int63n(200)))
	}
	l = append(l, slices.Repeat([]deed{closing(170)}, 20)...)
	l = append(l, slices.Repeat([]deed{closing(most)}, 20)...)
	first := []answer{}
	for round := range 30 {
		x := newTable(t, m)
		for i, d := range l {
			a := do(x, d)
			if round == 0 {
				first = append(first, a)
			} else if !sameAnswer(a, first[i]) {
				t.Fatalf("round %d: %s = %s, and %s at first", round, d.text(), a.text(), first[i].text())
			}
		}
	}
}

// P20.1 to P20.4: tables told apart, deed by deed of each in turn, don't touch each other, also where they are made of
// the same numbers, and where one is made while the others are under way.
func TestApart(t *testing.T) {
	rnd := rand.New(rand.NewSource(10))
	for range 60 {
		tables, words := []*Table{}, []*byWords{}
		m := anyMade(rnd)
		deeds := anyDeeds(rnd, m, 300)
		for n := range 300 {
			if n%60 == 0 {
				tables, words = append(tables, newTable(t, m)), append(words, &byWords{made: m})
			}
			at := rnd.Intn(len(tables))
			// Some of the same deeds come to all of them.
			d := deeds[rnd.Intn(n+1)]
			if a, want := do(tables[at], d), words[at].do(d); !sameAnswer(a, want) {
				t.Fatalf("table %d, %s: %s = %s, want %s", at, m.text(), d.text(), a.text(), want.text())
			}
			for i, x := range tables {
				if x.Open() != len(words[i].begins()) || x.Rows() != words[i].allRows() || x.Seq() != m.seq+words[i].closed {
					t.Fatalf("table %d, behind a deed of table %d: %d open, %d rows, next %d", i, at, x.Open(), x.Rows(), x.Seq())
				}
			}
		}
		for i, x := range tables {
			wantEnd(t, fmt.Sprintf("table %d, %s", i, m.text()), words[i], x)
		}
	}
}

// P20.3: what was closed isn't kept: a table that lives long has no more than its open windows.
func TestNothingIsLeft(t *testing.T) {
	x := newTable(t, made{10, 2, 3, 0})
	for n := range int64(20000) {
		for i := range 3 {
			if err := x.Add(n*10, keyOf(int(n)*3+i), histo, n, n*10+int64(i)); err != nil {
				t.Fatal(err)
			}
		}
		if b, is := x.Close(n*10 + 10); !is || len(b.Rows) != 3 || b.Start != n*10 {
			t.Fatalf("Close(%d) = %v, %t", n*10+10, b, is)
		}
		if x.Open() != 0 || x.Rows() != 0 || x.Due(most) != 0 || len(x.open) != 0 {
			t.Fatal(x.Open(), x.Rows(), x.Due(most), len(x.open))
		}
	}
}
