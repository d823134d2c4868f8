package tally

import (
	"fmt"
	"math"
	"math/big"
	"math/rand"
	"slices"
	"strings"
	"testing"
	"unsafe"

	"noggin/api"
)

// The chapter's ends, its kinds, and its last bucket.
const (
	most  = math.MaxInt64
	least = math.MinInt64
	top   = math.MaxUint64

	count = 1
	gauge = 2
	histo = 3

	widest = 63
)

// kinds are the three there are.
func kinds() []int { return []int{count, gauge, histo} }

// noKinds are numbers that are none of the three.
func noKinds() []int {
	return []int{math.MinInt, math.MinInt32, -3, -2, -1, 0, 4, 5, 6, 255, 256, 257, 258, 259, math.MaxInt32, 1<<32 + 1,
		1<<32 + 2, 1<<32 + 3, math.MaxInt - 1, math.MaxInt}
}

// keys are any texts, and bytes that are no text.
func keys() []string {
	return []string{"", "a", "cpu,h=1", " ", "\n", "\x00", "a\x00", "\x80", "\xff\xfe", "a\xc3", "é", "a c 5 100",
		strings.Repeat("k", 300), strings.Repeat("\xff", 5000)}
}

// edges are numbers at the ends, about 0, about each power of two and about its other sign.
func edges() []int64 {
	l := []int64{least, least + 1, most - 1, most, 0, 3, 5, 7, 100}
	for n := range widest {
		l = append(l, 1<<n-1, 1<<n, 1<<n+1, -(1 << n), -(1<<n - 1), -(1<<n + 1))
	}
	slices.Sort(l)
	return slices.Compact(l)
}

// anyValue is a value of any size, of either sign.
func anyValue(rnd *rand.Rand) int64 {
	switch rnd.Intn(8) {
	case 0:
		return edges()[rnd.Intn(len(edges()))]
	case 1:
		return most - rnd.Int63n(4)
	case 2:
		return least + rnd.Int63n(4)
	}
	return int64(rnd.Uint64()) >> rnd.Intn(64)
}

// values are so many.
func values(rnd *rand.Rand, many int) []int64 {
	l := make([]int64, 0, many)
	for range many {
		l = append(l, anyValue(rnd))
	}
	return l
}

// bitsByWords is how many bits a value has, counted by halving.
func bitsByWords(v int64) int {
	many := 0
	for ; v > 0; v /= 2 {
		many++
	}
	return many
}

// sumByWords is the sum of two, in numbers that have no ends, and the nearer end where it is beyond.
func sumByWords(a, b int64) (int64, bool) {
	sum := new(big.Int).Add(big.NewInt(a), big.NewInt(b))
	switch {
	case sum.Cmp(big.NewInt(least)) < 0:
		return least, true
	case sum.Cmp(big.NewInt(most)) > 0:
		return most, true
	}
	return sum.Int64(), false
}

// byWords is what values come to, by the chapter's words: each thing is asked of all of them together.
func byWords(key string, kind int, l []int64) api.Row {
	if len(l) == 0 {
		return api.Row{}
	}
	sorted := slices.Sorted(slices.Values(l))
	r := api.Row{Key: key, Kind: kind, Many: uint64(len(l)), Least: sorted[0], Most: sorted[len(l)-1], Sum: l[len(l)-1]}
	if kind != gauge {
		r.Sum = 0
		for _, v := range l {
			sum, beyond := sumByWords(r.Sum, v)
			r.Sum, r.Over = sum, r.Over || beyond
		}
	}
	if kind == histo {
		r.Buckets = make([]uint64, bitsByWords(r.Most)+1)
		for _, v := range l {
			r.Buckets[bitsByWords(v)]++
		}
	}
	return r
}

// addByWords is any row, to which a value came, by the chapter's words.
func addByWords(r api.Row, v int64) api.Row {
	told := api.Row{Key: r.Key, Kind: r.Kind, Many: upByWords(r.Many), Sum: v, Over: r.Over}
	if r.Kind != gauge {
		sum, beyond := sumByWords(r.Sum, v)
		told.Sum, told.Over = sum, r.Over || beyond
	}
	told.Least = slices.Min([]int64{r.Least, v})
	told.Most = slices.Max([]int64{r.Most, v})
	many := len(r.Buckets)
	if r.Kind == histo {
		many = slices.Max([]int{many, bitsByWords(v) + 1})
	}
	for i := range many {
		n := uint64(0)
		if i < len(r.Buckets) {
			n = r.Buckets[i]
		}
		if r.Kind == histo && i == bitsByWords(v) {
			n = upByWords(n)
		}
		told.Buckets = append(told.Buckets, n)
	}
	return told
}

// upByWords is one more, at most the top.
func upByWords(n uint64) uint64 {
	if n == top {
		return top
	}
	return n + 1
}

// text tells a row, all of its fields.
func text(r api.Row) string {
	return fmt.Sprintf("{%.20q kind %d: %d, sum %d (%t), %d to %d, %d}", r.Key, r.Kind, r.Many, r.Sum, r.Over, r.Least,
		r.Most, r.Buckets)
}

// same tells whether two rows are alike; no buckets may be nil or empty.
func same(a, b api.Row) bool {
	return a.Key == b.Key && a.Kind == b.Kind && a.Many == b.Many && a.Sum == b.Sum && a.Least == b.Least &&
		a.Most == b.Most && a.Over == b.Over && slices.Equal(a.Buckets, b.Buckets)
}

func wantRow(t *testing.T, what string, got, want api.Row) {
	t.Helper()
	if !same(got, want) {
		t.Errorf("%s = %s, want %s", what, text(got), text(want))
	}
}

// wantAdd asks for a row to which a value came, twice, for nothing is kept.
func wantAdd(t *testing.T, r api.Row, v int64, want api.Row) {
	t.Helper()
	for range 2 {
		wantRow(t, fmt.Sprintf("Add(%s, %d)", text(r), v), Add(r, v), want)
	}
}

// one is a one behind so many zeros.
func one(zeros int) []uint64 { return append(make([]uint64, zeros), 1) }

// P18.1: Bucket, by hand.
func TestBucket(t *testing.T) {
	rows := []struct {
		v    int64
		want int
	}{
		{least, 0}, {least + 1, 0}, {-1 << 62, 0}, {-5, 0}, {-2, 0}, {-1, 0}, {0, 0}, {1, 1}, {2, 2}, {3, 2}, {4, 3},
		{5, 3}, {6, 3}, {7, 3}, {8, 4}, {255, 8}, {256, 9}, {1<<31 - 1, 31}, {1 << 31, 32}, {1<<32 - 1, 32}, {1 << 32, 33},
		{1<<62 - 1, 62}, {1 << 62, 63}, {most - 1, 63}, {most, 63},
	}
	for _, row := range rows {
		if n := Bucket(row.v); n != row.want {
			t.Errorf("Bucket(%d) = %d, want %d", row.v, n, row.want)
		}
	}
}

// P18.1: Bucket of each power of two, of those beside it, and of the other sign of all of them.
func TestBucketOfPowers(t *testing.T) {
	for n := range widest {
		power := int64(1) << n
		if got := Bucket(power); got != n+1 {
			t.Errorf("Bucket(%d) = %d, want %d", power, got, n+1)
		}
		if got := Bucket(power - 1); got != n {
			t.Errorf("Bucket(%d) = %d, want %d", power-1, got, n)
		}
		if got := Bucket(power | 1); got != n+1 {
			t.Errorf("Bucket(%d) = %d, want %d", power|1, got, n+1)
		}
		for _, v := range []int64{-power, -power - 1, 1 - power} {
			if got := Bucket(v); got != 0 {
				t.Errorf("Bucket(%d) = %d, want 0", v, got)
			}
		}
	}
}

// P18.1: Bucket, held against bits that are counted by halving.
func TestBucketByWords(t *testing.T) {
	for v := int64(-3000); v < 70000; v++ {
		if got := Bucket(v); got != bitsByWords(v) {
			t.Fatalf("Bucket(%d) = %d, want %d", v, got, bitsByWords(v))
		}
	}
	rnd := rand.New(rand.NewSource(1))
	for _, v := range append(edges(), values(rnd, 20000)...) {
		if got := Bucket(v); got != bitsByWords(v) {
			t.Fatalf("Bucket(%d) = %d, want %d", v, got, bitsByWords(v))
		}
	}
}

// P18.1: the kinds, and how many buckets there may be, are api's.
func TestKinds(t *testing.T) {
	if api.Count != count || api.Gauge != gauge || api.Histo != histo || api.MaxBuckets <= widest {
		t.Error(api.Count, api.Gauge, api.Histo, api.MaxBuckets)
	}
}

// P18.1: the chapter's example, by Fold and one behind the other.
func TestExample(t *testing.T) {
	want := api.Row{Key: "a", Kind: histo, Many: 3, Sum: 4, Least: 0, Most: 3, Buckets: []uint64{1, 1, 1}}
	wantRow(t, "Fold", Fold("a", histo, []int64{0, 1, 3}), want)
	wantRow(t, "Add", Add(Add(Begin("a", histo, 0), 1), 3), want)
}

// P18.1: Begin, by hand, of each kind.
func TestBegin(t *testing.T) {
	rows := []struct {
		v       int64
		buckets []uint64
	}{
		{0, one(0)}, {-1, one(0)}, {-7, one(0)}, {least, one(0)}, {1, one(1)}, {2, one(2)}, {3, one(2)}, {4, one(3)},
		{5, one(3)}, {1<<62 - 1, one(62)}, {1 << 62, one(63)}, {most, one(63)},
	}
	for _, row := range rows {
		for _, kind := range kinds() {
			want := api.Row{Key: "cpu", Kind: kind, Many: 1, Sum: row.v, Least: row.v, Most: row.v}
			if kind == histo {
				want.Buckets = row.buckets
			}
			wantRow(t, fmt.Sprintf("Begin(cpu, %d, %d)", kind, row.v), Begin("cpu", kind, row.v), want)
		}
	}
}

// P18.1, P1: Begin of any key.
func TestBeginOfAnyKey(t *testing.T) {
	for _, key := range keys() {
		for _, kind := range kinds() {
			want := api.Row{Key: key, Kind: kind, Many: 1, Sum: 6, Least: 6, Most: 6}
			if kind == histo {
				want.Buckets = []uint64{0, 0, 0, 1}
			}
			wantRow(t, fmt.Sprintf("Begin(%.20q, %d, 6)", key, kind), Begin(key, kind, 6), want)
		}
	}
}

// P18.1, P1: Begin of a kind that is none of the three: a row of that number, without buckets.
func TestBeginOfNoKind(t *testing.T) {
	for _, kind := range noKinds() {
		for _, v := range []int64{least, -1, 0, 1, 4, most} {
			want := api.Row{Key: "a", Kind: kind, Many: 1, Sum: v, Least: v, Most: v}
			wantRow(t, fmt.Sprintf("Begin(a, %d, %d)", kind, v), Begin("a", kind, v), want)
		}
	}
}

// P18.1: Begin, held against the chapter's words.
func TestBeginByWords(t *testing.T) {
	for _, v := range append(edges(), values(rand.New(rand.NewSource(2)), 2000)...) {
		for _, kind := range append(kinds(), 0, 4) {
			wantRow(t, fmt.Sprintf("Begin(a, %d, %d)", kind, v), Begin("a", kind, v), byWords("a", kind, []int64{v}))
		}
	}
}

// P18.1: a row of each kind, by hand, value by value.
func TestAddByHand(t *testing.T) {
	type step struct {
		v           int64
		sum, last   int64 // of Count and Histo; of Gauge
		least, most int64
		buckets     []uint64 // of Histo
	}
	steps := []step{
		{5, 5, 5, 5, 5, []uint64{0, 0, 0, 1}},
		{-2, 3, -2, -2, 5, []uint64{1, 0, 0, 1}},
		{6, 9, 6, -2, 6, []uint64{1, 0, 0, 2}},
		{0, 9, 0, -2, 6, []uint64{2, 0, 0, 2}},
		{40, 49, 40, -2, 40, []uint64{2, 0, 0, 2, 0, 0, 1}},
		{2, 51, 2, -2, 40, []uint64{2, 0, 1, 2, 0, 0, 1}},
		{40, 91, 40, -2, 40, []uint64{2, 0, 1, 2, 0, 0, 2}},
		{-2, 89, -2, -2, 40, []uint64{3, 0, 1, 2, 0, 0, 2}},
		{-3, 86, -3, -3, 40, []uint64{4, 0, 1, 2, 0, 0, 2}},
	}
	for _, kind := range kinds() {
		r := Begin("k", kind, steps[0].v)
		for i, s := range steps {
			if i > 0 {
				r = Add(r, s.v)
			}
			want := api.Row{Key: "k", Kind: kind, Many: uint64(i + 1), Sum: s.sum, Least: s.least, Most: s.most}
			if kind == gauge {
				want.Sum = s.last
			}
			if kind == histo {
				want.Buckets = s.buckets
			}
			wantRow(t, fmt.Sprintf("step %d", i), r, want)
		}
	}
}

// with is a row of a kind; its buckets are what a Histo's of 5 are.
func with(kind int, turn func(r *api.Row)) api.Row {
	r := api.Row{Key: "a,b=c", Kind: kind, Many: 1, Sum: 5, Least: 5, Most: 5}
	if kind == histo {
		r.Buckets = []uint64{0, 0, 0, 1}
	}
	turn(&r)
	return r
}

// P18.1: one more of Many, and at 2^64 - 1 no more; nothing else hangs on it.
func TestMany(t *testing.T) {
	rows := []struct{ many, want uint64 }{
		{0, 1}, {1, 2}, {2, 3}, {1<<32 - 1, 1 << 32}, {1<<63 - 1, 1 << 63}, {1 << 63, 1<<63 + 1}, {top - 2, top - 1},
		{top - 1, top}, {top, top},
	}
	for _, row := range rows {
		for _, kind := range append(kinds(), 0, 4) {
			r := with(kind, func(r *api.Row) { r.Many = row.many })
			want := addByWords(with(kind, func(r *api.Row) {}), 2)
			want.Many = row.want
			wantAdd(t, r, 2, want)
		}
	}
}

// P18.1: at the top Many stays, however many come.
func TestManyStaysAtTheTop(t *testing.T) {
	for _, kind := range kinds() {
		r := with(kind, func(r *api.Row) { r.Many = top - 2 })
		for _, want := range []uint64{top - 1, top, top, top} {
			r = Add(r, 1)
			if r.Many != want || r.Over {
				t.Errorf("kind %d: Many is %d, Over %t, want %d", kind, r.Many, r.Over, want)
			}
		}
	}
}

// P18.1: of a Gauge Sum is the value, also where the sum of both would be beyond, and Over is as it was.
func TestSumOfGauge(t *testing.T) {
	rows := []struct{ sum, v int64 }{
		{5, 9}, {5, -9}, {5, 0}, {0, 5}, {most, 1}, {most, most}, {1, most}, {least, -1}, {least, least}, {-1, least},
		{most, least}, {least, most},
	}
	for _, row := range rows {
		for _, over := range []bool{false, true} {
			r := with(gauge, func(r *api.Row) { r.Sum, r.Over = row.sum, over })
			got := Add(r, row.v)
			if got.Sum != row.v || got.Over != over {
				t.Errorf("Add(%s, %d) = %s", text(r), row.v, text(got))
			}
		}
	}
}

// P18.1: of the others Sum is the sum of both, or the nearer end and Over where it is beyond.
func TestSum(t *testing.T) {
	rows := []struct {
		sum, v, want int64
		beyond       bool
	}{
		{5, 9, 14, false},
		{5, -9, -4, false},
		{0, 0, 0, false},
		{most, 0, most, false},
		{most - 1, 1, most, false},
		{1, most - 1, most, false},
		{most, 1, most, true},
		{most - 1, 2, most, true},
		{2, most - 1, most, true},
		{most, most, most, true},
		{1 << 62, 1<<62 - 1, most, false},
		{1 << 62, 1 << 62, most, true},
		{least, 0, least, false},
		{least + 1, -1, least, false},
		{-1, least + 1, least, false},
		{least, -1, least, true},
		{least + 1, -2, least, true},
		{-1, least, least, true},
		{least, least, least, true},
		{-1 << 62, -1 << 62, least, false},
		{-1<<62 - 1, -1 << 62, least, true},
		{most, least, -1, false},
		{least, most, -1, false},
		{-1 << 62, 1 << 62, 0, false},
	}
	for _, row := range rows {
		for _, kind := range append([]int{count, histo}, noKinds()...) {
			for _, over := range []bool{false, true} {
				r := with(kind, func(r *api.Row) { r.Sum, r.Over = row.sum, over })
				got := Add(r, row.v)
				if got.Sum != row.want || got.Over != (over || row.beyond) {
					t.Errorf("Add(%s, %d) = %s, want %d, %t", text(r), row.v, text(got), row.want, row.beyond)
				}
			}
		}
	}
}

// P18.1: Over is true from then on, also behind values that bring the sum back; the sum goes on from the end.
func TestOverStays(t *testing.T) {
	rows := []struct {
		l    []int64
		sums []int64
		from int // the first one that is beyond
	}{
		{[]int64{most, 1, -5, -10, least, 3}, []int64{most, most, most - 5, most - 15, -16, -13}, 1},
		{[]int64{least, -1, 5, 10, most, -3}, []int64{least, least, least + 5, least + 15, 14, 11}, 1},
		{[]int64{1, most - 1, -1, 1, 1, least}, []int64{1, most, most - 1, most, most, -1}, 4},
		{[]int64{-2, least + 2, 1, -1, -7, most}, []int64{-2, least, least + 1, least, least, -1}, 4},
		{[]int64{5, 5, -10, most, least, 1}, []int64{5, 10, 0, most, -1, 0}, 6},
	}
	for _, row := range rows {
		for _, kind := range []int{count, histo, 0, 4} {
			r := Begin("a", kind, row.l[0])
			for i, v := range row.l {
				if i > 0 {
					r = Add(r, v)
				}
				folded := Fold("a", kind, row.l[:i+1])
				if r.Sum != row.sums[i] || r.Over != (i >= row.from) || folded.Sum != r.Sum || folded.Over != r.Over {
					t.Errorf("of %d, up to %d: %s, %s", row.l, i, text(r), text(folded))
				}
			}
		}
		r := Fold("a", gauge, row.l)
		if r.Sum != row.l[len(row.l)-1] || r.Over {
			t.Errorf("of %d: %s", row.l, text(r))
		}
	}
}

// P18.1: the lesser and the greater of both.
func TestLeastAndMost(t *testing.T) {
	rows := []struct{ least, most, v, wantLeast, wantMost int64 }{
		{3, 9, 1, 1, 9},
		{3, 9, 2, 2, 9},
		{3, 9, 3, 3, 9},
		{3, 9, 4, 3, 9},
		{3, 9, 8, 3, 9},
		{3, 9, 9, 3, 9},
		{3, 9, 10, 3, 10},
		{3, 9, -3, -3, 9},
		{3, 9, 0, 0, 9},
		{3, 9, least, least, 9},
		{3, 9, most, 3, most},
		{-9, -3, 0, -9, 0},
		{-9, -3, -10, -10, -3},
		{-9, -3, -2, -9, -2},
		{-9, -3, -5, -9, -3},
		{5, 5, 4, 4, 5},
		{5, 5, 5, 5, 5},
		{5, 5, 6, 5, 6},
		{least, most, 0, least, most},
		{least, most, least, least, most},
		{least, most, most, least, most},
		{least, least, most, least, most},
		{most, most, least, least, most},
		// A row that no values come to: each one is asked apart.
		{9, 3, 6, 6, 6},
		{9, 3, 10, 9, 10},
		{9, 3, 2, 2, 3},
	}
	for _, row := range rows {
		for _, kind := range append(kinds(), noKinds()...) {
			r := with(kind, func(r *api.Row) { r.Least, r.Most = row.least, row.most })
			got := Add(r, row.v)
			if got.Least != row.wantLeast || got.Most != row.wantMost {
				t.Errorf("Add(%s, %d) = %s, want %d to %d", text(r), row.v, text(got), row.wantLeast, row.wantMost)
			}
		}
	}
}

// P18.1: of a Histo one more of the value's bucket, and of no other; those between the last one and it have 0; a row with
// more than its values ask for keeps as many.
func TestBuckets(t *testing.T) {
	rows := []struct {
		had  []uint64
		v    int64
		want []uint64
	}{
		{[]uint64{7, 8, 9}, 0, []uint64{8, 8, 9}},
		{[]uint64{7, 8, 9}, -4, []uint64{8, 8, 9}},
		{[]uint64{7, 8, 9}, least, []uint64{8, 8, 9}},
		{[]uint64{7, 8, 9}, 1, []uint64{7, 9, 9}},
		{[]uint64{7, 8, 9}, 2, []uint64{7, 8, 10}},
		{[]uint64{7, 8, 9}, 3, []uint64{7, 8, 10}},
		{[]uint64{7, 8, 9}, 4, []uint64{7, 8, 9, 1}},
		{[]uint64{7, 8, 9}, 7, []uint64{7, 8, 9, 1}},
		{[]uint64{7, 8, 9}, 8, []uint64{7, 8, 9, 0, 1}},
		{[]uint64{7, 8, 9}, 100, []uint64{7, 8, 9, 0, 0, 0, 0, 1}},
		{[]uint64{1}, 0, []uint64{2}},
		{[]uint64{1}, 1, []uint64{1, 1}},
		{[]uint64{0, 1, 0, 0, 0}, 1, []uint64{0, 2, 0, 0, 0}},
		{[]uint64{0, 1, 0, 0, 0}, 0, []uint64{1, 1, 0, 0, 0}},
		{[]uint64{0, 1, 0, 0, 0}, 4, []uint64{0, 1, 0, 1, 0}},
		{[]uint64{0, 1, 0, 0, 0}, 8, []uint64{0, 1, 0, 0, 1}},
		{[]uint64{0, 1, 0, 0, 0}, 16, []uint64{0, 1, 0, 0, 0, 1}},
		{nil, 0, []uint64{1}},
		{[]uint64{}, -1, []uint64{1}},
		{nil, 5, []uint64{0, 0, 0, 1}},
		{[]uint64{}, most, one(63)},
		{one(63), most, append(make([]uint64, 63), 2)},
		{one(63), 1 << 61, append(make([]uint64, 62), 1, 1)},
		{one(64), most, append(make([]uint64, 63), 1, 1)},
		{one(99), 1, append([]uint64{0, 1}, one(97)...)},
	}
	for _, row := range rows {
		r := with(histo, func(r *api.Row) { r.Buckets = row.had })
		want := addByWords(with(histo, func(r *api.Row) {}), row.v)
		want.Buckets = row.want
		wantAdd(t, r, row.v, want)
	}
}

// P18.1: a bucket at 2^64 - 1 stays there, and no other one goes on by it; Many does.
func TestBucketsAtTheTop(t *testing.T) {
	for at := range widest + 1 {
		v := int64(0)
		if at > 0 {
			v = 1 << (at - 1)
		}
		r := with(histo, func(r *api.Row) { r.Buckets = make([]uint64, widest+1) })
		r.Buckets[at] = top - 2
		for i, many := range []uint64{top - 1, top, top, top} {
			r = Add(r, v)
			want := make([]uint64, widest+1)
			want[at] = many
			if !slices.Equal(r.Buckets, want) || r.Many != uint64(i+2) {
				t.Errorf("bucket %d: %s", at, text(r))
			}
		}
	}
	full := with(histo, func(r *api.Row) { r.Buckets = []uint64{top, top, top} })
	for _, v := range []int64{-1, 0, 1, 2, 3} {
		if got := Add(full, v); !slices.Equal(got.Buckets, []uint64{top, top, top}) {
			t.Errorf("Add(%s, %d) = %s", text(full), v, text(got))
		}
	}
	if got := Add(full, 4); !slices.Equal(got.Buckets, []uint64{top, top, top, 1}) {
		t.Errorf("Add(%s, 4) = %s", text(full), text(got))
	}
}

// P18.1: of a row that isn't of a Histo the buckets stay, whatever they are.
func TestBucketsOfOtherKinds(t *testing.T) {
	for _, kind := range append([]int{count, gauge}, noKinds()...) {
		for _, had := range [][]uint64{nil, {}, {0}, {1, 2, 3}, {0, 0}, {top, top}, one(80)} {
			for _, v := range []int64{least, -1, 0, 1, 2, 100, most} {
				got := Add(with(kind, func(r *api.Row) { r.Buckets = had }), v)
				if !slices.Equal(got.Buckets, had) {
					t.Errorf("kind %d, %d behind %d: %d", kind, v, had, got.Buckets)
				}
			}
		}
	}
}

// P18.1: a zero row, to which a value comes, is of no kind.
func TestAddToZeroRow(t *testing.T) {
	wantAdd(t, api.Row{}, 5, api.Row{Many: 1, Sum: 5, Most: 5})
	wantAdd(t, api.Row{}, -5, api.Row{Many: 1, Sum: -5, Least: -5})
	wantAdd(t, api.Row{}, 0, api.Row{Many: 1})
}

// P18.1: the key and the kind stay as they are.
func TestKeyAndKindStay(t *testing.T) {
	for _, key := range keys() {
		for _, kind := range append(kinds(), noKinds()...) {
			r := with(kind, func(r *api.Row) { r.Key = key })
			if got := Add(r, 3); got.Key != key || got.Kind != kind {
				t.Errorf("Add(%s, 3) = %s", text(r), text(got))
			}
			got, folded := Begin(key, kind, 3), Fold(key, kind, []int64{3, 4})
			if got.Key != key || got.Kind != kind || folded.Key != key || folded.Kind != kind {
				t.Errorf("of %.20q and %d: %s, %s", key, kind, text(got), text(folded))
			}
		}
	}
}

// P18.1: Fold of no values is a zero row, with no key and no kind.
func TestFoldOfNone(t *testing.T) {
	for _, kind := range append(kinds(), noKinds()...) {
		for _, key := range keys() {
			for _, l := range [][]int64{nil, {}, make([]int64, 0, 5)} {
				wantRow(t, fmt.Sprintf("Fold(%.20q, %d, none)", key, kind), Fold(key, kind, l), api.Row{})
			}
		}
	}
}

// P18.1: Fold of one value is the row that begins with it.
func TestFoldOfOne(t *testing.T) {
	for _, v := range edges() {
		for _, kind := range append(kinds(), 0, 4) {
			got := Fold("a", kind, []int64{v})
			wantRow(t, fmt.Sprintf("Fold(a, %d, %d)", kind, v), got, Begin("a", kind, v))
			wantRow(t, fmt.Sprintf("Fold(a, %d, %d)", kind, v), got, byWords("a", kind, []int64{v}))
		}
	}
}

// P18.1: Fold, by hand.
func TestFold(t *testing.T) {
	rows := []struct {
		kind int
		l    []int64
		want api.Row
	}{
		{count, []int64{5, most, -2}, api.Row{Many: 3, Sum: most - 2, Least: -2, Most: most, Over: true}},
		{count, []int64{5, -2, most - 3}, api.Row{Many: 3, Sum: most, Least: -2, Most: most - 3}},
		{count, []int64{0, 0}, api.Row{Many: 2}},
		{count, []int64{least, 1, -2}, api.Row{Many: 3, Sum: least, Least: least, Most: 1, Over: true}},
		{gauge, []int64{5, 9, 2}, api.Row{Many: 3, Sum: 2, Least: 2, Most: 9}},
		{gauge, []int64{most, most, -1}, api.Row{Many: 3, Sum: -1, Least: -1, Most: most}},
		{gauge, []int64{least, 0, least}, api.Row{Many: 3, Sum: least, Least: least}},
		{histo, []int64{4, -1}, api.Row{Many: 2, Sum: 3, Least: -1, Most: 4, Buckets: []uint64{1, 0, 0, 1}}},
		{histo, []int64{-1, 4}, api.Row{Many: 2, Sum: 3, Least: -1, Most: 4, Buckets: []uint64{1, 0, 0, 1}}},
		{histo, []int64{2, 3, 2, 1}, api.Row{Many: 4, Sum: 8, Least: 1, Most: 3, Buckets: []uint64{0, 1, 3}}},
		{histo, []int64{-3, -4}, api.Row{Many: 2, Sum: -7, Least: -4, Most: -3, Buckets: []uint64{2}}},
		{histo, []int64{most, most}, api.Row{Many: 2, Sum: most, Least: most, Most: most, Over: true,
			Buckets: append(make([]uint64, 63), 2)}},
		{0, []int64{1, 2, 4}, api.Row{Many: 3, Sum: 7, Least: 1, Most: 4}},
		{4, []int64{most, 1, -1}, api.Row{Many: 3, Sum: most - 1, Least: -1, Most: most, Over: true}},
	}
	for _, row := range rows {
		row.want.Key, row.want.Kind = "mem,a=1", row.kind
		wantRow(t, fmt.Sprintf("Fold of %d, kind %d", row.l, row.kind), Fold("mem,a=1", row.kind, row.l), row.want)
	}
}

// P18.1: all rows of up to five of a few values, by Fold, one behind the other, and by the chapter's words.
func TestAllShortRows(t *testing.T) {
	few := []int64{least, -1, 0, 2, 3, most}
	for _, kind := range append(kinds(), 0) {
		for many := 1; many <= 5; many++ {
			for n := range int(math.Pow(float64(len(few)), float64(many))) {
				l := make([]int64, many)
				for i := range l {
					l[i] = few[n%len(few)]
					n /= len(few)
				}
				wantFold(t, "a", kind, l)
			}
		}
	}
}

// wantFold holds Fold against Begin and Add, and both against the chapter's words.
func wantFold(t *testing.T, key string, kind int, l []int64) {
	t.Helper()
	r := Begin(key, kind, l[0])
	for _, v := range l[1:] {
		r = Add(r, v)
	}
	want := byWords(key, kind, l)
	if folded := Fold(key, kind, l); !same(folded, want) || !same(r, want) {
		t.Fatalf("of %d: Fold %s, Begin and Add %s, want %s", l, text(folded), text(r), text(want))
	}
}

// P18.1: values at random, of each kind, by Fold, one behind the other, and by the chapter's words.
func TestFoldAtRandom(t *testing.T) {
	rnd := rand.New(rand.NewSource(3))
	for n := range 4000 {
		key, kind := keys()[rnd.Intn(len(keys()))], []int{count, gauge, histo, 0, 4, -1}[n%6]
		wantFold(t, key, kind, values(rnd, 1+rnd.Intn(40)))
	}
}

// P18.1: Fold of very many.
func TestFoldOfMany(t *testing.T) {
	l := make([]int64, 1_000_000)
	want := api.Row{Key: "a", Kind: histo, Many: 1_000_000, Least: -1, Most: 1022, Buckets: make([]uint64, 11)}
	for i := range l {
		l[i] = int64(i%1024) - 1
		want.Sum += l[i]
		want.Buckets[bitsByWords(l[i])]++
	}
	wantRow(t, "Fold of many", Fold("a", histo, l), want)
	want.Kind, want.Buckets = count, nil
	wantRow(t, "Fold of many", Fold("a", count, l), want)
	want.Kind, want.Sum = gauge, l[len(l)-1]
	wantRow(t, "Fold of many", Fold("a", gauge, l), want)
}

// anyRow is one of any kind, of which no values need come to what it tells; its buckets have room behind them mostly.
func anyRow(rnd *rand.Rand) api.Row {
	some := []uint64{0, 1, 2, 1 << 63, top - 1, top}
	r := api.Row{Key: keys()[rnd.Intn(len(keys()))], Kind: rnd.Intn(6) - 1, Many: some[rnd.Intn(len(some))],
		Sum: anyValue(rnd), Least: anyValue(rnd), Most: anyValue(rnd), Over: rnd.Intn(3) == 0}
	if rnd.Intn(2) == 0 {
		r.Kind = histo
	}
	r.Buckets = make([]uint64, rnd.Intn(70), 70+rnd.Intn(10))
	all := r.Buckets[:cap(r.Buckets)]
	for i := range all {
		all[i] = some[rnd.Intn(len(some))]
	}
	return r
}

// P18.1, P18.2, P1: Add of any row and any value, by the chapter's words; the row is behind it as it was.
func TestAddOfAnyRow(t *testing.T) {
	rnd := rand.New(rand.NewSource(4))
	for range 20000 {
		r, v := anyRow(rnd), anyValue(rnd)
		was, all := r, slices.Clone(r.Buckets[:cap(r.Buckets)])
		want := addByWords(r, v)
		got := Add(r, v)
		if !same(got, want) {
			t.Fatalf("Add(%s, %d) = %s, want %s", text(r), v, text(got), text(want))
		}
		scribble(got.Buckets)
		if !same(r, was) || !slices.Equal(r.Buckets[:cap(r.Buckets)], all) {
			t.Fatalf("Add(%s, %d) turned it to %s", text(was), v, text(r))
		}
	}
}

// scribble writes over all the memory of a list, that behind its length too.
func scribble(l []uint64) {
	l = l[:cap(l)]
	for i := range l {
		l[i] = 0xabcdef
	}
}

// roomy are buckets with room for more behind them, of which each has a number of its own.
func roomy(many, room int) []uint64 {
	l := make([]uint64, many+room)
	for i := range l {
		l[i] = uint64(100 + i)
	}
	return l[:many]
}

// P18.2: a row that is handed to Add reads behind the call as ahead of it, with all buckets, also those that lie behind
// their length; scribbling over what was told doesn't turn it.
func TestAddLeavesTheRow(t *testing.T) {
	for _, kind := range append(kinds(), 0, 4) {
		for _, many := range []int{0, 1, 2, 3, 4, 5, 63, 64, 65} {
			for _, room := range []int{0, 1, 2, 64, 100} {
				for _, v := range []int64{least, -1, 0, 1, 2, 4, 8, 1 << 40, most} {
					r := with(kind, func(r *api.Row) { r.Buckets = roomy(many, room) })
					got := Add(r, v)
					scribble(got.Buckets)
					want := with(kind, func(r *api.Row) { r.Buckets = roomy(many, room) })
					wantRow(t, fmt.Sprintf("the row, behind Add of %d", v), r, want)
					if !slices.Equal(r.Buckets[:many+room], roomy(many, room)[:many+room]) {
						t.Errorf("kind %d, %d and %d: Add of %d turned what lies behind: %d", kind, many, room, v,
							r.Buckets[:many+room])
					}
				}
			}
		}
	}
}

// P18.2: turning the row that was handed in doesn't turn what was told.
func TestRowTurnsNothingTold(t *testing.T) {
	for _, kind := range append(kinds(), 0, 4) {
		for _, many := range []int{0, 1, 4, 64} {
			for _, v := range []int64{-1, 1, 7, 8, most} {
				r := with(kind, func(r *api.Row) { r.Buckets = roomy(many, 70) })
				want := addByWords(r, v)
				got := Add(r, v)
				scribble(r.Buckets)
				wantRow(t, fmt.Sprintf("what was told of %d", v), got, want)
			}
		}
	}
}

// P18.2: what two calls tell doesn't share memory, whether they are asked the same or not.
func TestTwoCallsApart(t *testing.T) {
	r := with(histo, func(r *api.Row) { r.Buckets = roomy(4, 70) })
	l := []int64{4, 0, 4}
	calls := []func() api.Row{
		func() api.Row { return Begin("a", histo, 7) },
		func() api.Row { return Begin("a", histo, 0) },
		func() api.Row { return Begin("a", count, 7) },
		func() api.Row { return Add(r, 1) },
		func() api.Row { return Add(r, most) },
		func() api.Row { return Add(with(gauge, func(g *api.Row) { g.Buckets = r.Buckets }), 1) },
		func() api.Row { return Fold("a", histo, l) },
		func() api.Row { return Fold("a", histo, l[:1]) },
		func() api.Row { return Fold("a", histo, []int64{most, 0}) },
		func() api.Row { return Fold("a", histo, nil) },
	}
	for i, first := range calls {
		for j, second := range calls {
			a, b := first(), second()
			was := b
			was.Buckets = slices.Clone(b.Buckets)
			scribble(a.Buckets)
			wantRow(t, fmt.Sprintf("what call %d told, behind turning what call %d told", j, i), b, was)
			wantRow(t, fmt.Sprintf("call %d, asked again", j), second(), was)
		}
	}
}

// P18.2: rows that go on from one row don't touch each other: each is as if the other weren't.
func TestTwoFromOneRow(t *testing.T) {
	rnd := rand.New(rand.NewSource(5))
	for n := range 500 {
		kind := kinds()[n%3]
		l := values(rnd, 1+rnd.Intn(6))
		r := Fold("a", kind, l)
		a, b := slices.Clone(l), slices.Clone(l)
		rowA, rowB := r, r
		for range 12 {
			v := anyValue(rnd)
			if rnd.Intn(2) == 0 {
				rowA, a = Add(rowA, v), append(a, v)
			} else {
				rowB, b = Add(rowB, v), append(b, v)
			}
			wantRow(t, "the one", rowA, byWords("a", kind, a))
			wantRow(t, "the other", rowB, byWords("a", kind, b))
			wantRow(t, "what both went on from", r, byWords("a", kind, l))
		}
	}
}

// P18.2: a list handed to Fold reads as ahead of it, also behind its length; turning it doesn't turn what was told.
func TestFoldLeavesTheList(t *testing.T) {
	rnd := rand.New(rand.NewSource(6))
	for n := range 600 {
		all := values(rnd, 1+rnd.Intn(30))
		l := all[:rnd.Intn(len(all)+1)]
		was := slices.Clone(all)
		kind := []int{count, gauge, histo, 0}[n%4]
		want := byWords("a", kind, l)
		got := Fold("a", kind, l)
		if !slices.Equal(all, was) {
			t.Fatalf("Fold turned %d to %d", was, all)
		}
		clear(all)
		wantRow(t, fmt.Sprintf("Fold of %d, behind turning the list", was[:len(l)]), got, want)
	}
}

// P18.2: a key that is told is new memory: it stays where the bytes of the one that was handed in are written over.
func TestKeyIsNewMemory(t *testing.T) {
	for _, kind := range append(kinds(), 0) {
		bytes := []byte("cpu,host=a")
		key := unsafe.String(&bytes[0], len(bytes))
		rows := []api.Row{Begin(key, kind, 1), Add(api.Row{Key: key, Kind: kind}, 1), Fold(key, kind, []int64{1}),
			Fold(key, kind, []int64{1, 2})}
		copy(bytes, "**********")
		for i, r := range rows {
			if r.Key != "cpu,host=a" {
				t.Errorf("kind %d, call %d: the key is %q", kind, i, r.Key)
			}
		}
	}
}

// P18.2: nothing is kept: what a call tells hangs on nothing that came ahead of it.
func TestNothingIsKept(t *testing.T) {
	rnd := rand.New(rand.NewSource(7))
	l := []int64{3, most, -1, 1 << 40}
	for range 300 {
		Begin("other", 1+rnd.Intn(3), anyValue(rnd))
		Add(anyRow(rnd), anyValue(rnd))
		Fold("other", 1+rnd.Intn(3), values(rnd, rnd.Intn(9)))
		for _, kind := range kinds() {
			wantFold(t, "a", kind, l)
		}
	}
}

// P18.3: of values of each kind at random, at each step: Many is how many came, and of a Histo what all buckets have
// together; Least is no greater than Most, and each value lies between both; the last bucket has some.
func TestWhatFollows(t *testing.T) {
	rnd := rand.New(rand.NewSource(8))
	for n := range 300 {
		kind := kinds()[n%3]
		l := values(rnd, 1+rnd.Intn(100))
		r := Begin("a", kind, l[0])
		for i := range l {
			if i > 0 {
				r = Add(r, l[i])
			}
			wantBalance(t, r, l[:i+1])
			wantRow(t, "at a step", r, byWords("a", kind, l[:i+1]))
		}
		wantBalance(t, Fold("a", kind, l), l)
	}
}

// wantBalance holds a row against the values that came to it.
func wantBalance(t *testing.T, r api.Row, l []int64) {
	t.Helper()
	if r.Many != uint64(len(l)) || r.Least > r.Most {
		t.Fatalf("of %d: %s", l, text(r))
	}
	for _, v := range l {
		if v < r.Least || v > r.Most {
			t.Fatalf("%d isn't between both: %s", v, text(r))
		}
	}
	if r.Kind != histo {
		if len(r.Buckets) > 0 {
			t.Fatalf("there are buckets: %s", text(r))
		}
		return
	}
	all := uint64(0)
	for _, n := range r.Buckets {
		all += n
	}
	if all != r.Many || len(r.Buckets) > widest+1 || r.Buckets[len(r.Buckets)-1] == 0 {
		t.Fatalf("the buckets have %d: %s", all, text(r))
	}
}
