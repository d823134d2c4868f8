package batch

import (
	"bytes"
	"encoding/binary"
	"math"
	"math/rand"
	"reflect"
	"slices"
	"strconv"
	"strings"
	"testing"
	"unsafe"

	"noggin/api"
	"noggin/series"
)

const (
	word16 = "abcdefghij_z.019"
	// longest is a key of as many bytes as there may be.
	longest = word16 +
		",aaaaaaaaaaaaaaa0=" + word16 + ",aaaaaaaaaaaaaaa1=" + word16 + ",aaaaaaaaaaaaaaa2=" + word16 +
		",aaaaaaaaaaaaaaa3=" + word16 + ",aaaaaaaaaaaaaaa4=" + word16 + ",aaaaaaaaaaaaaaa5=" + word16
	ffs8 = "\xff\xff\xff\xff\xff\xff\xff\xff"
	// beyond64 are the bytes of 2^64.
	beyond64 = "\x80\x80\x80\x80\x80\x80\x80\x80\x80\x02"
)

func countOf(key string) api.Row { return api.Row{Key: key, Kind: api.Count, Many: 1} }

func gaugeOf(key string) api.Row { return api.Row{Key: key, Kind: api.Gauge, Many: 1} }

func histoOf(key string, buckets ...uint64) api.Row {
	return api.Row{Key: key, Kind: api.Histo, Many: 1, Buckets: buckets}
}

func batchOf(rows ...api.Row) api.Batch { return api.Batch{Seq: 1, Start: 2, Rows: rows} }

// turned is a row with something else.
func turned(r api.Row, turn func(r *api.Row)) api.Row {
	turn(&r)
	return r
}

func spanned(sum, least, most int64) api.Row {
	return turned(gaugeOf("a"), func(r *api.Row) { r.Sum, r.Least, r.Most = sum, least, most })
}

// keysOf are so many keys, rising.
func keysOf(n int) []string {
	var l []string
	for i := range n {
		l = append(l, "k"+strconv.Itoa(100000+i))
	}
	return l
}

func countsOf(n int) []api.Row {
	var l []api.Row
	for _, key := range keysOf(n) {
		l = append(l, countOf(key))
	}
	return l
}

// bucketsOf are so many, all 0 but the last one.
func bucketsOf(n int, last uint64) []uint64 {
	l := make([]uint64, n)
	l[n-1] = last
	return l
}

// full is a batch of as many rows as may be, each of which has as much as may be.
func full() api.Batch {
	b := api.Batch{Seq: math.MaxInt32, Start: api.MaxTime}
	for i := range api.MaxRows {
		r := api.Row{Kind: api.Histo, Many: math.MaxUint64, Sum: math.MinInt64, Least: math.MinInt64, Most: math.MaxInt64, Over: true}
		r.Key = strings.Replace(longest, word16, strconv.Itoa(1000+i)+word16[4:], 1)
		for range api.MaxBuckets {
			r.Buckets = append(r.Buckets, math.MaxUint64)
		}
		b.Rows = append(b.Rows, r)
	}
	return b
}

// written is a batch, and its bytes.
type written struct {
	batch api.Batch
	bytes string
}

// plain are batches whose bytes are written out.
func plain() []written {
	two := api.Batch{Seq: 3, Start: 20, Rows: []api.Row{
		{Key: "a", Kind: api.Count, Many: 2, Sum: 5, Least: 2, Most: 3},
		{Key: "a", Kind: api.Histo, Many: 1, Sum: 1, Least: 1, Most: 1, Buckets: []uint64{0, 1}},
	}}
	return []written{
		{api.Batch{Seq: 1, Start: 2}, "\x01\x02\x00"},
		{api.Batch{Seq: 1, Start: 2, Rows: []api.Row{}}, "\x01\x02\x00"},
		{api.Batch{}, "\x00\x00\x00"},
		{api.Batch{Seq: math.MaxInt32, Start: api.MaxTime}, "\xff\xff\xff\xff\x07" + "\x80\x80\x80\x80\x80\x20" + "\x00"},
		{api.Batch{Seq: 128, Start: 300}, "\x80\x01\xac\x02\x00"},
		{two, "\x03\x14\x02" + "\x01a\x01\x02\x0a\x04\x06\x00\x00" + "\x01a\x03\x01\x02\x02\x02\x00\x02\x00\x01"},
		{batchOf(countOf("a")), "\x01\x02\x01" + "\x01a\x01\x01\x00\x00\x00\x00\x00"},
		{batchOf(gaugeOf("a")), "\x01\x02\x01" + "\x01a\x02\x01\x00\x00\x00\x00\x00"},
		{batchOf(histoOf("a", 1)), "\x01\x02\x01" + "\x01a\x03\x01\x00\x00\x00\x00\x01\x01"},
		{batchOf(histoOf("cpu,a=2,b=1", 7, 0, 300)), "\x01\x02\x01" + "\x0bcpu,a=2,b=1\x03\x01\x00\x00\x00\x00\x03\x07\x00\xac\x02"},
		{
			batchOf(api.Row{Key: "a", Kind: api.Gauge, Many: 200, Sum: -1, Least: -2, Most: 64, Over: true}),
			"\x01\x02\x01" + "\x01a\x02\xc8\x01\x01\x03\x80\x01\x01\x00",
		},
		{
			batchOf(api.Row{Key: "a", Kind: api.Count, Many: math.MaxUint64, Sum: math.MaxInt64, Least: math.MinInt64, Most: math.MaxInt64, Over: true}),
			"\x01\x02\x01" + "\x01a\x01" + ffs8 + "\xff\x01" + "\xfe" + ffs8 + "\x01" + ffs8 + "\xff\x01" + "\xfe" + ffs8 + "\x01" + "\x01\x00",
		},
	}
}

// good are batches that may be, the edges among them.
func good() []api.Batch {
	var l []api.Batch
	for _, x := range plain() {
		l = append(l, x.batch)
	}
	for _, seq := range []int{0, 1, 127, 128, math.MaxInt32 - 1, math.MaxInt32} {
		for _, start := range []int64{0, 1, 127, 128, api.MaxTime - 1, api.MaxTime} {
			l = append(l, api.Batch{Seq: seq, Start: start}, api.Batch{Seq: seq, Start: start, Rows: []api.Row{countOf("cpu")}})
		}
	}
	return slices.Concat(l, goodRows(), goodOrders())
}

// goodRows are batches of one row.
func goodRows() []api.Batch {
	var l []api.Batch
	for _, key := range []string{"a", ".", "0", "_", word16, longest, "cpu,host=a", "m,a=6,a.=5,a0=4,a_=3,aa=2,b=1"} {
		l = append(l, batchOf(countOf(key)), batchOf(gaugeOf(key)), batchOf(histoOf(key, 1)))
	}
	for _, many := range []uint64{1, 2, 127, 128, math.MaxInt64, 1 << 63, math.MaxUint64 - 1, math.MaxUint64} {
		l = append(l, batchOf(turned(countOf("a"), func(r *api.Row) { r.Many = many })))
	}
	ends := []int64{math.MinInt64, math.MinInt64 + 1, -65, -64, -1, 0, 1, 63, 64, math.MaxInt64 - 1, math.MaxInt64}
	for i, least := range ends {
		for _, most := range ends[i:] {
			l = append(l, batchOf(spanned(0, least, most)))
		}
		l = append(l, batchOf(spanned(least, 0, 0)))
	}
	for n := 1; n <= api.MaxBuckets; n++ {
		l = append(l, batchOf(histoOf("a", bucketsOf(n, 1)...)), batchOf(histoOf("a", bucketsOf(n, math.MaxUint64)...)))
	}
	none := turned(countOf("a"), func(r *api.Row) { r.Buckets = []uint64{} })
	over := func(r *api.Row) { r.Over = true }
	return append(l, batchOf(none), batchOf(turned(none, func(r *api.Row) { r.Kind = api.Gauge })),
		batchOf(turned(countOf("a"), over)), batchOf(turned(gaugeOf("a"), over)), batchOf(turned(histoOf("a", 0, 1), over)),
		batchOf(histoOf("a", 0, 1)), batchOf(histoOf("a", 1, 1)), batchOf(histoOf("a", 1, 0, 0, 1)))
}

// goodOrders are batches of several rows.
func goodOrders() []api.Batch {
	l := []api.Batch{
		batchOf(countOf("a"), gaugeOf("a")), batchOf(countOf("a"), histoOf("a", 1)), batchOf(gaugeOf("a"), histoOf("a", 1)),
		batchOf(countOf("a"), gaugeOf("a"), histoOf("a", 1)), batchOf(countOf("a"), countOf("b")), batchOf(histoOf("a", 1), countOf("b")),
		batchOf(gaugeOf("a"), histoOf("a", 1), countOf("b"), histoOf("b", 0, 2), gaugeOf("c")),
		batchOf(countOf("a"), countOf("a,b=1"), countOf("a."), countOf("a0"), countOf("aa"), countOf("b")),
		batchOf(countOf("k10"), countOf("k9")), batchOf(countOf("a,b=1"), countOf("a,b=1,c=2"), countOf("a,b=2")),
		full(),
	}
	for _, n := range []int{2, 3, 127, 128, api.MaxRows - 1, api.MaxRows} {
		l = append(l, api.Batch{Seq: 5, Start: 6, Rows: countsOf(n)})
	}
	return l
}

// bad are batches that may not be.
func bad() []api.Batch {
	var l []api.Batch
	for _, seq := range []int{-1, math.MinInt, math.MaxInt32 + 1, math.MaxUint32, math.MaxUint32 + 1, math.MaxUint32 + 2, math.MaxInt} {
		l = append(l, api.Batch{Seq: seq, Start: 2}, api.Batch{Seq: seq, Start: 2, Rows: []api.Row{countOf("a")}})
	}
	for _, start := range []int64{-1, math.MinInt64, api.MaxTime + 1, 2 * api.MaxTime, math.MaxInt64} {
		l = append(l, api.Batch{Seq: 1, Start: start}, api.Batch{Seq: 1, Start: start, Rows: []api.Row{countOf("a")}})
	}
	for _, n := range []int{api.MaxRows + 1, api.MaxRows + 2, 2 * api.MaxRows, 5000} {
		l = append(l, api.Batch{Seq: 1, Start: 2, Rows: countsOf(n)})
	}
	for _, r := range badRows() {
		l = append(l, batchOf(r), batchOf(r, histoOf("z", 1)), batchOf(countOf("0"), r), batchOf(countOf("0"), r, histoOf("z", 1)))
		last := countsOf(api.MaxRows)
		last[api.MaxRows-1] = turned(r, func(r *api.Row) { r.Key = "z" + r.Key })
		// With the z ahead a Key may have become one.
		if !mayBe(batchOf(last[api.MaxRows-1])) {
			l = append(l, batchOf(last...))
		}
	}
	return append(l, badOrders()...)
}

// badRows are rows that may not be.
func badRows() []api.Row {
	var l []api.Row
	for _, key := range []string{
		"", " ", "A", "a ", " a", "a,", "a,b", "a,b=", "a,=1", ",a=1", "a,B=1", "a,b=1 ", "a,b=1,", "a c 0 0", "a,b=1 c 0 0", "a\n", "a\x00", "\xff", "é",
		"a,b=1,a=2", "a,b=1,b=1", "a,b=1,b=2", "a,a.=1,a=2", "cpu,b=1,a=2,c=3", word16 + "a", longest + "a", longest + ",b=1",
		"a,a=1,b=1,c=1,d=1,e=1,f=1,g=1", strings.Repeat("a", 300), strings.Repeat("a", 301), strings.Repeat(longest, 100),
	} {
		l = append(l, countOf(key), gaugeOf(key), histoOf(key, 1))
	}
	for _, kind := range []int{0, 4, 5, -1, -2, -3, 1 << 32, 1<<32 + 1, 1<<32 + 3, math.MinInt, math.MinInt + 1, math.MaxInt} {
		l = append(l, api.Row{Key: "a", Kind: kind, Many: 1}, api.Row{Key: "a", Kind: kind, Many: 1, Buckets: []uint64{1}})
	}
	for _, r := range []api.Row{countOf("a"), gaugeOf("a"), histoOf("a", 1)} {
		l = append(l, turned(r, func(r *api.Row) { r.Many = 0 }))
		for _, ends := range [][2]int64{{1, 0}, {0, -1}, {-1, -2}, {1, -1}, {4, 3}, {math.MaxInt64, math.MinInt64}, {math.MaxInt64, math.MaxInt64 - 1}, {math.MinInt64 + 1, math.MinInt64}} {
			l = append(l, turned(r, func(r *api.Row) { r.Least, r.Most = ends[0], ends[1] }))
		}
	}
	return append(l, badBuckets()...)
}

func badBuckets() []api.Row {
	l := []api.Row{histoOf("a"), histoOf("a", []uint64{}...), histoOf("a", 0), histoOf("a", 1, 0), histoOf("a", 1, 2, 0), histoOf("a", 0, 0), histoOf("a", 0, 1, 0)}
	for _, n := range []int{api.MaxBuckets + 1, api.MaxBuckets + 2, 127, 128, 1000} {
		l = append(l, histoOf("a", bucketsOf(n, 1)...))
	}
	l = append(l, histoOf("a", bucketsOf(api.MaxBuckets, 0)...))
	for _, n := range []int{1, 2, api.MaxBuckets, api.MaxBuckets + 1} {
		for _, last := range []uint64{0, 1} {
			l = append(l, turned(countOf("a"), func(r *api.Row) { r.Buckets = bucketsOf(n, last) }))
			l = append(l, turned(gaugeOf("a"), func(r *api.Row) { r.Buckets = bucketsOf(n, last) }))
		}
	}
	return l
}

// badOrders are batches of rows which may be, but don't rise.
func badOrders() []api.Batch {
	l := []api.Batch{
		batchOf(countOf("a"), countOf("a")), batchOf(gaugeOf("a"), gaugeOf("a")), batchOf(histoOf("a", 1), histoOf("a", 1)),
		batchOf(countOf("a"), turned(countOf("a"), func(r *api.Row) { r.Many = 2 })), batchOf(histoOf("a", 1), histoOf("a", 0, 1)),
		batchOf(gaugeOf("a"), countOf("a")), batchOf(histoOf("a", 1), countOf("a")), batchOf(histoOf("a", 1), gaugeOf("a")),
		batchOf(countOf("b"), countOf("a")), batchOf(countOf("b"), gaugeOf("a")), batchOf(countOf("b"), histoOf("a", 1)),
		batchOf(countOf("a"), countOf("b"), gaugeOf("a")), batchOf(countOf("a"), gaugeOf("b"), countOf("b")),
		batchOf(countOf("a"), countOf("c"), countOf("b")), batchOf(countOf("b"), countOf("a"), countOf("c")),
		batchOf(countOf("k9"), countOf("k10")), batchOf(countOf("a."), countOf("a,b=1")), batchOf(countOf("aa"), countOf("a")),
		batchOf(countOf("a"), histoOf("a", 1), gaugeOf("a")), batchOf(countOf("a"), gaugeOf("a"), gaugeOf("a")),
	}
	for i := 1; i < api.MaxRows; i += 33 {
		rows := countsOf(api.MaxRows)
		rows[i-1], rows[i] = rows[i], rows[i-1]
		twice := countsOf(api.MaxRows)
		twice[i] = twice[i-1]
		l = append(l, batchOf(rows...), batchOf(twice...))
	}
	return l
}

// mayBe tells by the chapter's words whether a batch may be.
func mayBe(b api.Batch) bool {
	if b.Seq < 0 || b.Seq >= 1<<31 || b.Start < 0 || b.Start > 1<<40 || len(b.Rows) > 200 {
		return false
	}
	var places []string
	for _, r := range b.Rows {
		if !rowMayBe(r) {
			return false
		}
		// A byte below all that keys have, so that a key stands ahead of one that begins so.
		places = append(places, r.Key+"\x00"+strconv.Itoa(r.Kind))
	}
	return slices.IsSorted(places) && len(slices.Compact(slices.Clone(places))) == len(places)
}

func rowMayBe(r api.Row) bool {
	many := len(r.Buckets)
	return isKey(r.Key) && (r.Kind == 1 || r.Kind == 2 || r.Kind == 3) && r.Many != 0 && r.Most >= r.Least &&
		(r.Kind == 3) == (many > 0) && many <= 65 && (many == 0 || r.Buckets[many-1] > 0)
}

// isKey is layer 5's business, whose own tests hold it.
func isKey(text string) bool {
	_, err := series.Of(text)
	return err == nil
}

// piece is a number of a batch's bytes, or a text's number of bytes, with what is behind it.
type piece struct {
	name   string
	number uint64
	text   string
	most   uint64 // 0 where a number may be of any size
}

func folded(n int64) uint64 { return uint64(n)<<1 ^ uint64(n>>63) }

// pieces are a batch's bytes by the chapter's words, also of one that may not be.
func pieces(b api.Batch) []piece {
	l := []piece{
		{name: "Seq", number: uint64(b.Seq), most: math.MaxInt32}, {name: "Start", number: uint64(b.Start), most: api.MaxTime},
		{name: "rows", number: uint64(len(b.Rows)), most: api.MaxRows},
	}
	for _, r := range b.Rows {
		over := uint64(0)
		if r.Over {
			over = 1
		}
		l = append(l, piece{name: "Key", number: uint64(len(r.Key)), text: r.Key, most: uint64(len(longest))},
			piece{name: "Kind", number: uint64(r.Kind), most: api.Histo}, piece{name: "Many", number: r.Many}, piece{name: "Sum", number: folded(r.Sum)},
			piece{name: "Least", number: folded(r.Least)}, piece{name: "Most", number: folded(r.Most)}, piece{name: "Over", number: over, most: 1},
			piece{name: "buckets", number: uint64(len(r.Buckets)), most: api.MaxBuckets})
		for _, n := range r.Buckets {
			l = append(l, piece{name: "bucket", number: n})
		}
	}
	return l
}

func joined(l []piece) string {
	var x []byte
	for _, p := range l {
		x = append(binary.AppendUvarint(x, p.number), p.text...)
	}
	return string(x)
}

// behind is what l's bytes are, with others in place of the number of piece i.
func behind(l []piece, i int, number string) string {
	return joined(l[:i]) + number + l[i].text + joined(l[i+1:])
}

func bytesOf(b api.Batch) string { return joined(pieces(b)) }

// sameBatch holds batches, but nil and empty lists as one.
func sameBatch(a, b api.Batch) bool {
	return a.Seq == b.Seq && a.Start == b.Start && slices.EqualFunc(a.Rows, b.Rows, func(a, b api.Row) bool {
		same := slices.Equal(a.Buckets, b.Buckets)
		a.Buckets, b.Buckets = nil, nil
		return same && reflect.DeepEqual(a, b)
	})
}

// copyOf is a batch that shares nothing with b.
func copyOf(b api.Batch) api.Batch {
	b.Rows = slices.Clone(b.Rows)
	for i := range b.Rows {
		b.Rows[i].Buckets = slices.Clone(b.Rows[i].Buckets)
		b.Rows[i].Key = strings.Clone(b.Rows[i].Key)
	}
	return b
}

// short is a batch's text in a fault.
func short(b api.Batch) string {
	return "batch of bytes " + shortBytes(bytesOf(b))
}

func shortBytes(x string) string {
	if len(x) > 100 {
		return strconv.Quote(x[:100]) + " .. (" + strconv.Itoa(len(x)) + ")"
	}
	return strconv.Quote(x)
}

// wantWritten holds that a batch may be, is put as those bytes, and got from them as it is.
func wantWritten(t *testing.T, b api.Batch, x string) {
	t.Helper()
	if !May(b) {
		t.Errorf("May: false; %s", short(b))
	}
	if got, err := Put(b); err != nil || string(got) != x {
		t.Errorf("Put: %s, %v; want %s", shortBytes(string(got)), err, shortBytes(x))
	}
	got, err := Get([]byte(x))
	if err != nil || !sameBatch(got, b) {
		t.Errorf("Get(%s) = %v, %v", shortBytes(x), got, err)
	}
	if again, err := Put(got); err != nil || string(again) != x {
		t.Errorf("Put of what is got: %s, %v; want %s", shortBytes(string(again)), err, shortBytes(x))
	}
}

// wantNot holds that a batch may not be: ErrArg itself, and no bytes.
func wantNot(t *testing.T, b api.Batch) {
	t.Helper()
	if May(b) {
		t.Errorf("May: true; %s", short(b))
	}
	if got, err := Put(b); err != api.ErrArg || len(got) != 0 {
		t.Errorf("Put: %s, %v; want ErrArg; %s", shortBytes(string(got)), err, short(b))
	}
}

// wantNone holds that bytes aren't a batch's: ErrForm itself, and a batch without anything.
func wantNone(t *testing.T, x string) {
	t.Helper()
	if got, err := Get([]byte(x)); err != api.ErrForm || !sameBatch(got, api.Batch{}) {
		t.Errorf("Get(%s) = %v, %v; want ErrForm", shortBytes(x), got, err)
	}
}

// P7.1: the chapter's example, and others whose bytes are written out.
func TestPlain(t *testing.T) {
	for _, x := range plain() {
		wantWritten(t, x.batch, x.bytes)
	}
}

// P7.1 and P7.3: batches that may be, at the edges and beside them.
func TestMayBe(t *testing.T) {
	for _, b := range good() {
		if !mayBe(b) {
			t.Errorf("no %s", short(b))
		}
		wantWritten(t, b, bytesOf(b))
	}
}

// P7.1 and R3: batches that may not be, and their bytes.
func TestMayNotBe(t *testing.T) {
	for _, b := range bad() {
		if mayBe(b) {
			t.Errorf("a %s", short(b))
		}
		wantNot(t, b)
		wantNone(t, bytesOf(b))
	}
}

// P7.1: one row at fault among as many as may be, wherever it stands.
func TestEachRow(t *testing.T) {
	for i := range api.MaxRows {
		for _, turn := range []func(r *api.Row){
			func(r *api.Row) { r.Many = 0 }, func(r *api.Row) { r.Kind = 4 }, func(r *api.Row) { r.Least = 1 },
			func(r *api.Row) { r.Buckets = []uint64{1} }, func(r *api.Row) { r.Kind = api.Histo }, func(r *api.Row) { r.Key += "-" },
		} {
			b := batchOf(countsOf(api.MaxRows)...)
			turn(&b.Rows[i])
			wantNot(t, b)
			wantNone(t, bytesOf(b))
		}
	}
}

// P7.1: each two kinds of one Key, in both orders, alone and among others.
func TestEachKinds(t *testing.T) {
	rows := []api.Row{countOf("b"), gaugeOf("b"), histoOf("b", 1)}
	for i, first := range rows {
		for j, second := range rows {
			for _, b := range []api.Batch{batchOf(first, second), batchOf(countOf("a"), first, second, gaugeOf("c"))} {
				if i < j {
					wantWritten(t, b, bytesOf(b))
				} else {
					wantNot(t, b)
					wantNone(t, bytesOf(b))
				}
			}
		}
	}
}

// P7.1: no bytes at all, and bytes that are no batch's from the first one on.
func TestGetNothing(t *testing.T) {
	if got, err := Get(nil); err != api.ErrForm || !sameBatch(got, api.Batch{}) {
		t.Errorf("Get(nil) = %v, %v", got, err)
	}
	for _, x := range []string{"", "\x00", "\x00\x00", "\x80", "\xff", "\xff\xff\xff", "\x80\x00\x00\x00", "a", "abc", "cpu c 0 0", "\x00\x00\x01", "\x00\x00\xff"} {
		wantNone(t, x)
	}
	for _, b := range []string{"\x00", "\x01", "\x80", "\xff", "a"} {
		wantNone(t, strings.Repeat(b, 1<<20))
	}
}

// P7.1: bytes that end within a batch, at each place; of very long ones at those that tell most.
func TestGetCut(t *testing.T) {
	for _, b := range good() {
		x := bytesOf(b)
		for n := range x {
			if n < 3000 || n > len(x)-1000 {
				wantNone(t, x[:n])
			}
		}
	}
}

// P7.1: bytes behind a whole batch, also those of one more row, or of the batch once more.
func TestGetBehind(t *testing.T) {
	for _, b := range good() {
		x := bytesOf(b)
		for _, rest := range []string{"\x00", "\x01", "\x80", "\xff", "a", "\x00\x00\x00", "\x01z\x01\x01\x00\x00\x00\x00\x00", x} {
			wantNone(t, x+rest)
		}
	}
}

// some are a few batches whose pieces are turned one by one.
func some() []api.Batch {
	return []api.Batch{
		{}, {Seq: math.MaxInt32, Start: api.MaxTime}, batchOf(countOf("a")), batchOf(histoOf("cpu,a=1", 1, 0, 2)),
		batchOf(countOf("a"), gaugeOf("a"), histoOf("a", 1), gaugeOf(longest[:186]), turned(histoOf(longest, 0, 300), func(r *api.Row) { r.Over = true })),
		batchOf(spanned(-1, math.MinInt64, math.MaxInt64)), batchOf(histoOf("a", bucketsOf(api.MaxBuckets, math.MaxUint64)...)),
	}
}

// P7.1: those few are batches as they are, so that what is turned is all that is at fault.
func TestSome(t *testing.T) {
	for _, b := range some() {
		wantWritten(t, b, bytesOf(b))
	}
}

// P7.1: numbers of more bytes than they take, in each place, of a Key, too.
func TestGetTooManyBytes(t *testing.T) {
	for _, b := range some() {
		l := pieces(b)
		for i := range l {
			number := binary.AppendUvarint(nil, l[i].number)
			for more := 1; more < 12; more++ {
				number[len(number)-1] |= 0x80
				number = append(number, 0)
				wantNone(t, behind(l, i, string(number)))
			}
		}
	}
}

// P7.1: a number in each place that is too great, up to 2^64 - 1, and above it.
func TestGetTooGreat(t *testing.T) {
	for _, b := range some() {
		l := pieces(b)
		for i, p := range l {
			wantNone(t, behind(l, i, beyond64))
			wantNone(t, behind(l, i, ffs8+"\xff\x7f"))
			wantNone(t, behind(l, i, ffs8+"\xff\xff\x01"))
			if p.most == 0 {
				continue
			}
			for _, n := range []uint64{
				p.most + 1, p.most + 2, p.most + 128, 1<<31 + p.number, 1<<32 + p.number, 1<<32 + 1, 1 << 33, api.MaxTime + 1, 1<<41 + p.number, 1<<48 + p.number,
				1<<62 + p.number, 1 << 63, 1<<63 + p.number, 1<<63 - 1, math.MaxUint64 - 1, math.MaxUint64,
			} {
				if n > p.most {
					wantNone(t, behind(l, i, string(binary.AppendUvarint(nil, n))))
				}
			}
		}
	}
}

// P7.1: each number of rows, of buckets and of a Key's bytes but the one there is.
func TestGetOtherNumbers(t *testing.T) {
	for _, b := range some() {
		l := pieces(b)
		for i, p := range l {
			if p.name != "rows" && p.name != "buckets" && p.name != "Key" {
				continue
			}
			for n := range uint64(700) {
				x := behind(l, i, string(binary.AppendUvarint(nil, n)))
				hold(t, x)
				if n != p.number && p.name != "Key" && len(b.Rows) <= 1 {
					wantNone(t, x)
				}
			}
		}
	}
}

// P7.1: an Over that is neither 0 nor 1, and each Kind.
func TestGetOverAndKind(t *testing.T) {
	for n := range uint64(300) {
		number := string(binary.AppendUvarint(nil, n))
		over := "\x01\x02\x01" + "\x01a\x01\x01\x00\x00\x00" + number + "\x00"
		count := "\x01\x02\x01" + "\x01a" + number + "\x01\x00\x00\x00\x00\x00"
		histo := "\x01\x02\x01" + "\x01a" + number + "\x01\x00\x00\x00\x00\x01\x01"
		if n > 1 {
			wantNone(t, over)
		} else {
			wantWritten(t, batchOf(turned(countOf("a"), func(r *api.Row) { r.Over = n == 1 })), over)
		}
		if n == 1 || n == 2 {
			wantWritten(t, batchOf(turned(countOf("a"), func(r *api.Row) { r.Kind = int(n) })), count)
		} else {
			wantNone(t, count)
		}
		if n == 3 {
			wantWritten(t, batchOf(histoOf("a", 1)), histo)
		} else {
			wantNone(t, histo)
		}
	}
}

// P7.1: a Key of more bytes than there are, or than a key may have.
func TestGetLongKey(t *testing.T) {
	for _, n := range []uint64{1, 2, 16, 17, 220, 221, 300, 301, 4096, 1 << 31, 1 << 32, 1 << 40, 1<<63 - 1, 1 << 63, math.MaxUint64} {
		number := string(binary.AppendUvarint(nil, n))
		wantNone(t, "\x01\x02\x01"+number)
		if n > 1 {
			wantNone(t, "\x01\x02\x01"+number+"a")
			wantNone(t, "\x01\x02\x01"+number+"a\x01\x01\x00\x00\x00\x00\x00")
		}
		if n > 16 && n < 1<<20 {
			key := strings.Repeat("a", int(n))
			wantNone(t, "\x01\x02\x01"+number+key+"\x01\x01\x00\x00\x00\x00\x00")
		}
	}
	wantWritten(t, batchOf(countOf(longest)), "\x01\x02\x01"+"\xdc\x01"+longest+"\x01\x01\x00\x00\x00\x00\x00")
}

// P7.1: of Seq, Start and Many, where wider or narrower numbers would come to what may be.
func TestGetWrapped(t *testing.T) {
	for _, n := range []uint64{math.MaxUint64, 1 << 63, 1<<63 + 1, 1 << 31, 1 << 32, 1<<32 + 1, 1<<40 + 1, 1 << 41} {
		number := string(binary.AppendUvarint(nil, n))
		wantNone(t, number+"\x02\x00")
		if n > api.MaxTime {
			wantNone(t, "\x01"+number+"\x00")
		} else {
			wantWritten(t, api.Batch{Seq: 1, Start: int64(n)}, "\x01"+number+"\x00")
		}
		wantNone(t, "\x01\x02"+number)
		wantWritten(t, batchOf(turned(countOf("a"), func(r *api.Row) { r.Many = n })), "\x01\x02\x01"+"\x01a\x01"+number+"\x00\x00\x00\x00\x00")
		wantWritten(t, batchOf(histoOf("a", n)), "\x01\x02\x01"+"\x01a\x03\x01\x00\x00\x00\x00\x01"+number)
	}
}

// scan reads bytes by the chapter's words; ok falls once they aren't of the form.
type scan struct {
	rest []byte
	ok   bool
}

func (s *scan) number() uint64 {
	n, size := binary.Uvarint(s.rest)
	if size <= 0 || size > 1 && s.rest[size-1] == 0 {
		s.ok = false
		s.rest = nil
		return 0
	}
	s.rest = s.rest[size:]
	return n
}

func (s *scan) whole() int64 {
	n := s.number()
	return int64(n>>1) ^ -int64(n&1)
}

func (s *scan) text() string {
	n := s.number()
	if n > uint64(len(s.rest)) {
		s.ok = false
		return ""
	}
	text := string(s.rest[:n])
	s.rest = s.rest[n:]
	return text
}

// upTo is a number that an int holds, but falls if it is greater than so many.
func (s *scan) upTo(most uint64) uint64 {
	n := s.number()
	s.ok = s.ok && n <= most
	return min(n, most)
}

// gotByTheWords is what bytes are a batch of, if they are.
func gotByTheWords(x string) (api.Batch, bool) {
	s := scan{rest: []byte(x), ok: true}
	var b api.Batch
	b.Seq = int(s.upTo(math.MaxInt32))
	b.Start = int64(s.upTo(math.MaxInt64))
	rows := s.upTo(1000)
	for i := uint64(0); i < rows && s.ok; i++ {
		var r api.Row
		r.Key = s.text()
		r.Kind = int(s.upTo(math.MaxInt32))
		r.Many = s.number()
		r.Sum = s.whole()
		r.Least = s.whole()
		r.Most = s.whole()
		r.Over = s.upTo(1) == 1
		buckets := s.upTo(1000)
		for j := uint64(0); j < buckets && s.ok; j++ {
			r.Buckets = append(r.Buckets, s.number())
		}
		b.Rows = append(b.Rows, r)
	}
	return b, s.ok && len(s.rest) == 0 && mayBe(b)
}

// hold holds bytes against the chapter's words.
func hold(t *testing.T, x string) bool {
	t.Helper()
	b, is := gotByTheWords(x)
	if is {
		wantWritten(t, b, x)
	} else {
		wantNone(t, x)
	}
	return is
}

// P7.1 and P1: bytes with one byte changed, dropped or put in.
func TestGetBesideBytes(t *testing.T) {
	is, isnt := 0, 0
	count := func(held bool) {
		if held {
			is++
		} else {
			isnt++
		}
	}
	for _, b := range append(some(), good()[:12]...) {
		x := bytesOf(b)
		for i := range x {
			for _, b := range []byte{0, 1, 2, 3, 4, 64, 127, 128, 129, 255, 'a', 'b', ',', '=', x[i] + 1, x[i] - 1} {
				count(hold(t, x[:i]+string([]byte{b})+x[i+1:]))
				count(hold(t, x[:i]+string([]byte{b})+x[i:]))
			}
			count(hold(t, x[:i]+x[i+1:]))
			count(hold(t, x[i:]))
		}
	}
	if is < 100 || isnt < 100 {
		t.Errorf("%d are, and %d aren't", is, isnt)
	}
}

// anyNumber is one of few bits, or of many.
func anyNumber(r *rand.Rand) uint64 { return r.Uint64() >> r.Intn(64) }

func anyKey(r *rand.Rand) string {
	key := string(rune('a' + r.Intn(6)))
	for tag := 'a'; tag < 'd'; tag++ {
		if r.Intn(3) == 0 {
			key += "," + string(tag) + "=" + strconv.Itoa(r.Intn(3))
		}
	}
	return key
}

// anyRow is a row that may be.
func anyRow(r *rand.Rand) api.Row {
	row := api.Row{Key: anyKey(r), Kind: 1 + r.Intn(3), Many: max(1, anyNumber(r)), Sum: int64(anyNumber(r)) - int64(anyNumber(r)), Over: r.Intn(2) == 0}
	ends := []int64{int64(anyNumber(r)), -int64(anyNumber(r))}
	row.Least, row.Most = slices.Min(ends), slices.Max(ends)
	if row.Kind == api.Histo {
		for range r.Intn(api.MaxBuckets) {
			row.Buckets = append(row.Buckets, anyNumber(r)>>r.Intn(64))
		}
		row.Buckets = append(row.Buckets, max(1, anyNumber(r)))
	}
	return row
}

// anyBatch is a batch that may be.
func anyBatch(r *rand.Rand) api.Batch {
	b := api.Batch{Seq: int(anyNumber(r) % (1 << 31)), Start: int64(anyNumber(r) % (api.MaxTime + 1))}
	for range r.Intn(30) {
		b.Rows = append(b.Rows, anyRow(r))
	}
	place := func(a, b api.Row) int {
		return strings.Compare(a.Key+"\x00"+strconv.Itoa(a.Kind), b.Key+"\x00"+strconv.Itoa(b.Kind))
	}
	slices.SortFunc(b.Rows, place)
	b.Rows = slices.CompactFunc(b.Rows, func(a, b api.Row) bool { return place(a, b) == 0 })
	return b
}

// P7.3 and P7.1: batches at random are got as they were put, and put as those bytes.
func TestAtRandom(t *testing.T) {
	r := rand.New(rand.NewSource(7))
	for range 3000 {
		b := anyBatch(r)
		wantWritten(t, b, bytesOf(b))
	}
}

// P7.1: batches at random with one thing turned, and their bytes.
func TestTurnedAtRandom(t *testing.T) {
	r := rand.New(rand.NewSource(71))
	is, isnt := 0, 0
	for range 10000 {
		b := anyBatch(r)
		turnAny(r, &b)
		if mayBe(b) {
			is++
			wantWritten(t, b, bytesOf(b))
		} else {
			isnt++
			wantNot(t, b)
			wantNone(t, bytesOf(b))
		}
	}
	if is < 100 || isnt < 100 {
		t.Errorf("%d are, and %d aren't", is, isnt)
	}
}

func turnAny(r *rand.Rand, b *api.Batch) {
	if len(b.Rows) == 0 {
		b.Seq, b.Start = int(r.Uint64()), int64(r.Uint64()>>r.Intn(64))
		return
	}
	row := &b.Rows[r.Intn(len(b.Rows))]
	switch r.Intn(7) {
	case 0:
		row.Key = anyKey(r)
	case 1:
		row.Kind = r.Intn(5)
	case 2:
		row.Many = uint64(r.Intn(2))
	case 3:
		row.Least = int64(r.Uint64())
	case 4:
		row.Most = int64(r.Uint64())
	case 5:
		row.Buckets = make([]uint64, r.Intn(70))
	case 6:
		i, j := r.Intn(len(b.Rows)), r.Intn(len(b.Rows))
		b.Rows[i], b.Rows[j] = b.Rows[j], b.Rows[i]
	}
}

// P7.1 and P1: any bytes, and bytes of batches at random with some changed.
func TestGetAtRandom(t *testing.T) {
	r := rand.New(rand.NewSource(72))
	for range 20000 {
		x := make([]byte, r.Intn(20))
		for i := range x {
			x[i] = byte(r.Intn(4))
		}
		hold(t, string(x))
		r.Read(x)
		hold(t, string(x))
	}
	for range 10000 {
		x := []byte(bytesOf(anyBatch(r)))
		for range 1 + r.Intn(2) {
			x[r.Intn(len(x))] = byte(anyNumber(r))
		}
		hold(t, string(x))
	}
}

// spare is a batch with room behind its rows, and behind their buckets, and what all of that holds.
func spare(b api.Batch) (api.Batch, []api.Row, [][]uint64) {
	var all [][]uint64
	rows := make([]api.Row, 0, len(b.Rows)+3)
	for _, r := range b.Rows {
		buckets := append(slices.Clone(r.Buckets), 91, 92, 93, 0)
		all = append(all, buckets)
		r.Buckets = buckets[:len(r.Buckets)]
		rows = append(rows, r)
	}
	rows = append(rows, api.Row{Key: "behind", Kind: 77, Buckets: []uint64{5}}, api.Row{}, countOf("it"))
	b.Rows = rows[:len(b.Rows)]
	return b, rows, all
}

// P7.2: a batch stays as it is, with its rows and their buckets, and what is behind them.
func TestBatchStays(t *testing.T) {
	for _, given := range slices.Concat(good(), bad()) {
		b, rows, buckets := spare(given)
		rowsWere := copyOf(api.Batch{Rows: rows}).Rows
		var bucketsWere [][]uint64
		for _, l := range buckets {
			bucketsWere = append(bucketsWere, slices.Clone(l))
		}
		if May(b) != mayBe(given) {
			t.Errorf("May: %v; %s", May(b), short(given))
		}
		x, err := Put(b)
		if (err == nil) != mayBe(given) || err == nil && string(x) != bytesOf(given) {
			t.Errorf("Put: %s, %v; %s", shortBytes(string(x)), err, short(given))
		}
		if !sameBatch(api.Batch{Rows: rows}, api.Batch{Rows: rowsWere}) || !reflect.DeepEqual(buckets, bucketsWere) {
			t.Errorf("changed: %s", short(given))
		}
	}
}

// P7.2: bytes stay as they are, also behind their length.
func TestBytesStay(t *testing.T) {
	for _, b := range slices.Concat(good(), bad()) {
		all := append([]byte(bytesOf(b)), 1, 2, 0, 0xff, 0x80)
		were := slices.Clone(all)
		x := all[: len(all)-5 : len(all)]
		got, err := Get(x)
		if (err == nil) != mayBe(b) || err == nil && !sameBatch(got, b) {
			t.Errorf("Get: %v, %v; %s", got, err, short(b))
		}
		if !bytes.Equal(all, were) {
			t.Errorf("changed: %s", short(b))
		}
	}
}

// span is where a list lies, its room with it.
type span struct{ begin, end uintptr }

func spanOf[T any](l []T) span {
	var zero T
	begin := uintptr(unsafe.Pointer(unsafe.SliceData(l)))
	return span{begin, begin + uintptr(cap(l))*unsafe.Sizeof(zero)}
}

func spanOfText(s string) span {
	begin := uintptr(unsafe.Pointer(unsafe.StringData(s)))
	return span{begin, begin + uintptr(len(s))}
}

// listsOf is where a batch's lists lie. Texts of one byte may share theirs, for nothing can change them.
func listsOf(b api.Batch) []span {
	l := []span{spanOf(b.Rows)}
	for _, r := range b.Rows {
		l = append(l, spanOf(r.Buckets))
	}
	return l
}

// wantApart holds that none of these shares memory with another one.
func wantApart(t *testing.T, name string, l []span) {
	t.Helper()
	l = slices.DeleteFunc(slices.Clone(l), func(s span) bool { return s.begin == s.end })
	slices.SortFunc(l, func(a, b span) int {
		if a.begin < b.begin {
			return -1
		}
		return 1
	})
	for i := 1; i < len(l); i++ {
		if l[i-1].end > l[i].begin {
			t.Errorf("%s share memory", name)
			return
		}
	}
}

// P7.2: bytes that are told share no memory with the batch, and none with those that were told before.
func TestPutIsNew(t *testing.T) {
	for _, given := range good() {
		b, rows, _ := spare(copyOf(given))
		x, _ := Put(b)
		y, _ := Put(b)
		wantApart(t, "bytes", append(listsOf(b), spanOf(x), spanOf(y)))
		for _, r := range b.Rows {
			wantApart(t, "bytes and a Key", []span{spanOf(x), spanOfText(r.Key)})
		}
		want := bytesOf(given)
		clear(y[:cap(y)])
		for i := range rows {
			clear(rows[i].Buckets[:cap(rows[i].Buckets)])
		}
		clear(rows)
		if string(x) != want {
			t.Errorf("changed: %s", short(given))
		}
	}
}

// P7.2: a batch that is told shares no memory with the bytes, nor with another answer, nor do its lists with each other.
func TestGetIsNew(t *testing.T) {
	for _, given := range good() {
		x := []byte(bytesOf(given))
		b, _ := Get(x)
		c, _ := Get(x)
		wantApart(t, "batches", slices.Concat([]span{spanOf(x)}, listsOf(b), listsOf(c)))
		for _, r := range b.Rows {
			wantApart(t, "a Key and the bytes", []span{spanOf(x), spanOfText(r.Key)})
		}
		clear(x)
		for i := range c.Rows {
			clear(c.Rows[i].Buckets[:cap(c.Rows[i].Buckets)])
		}
		clear(c.Rows[:cap(c.Rows)])
		if !sameBatch(b, given) {
			t.Errorf("changed: %s", short(given))
		}
	}
}

// P7.2: what was answered before changes no answer.
func TestNothingIsKept(t *testing.T) {
	want := bytesOf(some()[4])
	for _, b := range slices.Concat(good(), bad()) {
		May(b)
		Put(b)
		x := bytesOf(b)
		Get([]byte(x))
		Get([]byte(x[:len(x)/2]))
		if len(x) < 1000 {
			wantWritten(t, some()[4], want)
		}
	}
	wantWritten(t, some()[4], want)
	wantWritten(t, api.Batch{}, "\x00\x00\x00")
}

// P1: lists of any length end soon.
func TestVeryMany(t *testing.T) {
	wantNot(t, api.Batch{Rows: make([]api.Row, 1<<20)})
	wantNot(t, batchOf(histoOf("a", make([]uint64, 1<<20)...)))
	rows := string(binary.AppendUvarint(nil, 1<<20))
	wantNone(t, "\x00\x00"+rows+strings.Repeat("\x01a\x01\x01\x00\x00\x00\x00\x00", 1<<17))
}
