package spill

import (
	"bytes"
	"encoding/binary"
	"math"
	"math/rand"
	"reflect"
	"slices"
	"strconv"
	"strings"
	"testing"
	"unsafe"

	"noggin/api"
	"noggin/batch"
	"noggin/disk"
	"noggin/journal"
)

const (
	mostRoom   = 1000
	mostMany   = 100
	mostRecord = 4096
	mostSeq    = 1<<31 - 1
)

// farInts are numbers beyond all that a call takes.
var farInts = [...]int{math.MinInt, math.MinInt + 1, -1 << 32, -1 << 31, -1001, -2, -1, 1 << 31, 1 << 32, math.MaxInt - 1, math.MaxInt}

func countOf(key string) api.Row { return api.Row{Key: key, Kind: api.Count, Many: 1} }

func gaugeOf(key string) api.Row { return api.Row{Key: key, Kind: api.Gauge, Many: 1} }

func histoOf(key string, buckets ...uint64) api.Row {
	return api.Row{Key: key, Kind: api.Histo, Many: 1, Buckets: buckets}
}

// turned is a row with something else.
func turned(r api.Row, turn func(r *api.Row)) api.Row {
	turn(&r)
	return r
}

func batchOf(seq int, rows ...api.Row) api.Batch { return api.Batch{Seq: seq, Start: 2, Rows: rows} }

// plain is a batch without rows, which has 3 bytes up to Seq 127.
func plain(seq int) api.Batch { return api.Batch{Seq: seq} }

func plains(first, many int) []api.Batch {
	var l []api.Batch
	for i := range many {
		l = append(l, plain(first+i))
	}
	return l
}

// mixed are batches of all kinds, one behind the other.
func mixed(first, many int) []api.Batch {
	var l []api.Batch
	for i := range many {
		l = append(l, kindOf(first+i, i))
	}
	return l
}

// kindOf is a batch of a kind, by its number.
func kindOf(seq, kind int) api.Batch {
	wide := api.Row{Key: "a", Kind: api.Gauge, Many: math.MaxUint64, Sum: math.MinInt64, Least: math.MinInt64, Most: math.MaxInt64, Over: true}
	switch kind % 8 {
	case 0:
		return plain(seq)
	case 1:
		return batchOf(seq, countOf("a"))
	case 2:
		return batchOf(seq, wide)
	case 3:
		return batchOf(seq, histoOf("cpu,a=2,b=1", 7, 0, 300))
	case 4:
		return batchOf(seq, countOf("a"), gaugeOf("a"), histoOf("a", 1), countOf("a,b=1"), histoOf("b", 0, math.MaxUint64))
	case 5:
		return api.Batch{Seq: seq, Start: api.MaxTime, Rows: []api.Row{gaugeOf(strings.Repeat("z", api.MaxName))}}
	case 6:
		return batchOf(seq, histoOf("h", bucketsOf(api.MaxBuckets)...))
	}
	return api.Batch{Seq: seq, Start: 300, Rows: countsOf(api.MaxRows)}
}

// bucketsOf are so many, all 0 but the last one.
func bucketsOf(n int) []uint64 {
	l := make([]uint64, n)
	l[n-1] = 1
	return l
}

func countsOf(n int) []api.Row {
	var l []api.Row
	for i := range n {
		l = append(l, countOf("k"+strconv.Itoa(1000+i)))
	}
	return l
}

// sized is a batch of just so many bytes.
func sized(t *testing.T, seq, n int) api.Batch {
	t.Helper()
	b := plain(seq)
	left := n - len(bytesOf(b))
	for i := 0; left > 0; i++ {
		// A row has 12 bytes beside its buckets', of which there are 65 with 10 bytes at most.
		size := min(left, 662)
		if left-size > 0 && left-size < 13 {
			size -= 13
		}
		left -= size
		b.Rows = append(b.Rows, histoOf("k"+strconv.Itoa(100+i), bucketsOfBytes(size-12)...))
	}
	if got := len(bytesOf(b)); got != n || !batch.May(b) {
		t.Fatalf("a batch of %d bytes has %d", n, got)
	}
	return b
}

// bucketsOfBytes are buckets that have so many bytes together.
func bucketsOfBytes(n int) []uint64 {
	var l []uint64
	for n > 0 {
		size := min(n, 10)
		l = append(l, 1<<(7*(size-1)))
		n -= size
	}
	return l
}

func folded(n int64) uint64 { return uint64(n)<<1 ^ uint64(n>>63) }

// bytesOf is a batch's bytes by the words of layer 7, also of one that may not be.
func bytesOf(b api.Batch) string {
	x := binary.AppendUvarint(nil, uint64(b.Seq))
	x = binary.AppendUvarint(x, uint64(b.Start))
	x = binary.AppendUvarint(x, uint64(len(b.Rows)))
	for _, r := range b.Rows {
		x = append(binary.AppendUvarint(x, uint64(len(r.Key))), r.Key...)
		over := uint64(0)
		if r.Over {
			over = 1
		}
		for _, n := range []uint64{uint64(r.Kind), r.Many, folded(r.Sum), folded(r.Least), folded(r.Most), over, uint64(len(r.Buckets))} {
			x = binary.AppendUvarint(x, n)
		}
		for _, n := range r.Buckets {
			x = binary.AppendUvarint(x, n)
		}
	}
	return string(x)
}

// laidOut is records' bytes by the words of layer 9.
func laidOut(records ...string) string {
	var x []byte
	for _, r := range records {
		x = append(binary.AppendUvarint(x, uint64(len(r))), r...)
	}
	return string(x)
}

// laidOutOf is batches' bytes on a disk.
func laidOutOf(l ...api.Batch) string {
	x := ""
	for _, b := range l {
		x += laidOut(bytesOf(b))
	}
	return x
}

// sameBatch holds batches, but nil and empty lists as one.
func sameBatch(a, b api.Batch) bool {
	return a.Seq == b.Seq && a.Start == b.Start && slices.EqualFunc(a.Rows, b.Rows, func(a, b api.Row) bool {
		same := slices.Equal(a.Buckets, b.Buckets)
		a.Buckets, b.Buckets = nil, nil
		return same && reflect.DeepEqual(a, b)
	})
}

// copyOf is a batch that shares nothing with b.
func copyOf(b api.Batch) api.Batch {
	b.Rows = slices.Clone(b.Rows)
	for i := range b.Rows {
		b.Rows[i].Buckets = slices.Clone(b.Rows[i].Buckets)
		b.Rows[i].Key = strings.Clone(b.Rows[i].Key)
	}
	return b
}

// short keeps a failure readable.
func short(x string) string {
	if len(x) > 60 {
		return strconv.Quote(x[:60]) + " .. of " + strconv.Itoa(len(x))
	}
	return strconv.Quote(x)
}

func newDisk(t *testing.T, room int) *disk.Disk {
	t.Helper()
	d, err := disk.New(room)
	if err != nil {
		t.Fatal(err)
	}
	return d
}

// laid is a part of a disk, with its bytes.
type laid struct {
	part  int
	bytes string
}

// layOut is a disk with these parts, of which nothing is synced.
func layOut(t *testing.T, parts ...laid) *disk.Disk {
	t.Helper()
	d := newDisk(t, api.MaxDisk)
	for _, p := range parts {
		if err := d.Append(p.part, []byte(p.bytes)); err != nil {
			t.Fatal(err)
		}
	}
	return d
}

// partsOf is all of a disk that is up.
func partsOf(t *testing.T, d *disk.Disk) []laid {
	t.Helper()
	var l []laid
	for _, part := range d.Parts() {
		b, err := d.Read(part)
		if err != nil {
			t.Fatalf("Read(%d) = %q, %v", part, b, err)
		}
		l = append(l, laid{part, string(b)})
	}
	return l
}

func shortParts(parts []laid) string {
	text := ""
	for _, p := range parts {
		text += " " + strconv.Itoa(p.part) + ":" + short(p.bytes)
	}
	return text[:min(len(text), 500)]
}

func wantParts(t *testing.T, name string, d *disk.Disk, want ...laid) {
	t.Helper()
	if got := partsOf(t, d); !slices.Equal(got, want) {
		t.Errorf("%s: the disk has%s, want%s", name, shortParts(got), shortParts(want))
	}
}

// wantSynced holds what stays of a disk that is up when it crashes and nothing stays but what was synced.
func wantSynced(t *testing.T, name string, d *disk.Disk, want ...laid) {
	t.Helper()
	d.Crash(0)
	d.Up()
	wantParts(t, name+", behind a crash", d, want...)
}

func openAt(t *testing.T, d *disk.Disk, many, room int) *Spill {
	t.Helper()
	s, err := Open(d, many, room)
	if err != nil || s == nil {
		t.Fatalf("Open(%d, %d) = %v, %v", many, room, s, err)
	}
	return s
}

// fresh is a spill on a new disk with much room, and these batches put.
func fresh(t *testing.T, many, room int, l ...api.Batch) (*disk.Disk, *Spill) {
	t.Helper()
	d := newDisk(t, api.MaxDisk)
	s := openAt(t, d, many, room)
	putAll(t, s, l...)
	return d, s
}

func putAll(t *testing.T, s *Spill, l ...api.Batch) {
	t.Helper()
	for _, b := range l {
		if err := s.Put(b); err != nil {
			t.Fatalf("Put of %s tells %v", short(bytesOf(b)), err)
		}
	}
}

func ackAll(t *testing.T, s *Spill, first, many int) {
	t.Helper()
	for i := range many {
		if err := s.Ack(first + i); err != nil {
			t.Fatalf("Ack(%d) tells %v", first+i, err)
		}
	}
}

// wantHead holds what is at the head; b is nil, if it is none.
func wantHead(t *testing.T, name string, s *Spill, b *api.Batch) {
	t.Helper()
	got, x, is := s.Head()
	if b == nil {
		if is || len(x) != 0 || !sameBatch(got, api.Batch{}) {
			t.Errorf("%s: Head = %v, %s, %v, want none", name, got, short(string(x)), is)
		}
		return
	}
	if !is || string(x) != bytesOf(*b) || !sameBatch(got, *b) {
		t.Errorf("%s: Head = batch %d of %s, bytes %s, %v, want %s", name, got.Seq, short(bytesOf(got)), short(string(x)), is, short(bytesOf(*b)))
	}
}

// wantSpill holds how many batches there are, the next one's number, and what is at the head.
func wantSpill(t *testing.T, name string, s *Spill, next int, want ...api.Batch) {
	t.Helper()
	if s.Len() != len(want) || s.Next() != next {
		t.Errorf("%s: Len %d, Next %d, want %d, %d", name, s.Len(), s.Next(), len(want), next)
	}
	if len(want) == 0 {
		wantHead(t, name, s, nil)
		return
	}
	wantHead(t, name, s, &want[0])
}

// wantAll holds all batches from the head on, by acking them one by one; behind it there are none.
func wantAll(t *testing.T, name string, s *Spill, next int, want ...api.Batch) {
	t.Helper()
	for i, b := range want {
		wantSpill(t, name, s, next, want[i:]...)
		if err := s.Ack(b.Seq); err != nil {
			t.Errorf("%s: Ack(%d) tells %v", name, b.Seq, err)
		}
	}
	wantSpill(t, name+", all acked", s, next)
}

// wantOnDisk holds which batches a disk that is up has, by those of its bytes that are synced, and leaves it as it is.
func wantOnDisk(t *testing.T, name string, d *disk.Disk, next int, want ...api.Batch) {
	t.Helper()
	other := layOut(t, partsOf(t, d)...)
	wantAll(t, name+", opened elsewhere", openAt(t, other, 1, mostRoom), next, want...)
}

// The chapter's example.
func TestExample(t *testing.T) {
	for _, many := range []int{1, 2, 3, 99, 100} {
		for _, room := range []int{1, 2, 3, 999, 1000} {
			d := newDisk(t, 10)
			s := openAt(t, d, many, room)
			wantSpill(t, "a new disk", s, 0)
			wantParts(t, "a new disk", d)
		}
	}
}

// P21.1: a room that isn't 1 to MaxRing is ErrArg itself, ahead of all others, and the disk stays as it was.
func TestOpenRoom(t *testing.T) {
	if api.MaxRing != mostRoom || api.MaxRecord != mostRecord {
		t.Fatal("the limits are other ones")
	}
	for _, room := range slices.Concat([]int{-1, 0, 1001, 1002, 2000}, farInts[:]) {
		for _, many := range []int{-1, 0, 1, 100, 101} {
			parts := []laid{{2, laidOutOf(plain(2)) + "\x05torn"}, {7, laidOutOf(plain(7))}}
			d := layOut(t, parts...)
			for _, x := range []*disk.Disk{nil, d} {
				if s, err := Open(x, many, room); s != nil || err != api.ErrArg {
					t.Errorf("Open(%d, %d) = %v, %v", many, room, s, err)
				}
			}
			wantParts(t, "none was opened", d, parts...)
			wantSynced(t, "none was opened", d, laid{2, ""}, laid{7, ""})
			d.Crash(0)
			if s, err := Open(d, many, room); s != nil || err != api.ErrArg {
				t.Errorf("Open(%d, %d) of a disk that is down = %v, %v", many, room, s, err)
			}
			if err := d.Sync(2); err != api.ErrGone {
				t.Errorf("Open(%d, %d) let the disk come up", many, room)
			}
		}
	}
	for room := 1; room <= mostRoom; room++ {
		if s, err := Open(newDisk(t, 1), 1, room); s == nil || err != nil {
			t.Errorf("Open(1, %d) = %v, %v", room, s, err)
		}
	}
}

// P21.1: the journal's error of opening: a nil disk, or a many that isn't 1 to 100; the disk stays as it was.
func TestOpenJournal(t *testing.T) {
	for _, room := range []int{1, 2, 1000} {
		for _, many := range slices.Concat([]int{0, 1, 2, 100, 101}, farInts[:]) {
			if s, err := Open(nil, many, room); s != nil || err != api.ErrArg {
				t.Errorf("Open(nil, %d, %d) = %v, %v", many, room, s, err)
			}
		}
		for _, many := range slices.Concat([]int{0, 101, 102, 1000}, farInts[:]) {
			for _, records := range []string{laidOutOf(plain(2)), "\x01a"} {
				d := layOut(t, laid{2, records + "\x05torn"})
				if s, err := Open(d, many, room); s != nil || err != api.ErrArg {
					t.Errorf("Open(%d, %d) = %v, %v", many, room, s, err)
				}
				wantParts(t, "none was opened", d, laid{2, records + "\x05torn"})
			}
		}
		for many := 1; many <= mostMany; many++ {
			if s, err := Open(newDisk(t, 1), many, room); s == nil || err != nil {
				t.Errorf("Open(%d, %d) = %v, %v", many, room, s, err)
			}
		}
	}
}

// tails are bytes that no whole record begins.
var tails = [...]string{"", "\x00", "\x00\x01a", "\x04\x01\x02", "\x03\x00\x00", "\x80", "\x80\x00", "\x81\x20", "\xff\xff\xff\xff\xff\xff\xff\xff\xff\x01a"}

// P21.1: a disk with one part, with several, with parts that don't count, with torn bytes, up or down.
func TestOpenParts(t *testing.T) {
	l := mixed(0, 40)
	for _, c := range []struct {
		parts   []laid
		counts  int // of the parts, by rising numbers
		first   int
		batches []api.Batch
	}{
		{[]laid{{0, laidOutOf(l[:1]...)}}, 1, 0, l[:1]},
		{[]laid{{0, laidOutOf(l[:3]...)}}, 1, 0, l[:3]},
		{[]laid{{0, laidOutOf(l[:17]...)}}, 1, 0, l[:17]},
		{[]laid{{0, laidOutOf(l[:2]...)}, {2, laidOutOf(l[2:5]...)}}, 2, 0, l[:5]},
		{[]laid{{0, laidOutOf(l[:1]...)}, {1, laidOutOf(l[1:2]...)}, {2, laidOutOf(l[2:9]...)}, {9, laidOutOf(l[9:12]...)}}, 4, 0, l[:12]},
		// The first part has another number.
		{[]laid{{1, laidOutOf(l[1:3]...)}}, 1, 1, l[1:3]},
		{[]laid{{5, laidOutOf(l[5:6]...)}}, 1, 5, l[5:6]},
		{[]laid{{7, laidOutOf(l[7:9]...)}, {9, laidOutOf(l[9:20]...)}}, 2, 7, l[7:20]},
		// Parts without a record.
		{[]laid{{0, ""}}, 1, 0, nil},
		{[]laid{{4, ""}}, 1, 4, nil},
		{[]laid{{math.MaxInt, ""}}, 1, math.MaxInt, nil},
		{[]laid{{3, laidOutOf(l[3:5]...)}, {5, ""}}, 2, 3, l[3:5]},
		{[]laid{{3, laidOutOf(l[3:5]...)}, {5, ""}, {6, laidOutOf(l[6:7]...)}}, 2, 3, l[3:5]},
		// Parts that don't count.
		{[]laid{{0, laidOutOf(l[:2]...)}, {1, laidOutOf(l[1:2]...)}}, 1, 0, l[:2]},
		{[]laid{{0, laidOutOf(l[:2]...)}, {3, laidOutOf(l[3:4]...)}}, 1, 0, l[:2]},
		{[]laid{{0, laidOutOf(l[:2]...)}, {2, laidOutOf(l[2:4]...)}, {5, laidOutOf(l[5:6]...)}, {6, laidOutOf(l[6:9]...)}}, 2, 0, l[:4]},
		{[]laid{{8, ""}, {9, laidOutOf(l[9:10]...)}}, 1, 8, nil},
		{[]laid{{8, laidOutOf(l[8:9]...)}, {math.MaxInt, laidOutOf(l[9:10]...)}}, 1, 8, l[8:9]},
	} {
		for _, down := range []bool{false, true} {
			for _, tail := range tails {
				name := strconv.Itoa(len(c.parts)) + " parts from " + strconv.Itoa(c.first) + " on, with " + short(tail)
				d := layOut(t, c.parts...)
				for _, p := range c.parts {
					d.Append(p.part, []byte(tail))
				}
				if down {
					d.Crash(math.MaxInt)
				}
				s := openAt(t, d, 2, 1000)
				wantSpill(t, name, s, c.first+len(c.batches), c.batches...)
				wantParts(t, name, d, c.parts[:c.counts]...)
				wantSynced(t, name, d, c.parts[:c.counts]...)
				wantAll(t, name, s, c.first+len(c.batches), c.batches...)
			}
		}
	}
}

// P21.1: the head is at the journal's first record, Len and Next are by it, whatever its number.
func TestOpenOtherFirst(t *testing.T) {
	for _, first := range []int{0, 1, 2, 127, 128, 999, 1 << 20, mostSeq - 6} {
		for many := range 7 {
			l := mixed(first, many)
			for _, room := range []int{1, 3, 1000} {
				s := openAt(t, layOut(t, laid{first, laidOutOf(l...)}), 3, room)
				wantAll(t, "from "+strconv.Itoa(first)+" on", s, first+many, l...)
			}
		}
	}
}

// P21.1, P21.2: the greatest Seq may be; behind it no batch can be put, and it ends there.
func TestGreatestSeq(t *testing.T) {
	d := layOut(t, laid{mostSeq - 1, laidOutOf(plain(mostSeq - 1))})
	s := openAt(t, d, 5, 5)
	putAll(t, s, plain(mostSeq))
	all := plains(mostSeq-1, 2)
	for _, seq := range []int{mostSeq + 1, mostSeq, mostSeq + 2, -1, 0, math.MaxInt} {
		if err := s.Put(plain(seq)); err != api.ErrArg {
			t.Errorf("Put of Seq %d tells %v", seq, err)
		}
	}
	wantSpill(t, "behind the greatest", s, mostSeq+1, all...)
	wantOnDisk(t, "behind the greatest", d, mostSeq+1, all...)
	wantAll(t, "behind the greatest", s, mostSeq+1, all...)
	for _, seq := range []int{mostSeq, mostSeq + 1, mostSeq + 2} {
		if err := s.Ack(seq); err != api.ErrState {
			t.Errorf("Ack(%d) tells %v", seq, err)
		}
	}
	for _, first := range []int{mostSeq + 1, 1 << 32, math.MaxInt - 1, math.MaxInt} {
		s := openAt(t, layOut(t, laid{first, ""}), 1, 1)
		wantSpill(t, "without a record", s, first)
		for _, seq := range []int{first, 0, 1} {
			if err := s.Put(plain(seq)); err != api.ErrArg {
				t.Errorf("from %d on: Put of Seq %d tells %v", first, seq, err)
			}
			if err := s.Ack(seq); err != api.ErrState {
				t.Errorf("from %d on: Ack(%d) tells %v", first, seq, err)
			}
		}
		for _, b := range []api.Batch{plain(first), plain(0), plain(mostSeq)} {
			for _, records := range []string{laidOutOf(b), laidOutOf(b, b), laidOutOf(b, plain(first+1), b)} {
				if s, err := Open(layOut(t, laid{first, records}), 1, 1); s != nil || err != api.ErrForm {
					t.Errorf("from %d on: Open tells %v, %v", first, s, err)
				}
			}
		}
	}
}

// badRows are rows of which no batch may have one.
func badRows() []api.Row {
	var l []api.Row
	for _, key := range []string{"", " ", "A", "a,", "a,b", "a,b=", ",a=1", "a,b=1,a=2", "a,b=1,b=1", "a\x00", "\xff", strings.Repeat("a", 17), strings.Repeat("a", 301)} {
		l = append(l, countOf(key), gaugeOf(key), histoOf(key, 1))
	}
	for _, kind := range []int{0, 4, 5, -1, 1<<32 + 1, math.MinInt, math.MaxInt} {
		l = append(l, api.Row{Key: "a", Kind: kind, Many: 1}, api.Row{Key: "a", Kind: kind, Many: 1, Buckets: []uint64{1}})
	}
	for _, r := range []api.Row{countOf("a"), gaugeOf("a"), histoOf("a", 1)} {
		l = append(l, turned(r, func(r *api.Row) { r.Many = 0 }), turned(r, func(r *api.Row) { r.Least = 1 }),
			turned(r, func(r *api.Row) { r.Most = -1 }), turned(r, func(r *api.Row) { r.Least, r.Most = math.MaxInt64, math.MinInt64 }))
	}
	for _, buckets := range [][]uint64{{1}, {0}, {1, 2}} {
		l = append(l, turned(countOf("a"), func(r *api.Row) { r.Buckets = buckets }), turned(gaugeOf("a"), func(r *api.Row) { r.Buckets = buckets }))
	}
	return append(l, histoOf("a"), histoOf("a", []uint64{}...), histoOf("a", 0), histoOf("a", 1, 0), histoOf("a", bucketsOf(api.MaxBuckets+1)...),
		histoOf("a", bucketsOf(1000)...), histoOf("a", make([]uint64, api.MaxBuckets)...))
}

// bad are batches of a Seq that may not be, of each kind of fault, but for the Seq.
func bad(seq int) []api.Batch {
	var l []api.Batch
	for _, start := range []int64{-1, math.MinInt64, api.MaxTime + 1, math.MaxInt64} {
		l = append(l, api.Batch{Seq: seq, Start: start}, api.Batch{Seq: seq, Start: start, Rows: []api.Row{countOf("a")}})
	}
	for _, r := range badRows() {
		l = append(l, batchOf(seq, r), batchOf(seq, r, histoOf("z", 1)), batchOf(seq, countOf("0"), r), batchOf(seq, countOf("0"), r, histoOf("z", 1)))
	}
	twice := countsOf(api.MaxRows)
	twice[api.MaxRows-1] = twice[api.MaxRows-2]
	return append(l, batchOf(seq, countsOf(api.MaxRows+1)...), batchOf(seq, countsOf(2*api.MaxRows)...), batchOf(seq, twice...),
		batchOf(seq, countOf("a"), countOf("a")), batchOf(seq, histoOf("a", 1), histoOf("a", 1)), batchOf(seq, gaugeOf("a"), countOf("a")),
		batchOf(seq, countOf("b"), countOf("a")), batchOf(seq, countOf("b"), histoOf("a", 1)), batchOf(seq, countOf("k9"), countOf("k10")),
		batchOf(seq, countOf("a"), countOf("c"), countOf("b")))
}

// amiss are records that aren't the bytes of the batch with a number.
func amiss(n int) []string {
	l := []string{"\x00", "x", "\xff", "\x80", "\x00\x00", "a batch", "\x01a", strings.Repeat("\x00", 4), strings.Repeat("\xff", mostRecord), strings.Repeat("\x00", mostRecord)}
	for kind := range 8 {
		b := kindOf(n, kind)
		x := bytesOf(b)
		l = append(l, x+"\x00", x+"\x01", x+x, x[:len(x)-1], x[1:], "\x00"+x, laidOut(x))
		for _, other := range []int{n - 1, n + 1, n + 2, n + 128, n + 1<<32, -n - 1, mostSeq, mostSeq + 1} {
			if other != n {
				b.Seq = other
				l = append(l, bytesOf(b))
			}
		}
	}
	for _, b := range bad(n) {
		l = append(l, bytesOf(b))
	}
	// A number with more bytes than it takes, and one that is neither 0 nor 1.
	number := string(binary.AppendUvarint(nil, uint64(n)))
	last := len(number) - 1
	l = append(l, number[:last]+string([]byte{number[last] | 128, 0})+"\x02\x00", number+"\x82\x00\x00", number+"\x02\x80\x00",
		number+"\x02\x01\x01a\x01\x01\x00\x00\x00\x02\x00")
	return slices.DeleteFunc(l, func(x string) bool { return len(x) < 1 || len(x) > mostRecord })
}

// P21.1: a record that isn't such a batch's bytes is ErrForm itself, wherever it is, and there is no spill.
func TestOpenForm(t *testing.T) {
	for _, first := range []int{0, 2, 125, 1000} {
		for at := range 9 {
			for i, x := range amiss(first + at) {
				records := []string{}
				for n := range 9 {
					records = append(records, bytesOf(kindOf(first+n, n%6)))
				}
				records[at] = x
				d := layOut(t, laid{first, laidOut(records[:3]...)}, laid{first + 3, laidOut(records[3:6]...)}, laid{first + 6, laidOut(records[6:]...) + tails[i%len(tails)]})
				for _, many := range []int{1, 3, 100} {
					s, err := Open(d, many, 1+i%mostRoom)
					if s != nil || err != api.ErrForm {
						t.Fatalf("%s as record %d: Open = %v, %v", short(x), first+at, s, err)
					}
				}
				// What was amiss goes with its part, and the parts ahead of it are still there.
				whole := at / 3 * 3
				for part := whole; part < 9; part += 3 {
					d.Remove(first + part)
				}
				if whole == 0 {
					wantSpill(t, "without any part", openAt(t, d, 1, 1), 0)
					continue
				}
				if s := openAt(t, d, 1, 1); s.Len() != whole || s.Next() != first+whole {
					t.Fatalf("without what was amiss: Len %d, Next %d", s.Len(), s.Next())
				}
			}
		}
	}
}

// P21.1: so it is of the only record, too.
func TestOpenFormAlone(t *testing.T) {
	for _, n := range []int{0, 1, 127, 128, mostSeq - 1, mostSeq} {
		for _, x := range amiss(n) {
			if s, err := Open(layOut(t, laid{n, laidOut(x)}), 1, 1); s != nil || err != api.ErrForm {
				t.Errorf("%s as record %d alone: Open = %v, %v", short(x), n, s, err)
			}
		}
		for kind := range 8 {
			b := kindOf(n, kind)
			wantAll(t, "alone", openAt(t, layOut(t, laid{n, laidOutOf(b)}), 1, 1), n+1, b)
		}
	}
}

// P21.1: what is amiss, but torn, or in a part that doesn't count, harms nothing.
func TestOpenFormGone(t *testing.T) {
	l := mixed(4, 5)
	for _, x := range amiss(9) {
		for cut := 1; cut < len(laidOut(x)); cut += 1 + len(x)/20 {
			d := layOut(t, laid{4, laidOutOf(l[:3]...)}, laid{7, laidOutOf(l[3:]...) + laidOut(x)[:cut]})
			wantAll(t, "torn", openAt(t, d, 1, 9), 9, l...)
		}
		// Ahead of it there is a record of no bytes.
		d := layOut(t, laid{4, laidOutOf(l[:3]...) + "\x00" + laidOut(x)}, laid{7, laidOutOf(l[3:]...) + "\x00" + laidOut(x)})
		wantAll(t, "torn", openAt(t, d, 1, 9), 9, l...)
		for _, gone := range [][]int{{8}, {8, 9}, {10}, {11, 12}, {10, math.MaxInt}, {math.MaxInt}} {
			d := layOut(t, laid{4, laidOutOf(l[:3]...)}, laid{7, laidOutOf(l[3:]...)})
			for _, part := range gone {
				d.Append(part, []byte(laidOut(x, x)))
			}
			s := openAt(t, d, 1, 9)
			wantParts(t, "a part that doesn't count", d, laid{4, laidOutOf(l[:3]...)}, laid{7, laidOutOf(l[3:]...)})
			wantAll(t, "a part that doesn't count", s, 9, l...)
		}
	}
}

// P21.1, P21.2: with more records than room it opens, Len is above room, and nothing is put till there is room.
func TestOpenMoreThanRoom(t *testing.T) {
	for _, many := range []int{1, 3, 100} {
		for _, room := range []int{1, 2, 5, 9} {
			for more := range 4 {
				l := mixed(3, room+more)
				next := 3 + len(l)
				d := layOut(t, laid{3, laidOutOf(l...)})
				s := openAt(t, d, many, room)
				for i := range more + 1 {
					wantSpill(t, "more than room", s, next, l[i:]...)
					if err := s.Put(plain(next)); err != api.ErrFull {
						t.Errorf("Put of %d in a room of %d tells %v", s.Len(), room, err)
					}
					ackAll(t, s, 3+i, 1)
				}
				putAll(t, s, plain(next))
				if err := s.Put(plain(next + 1)); err != api.ErrFull {
					t.Errorf("Put of %d in a room of %d tells %v", s.Len(), room, err)
				}
				wantAll(t, "room again", s, next+1, append(l[more+1:], plain(next))...)
			}
		}
	}
	d := newDisk(t, api.MaxDisk)
	s := openAt(t, d, 100, mostRoom)
	putAll(t, s, plains(0, mostRoom)...)
	if err := s.Put(plain(mostRoom)); err != api.ErrFull {
		t.Errorf("Put of one more than there may be tells %v", err)
	}
	for _, room := range []int{1, 2, 999, 1000} {
		wantSpill(t, "opened again", openAt(t, d, 100, room), mostRoom, plains(0, mostRoom)...)
	}
	l := plains(0, 2*mostRoom)
	s = openAt(t, layOut(t, laid{0, laidOutOf(l...)}), 100, mostRoom)
	wantSpill(t, "twice as many as there may be", s, 2*mostRoom, l...)
	ackAll(t, s, 0, mostRoom)
	if err := s.Put(plain(2 * mostRoom)); err != api.ErrFull {
		t.Errorf("Put of one more than there may be tells %v", err)
	}
	ackAll(t, s, mostRoom, 1)
	putAll(t, s, plain(2*mostRoom))
	wantAll(t, "twice as many as there may be", s, 2*mostRoom+1, append(l[mostRoom+1:], plain(2*mostRoom))...)
}

// otherSeqs are numbers beside next, and far from it.
func otherSeqs(next int) []int {
	l := []int{next - 1, next + 1, next - 2, next + 2, next + 128, next + 1<<32, next - 1<<32, -next, 0, 1, mostSeq, mostSeq + 1}
	return slices.DeleteFunc(append(l, farInts[:]...), func(seq int) bool { return seq == next })
}

// wantNoPut holds that a batch isn't put, by that error itself, and that all is as it was.
func wantNoPut(t *testing.T, name string, s *Spill, b api.Batch, want error) {
	t.Helper()
	many, next := s.Len(), s.Next()
	head, x, is := s.Head()
	if err := s.Put(b); err != want {
		t.Errorf("%s: Put of Seq %d, where Next is %d, of %s tells %v, want %v", name, b.Seq, next, short(bytesOf(b)), err, want)
	}
	again, y, isAgain := s.Head()
	if s.Len() != many || s.Next() != next || is != isAgain || string(x) != string(y) || !sameBatch(head, again) {
		t.Errorf("%s: Len, Next and the head were %d, %d, %s, and are %d, %d, %s", name, many, next, short(string(x)), s.Len(), s.Next(), short(string(y)))
	}
}

// wrongBatches are those that may not be put where next is the next one.
func wrongBatches(t *testing.T, next int) []api.Batch {
	t.Helper()
	l := bad(next)
	for _, seq := range otherSeqs(next) {
		l = append(l, plain(seq), batchOf(seq, countOf("a")), sized(t, seq&mostSeq, mostRecord+1))
		l[len(l)-1].Seq = seq
	}
	tooLarge := sized(t, next, mostRecord+1)
	tooLarge.Start = -1
	return append(l, tooLarge)
}

// P21.2: ErrArg itself, for a batch that may not be, or whose Seq isn't Next, ahead of all others.
func TestPutArg(t *testing.T) {
	for _, many := range []int{1, 2, 100} {
		for _, had := range []int{0, 1, 2, 3} {
			l := mixed(0, had)
			for _, room := range []int{max(had, 1), had + 1, 1000} {
				d, s := fresh(t, many, room, l...)
				before := partsOf(t, d)
				for _, b := range wrongBatches(t, had) {
					wantNoPut(t, strconv.Itoa(had)+" in a room of "+strconv.Itoa(room), s, b, api.ErrArg)
				}
				wantParts(t, "nothing was put", d, before...)
				d.Crash(0)
				for _, b := range wrongBatches(t, had) {
					wantNoPut(t, "while the disk is down", s, b, api.ErrArg)
				}
				d.Up()
				wantParts(t, "nothing was put", d, before...)
				wantAll(t, "nothing was put", s, had, l...)
			}
			// A disk that is full.
			d := newDisk(t, max(len(laidOutOf(l...)), 1))
			s := openAt(t, d, many, 9)
			putAll(t, s, l...)
			for _, b := range wrongBatches(t, had) {
				wantNoPut(t, "on a disk that is full", s, b, api.ErrArg)
			}
		}
	}
}

// P21.2: the Seq of what was acked isn't Next either, whatever is at the head.
func TestPutArgBehindAck(t *testing.T) {
	_, s := fresh(t, 2, 5, plains(0, 4)...)
	for acked := range 5 {
		for seq := range 8 {
			if seq != 4 {
				wantNoPut(t, strconv.Itoa(acked)+" acked", s, plain(seq), api.ErrArg)
			}
		}
		if acked < 4 {
			ackAll(t, s, acked, 1)
		}
	}
	putAll(t, s, plain(4))
	wantAll(t, "put", s, 5, plain(4))
}

// P21.2: ErrFull itself, where there are as many as there is room for, ahead of what the bytes and the disk would tell.
func TestPutFull(t *testing.T) {
	for _, many := range []int{1, 2, 3, 100} {
		for _, room := range []int{1, 2, 3, 7} {
			l := mixed(0, room)
			d, s := fresh(t, many, room, l[:room-1]...)
			wantSpill(t, "one less", s, room-1, l[:room-1]...)
			putAll(t, s, l[room-1])
			before := partsOf(t, d)
			news := append([]api.Batch{sized(t, room, mostRecord), sized(t, room, mostRecord+1), sized(t, room, 9000)}, mixed(room, 1)...)
			for _, b := range news {
				wantNoPut(t, "full", s, b, api.ErrFull)
			}
			wantParts(t, "full", d, before...)
			d.Crash(0)
			for _, b := range news {
				wantNoPut(t, "full, and the disk is down", s, b, api.ErrFull)
			}
			d.Up()
			wantSpill(t, "full", s, room, l...)
			ackAll(t, s, 0, 1)
			wantNoPut(t, "room again", s, sized(t, room, mostRecord+1), api.ErrLarge)
			putAll(t, s, news[0])
			wantAll(t, "room again", s, room+1, append(slices.Clone(l[1:]), news[0])...)
		}
	}
}

// P21.2: ErrLarge itself, for more bytes than MaxRecord, and not for just as many; ahead of what the disk would tell.
func TestPutLarge(t *testing.T) {
	for _, many := range []int{1, 2, 100} {
		for _, had := range []int{0, 1, 2} {
			l := mixed(0, had)
			d, s := fresh(t, many, 10, l...)
			for _, n := range []int{mostRecord + 1, mostRecord + 2, 2 * mostRecord, 20000, 70000} {
				wantNoPut(t, "too large", s, sized(t, had, n), api.ErrLarge)
			}
			d.Crash(0)
			for _, n := range []int{mostRecord + 1, 70000} {
				wantNoPut(t, "too large, and the disk is down", s, sized(t, had, n), api.ErrLarge)
			}
			d.Up()
			for i, n := range []int{mostRecord, mostRecord - 1, mostRecord - 2, 128, 127} {
				l = append(l, sized(t, had+i, n))
				putAll(t, s, l[had+i])
			}
			wantOnDisk(t, "large", d, had+5, l...)
			wantAll(t, "large", s, had+5, l...)
			// A disk that is full.
			d = newDisk(t, 3+had)
			s = openAt(t, d, many, 10)
			wantNoPut(t, "too large, and the disk is full", s, sized(t, 0, mostRecord+1), api.ErrLarge)
			wantNoPut(t, "the disk is full", s, sized(t, 0, mostRecord), api.ErrFull)
		}
	}
}

// P21.2: the journal's error where the disk has no room for the record with its number of bytes, also where just one is missing.
func TestPutDiskFull(t *testing.T) {
	for _, n := range []int{3, 16, 127, 128, 129, mostRecord} {
		for _, many := range []int{1, 2, 3, 100} {
			for _, had := range []int{0, 1, 2, 3} {
				l := mixed(0, had)
				b := plain(had)
				if n > 3 {
					b = sized(t, had, n)
				}
				fits := len(laidOutOf(l...)) + len(laidOutOf(b))
				for _, lacks := range []int{1, 2, n, n + 1, 0, -1} {
					if fits-lacks < max(1, len(laidOutOf(l...))) {
						continue
					}
					d := newDisk(t, fits-lacks)
					s := openAt(t, d, many, 9)
					putAll(t, s, l...)
					name := strconv.Itoa(n) + " bytes, of which " + strconv.Itoa(lacks) + " have no room"
					if lacks <= 0 {
						putAll(t, s, b)
						wantOnDisk(t, name, d, had+1, append(slices.Clone(l), b)...)
						continue
					}
					before := partsOf(t, d)
					for range 3 {
						wantNoPut(t, name, s, b, api.ErrFull)
					}
					wantParts(t, name, d, before...)
					wantSynced(t, name, d, before...)
					wantOnDisk(t, name, d, had, l...)
					wantAll(t, name, s, had, l...)
				}
			}
		}
	}
}

// P21.2, P21.3: behind an Ack by which a part goes there is room on the disk again.
func TestDiskRoomAgain(t *testing.T) {
	// Each record has 4 bytes.
	d := newDisk(t, 15)
	s := openAt(t, d, 1, 9)
	putAll(t, s, plains(0, 3)...)
	wantNoPut(t, "a byte is missing", s, plain(3), api.ErrFull)
	for n := range 50 {
		ackAll(t, s, n, 1)
		putAll(t, s, plain(n+3))
		wantNoPut(t, "a byte is missing", s, plain(n+4), api.ErrFull)
		wantSpill(t, "room again", s, n+4, plains(n+1, 3)...)
		wantOnDisk(t, "room again", d, n+4, plains(n+1, 3)...)
	}
	// With two records a part it takes two Acks.
	s = openAt(t, newDisk(t, 15), 2, 9)
	putAll(t, s, plains(0, 3)...)
	ackAll(t, s, 0, 1)
	wantNoPut(t, "no part has gone", s, plain(3), api.ErrFull)
	ackAll(t, s, 1, 1)
	putAll(t, s, plains(3, 2)...)
	wantNoPut(t, "a byte is missing", s, plain(5), api.ErrFull)
	wantAll(t, "room again", s, 5, plains(2, 3)...)
	// The last part never goes: all of them are acked, and there is no room for one more.
	s = openAt(t, newDisk(t, 15), 3, 9)
	putAll(t, s, plains(0, 3)...)
	ackAll(t, s, 0, 3)
	wantNoPut(t, "the last part stays", s, plain(3), api.ErrFull)
	wantSpill(t, "the last part stays", s, 3)
}

// P21.2: the journal's error where the disk is down; behind it comes up again all goes on.
func TestPutDown(t *testing.T) {
	for _, many := range []int{1, 2, 3, 100} {
		for had := range 5 {
			for acked := range had + 1 {
				l := mixed(0, had)
				d, s := fresh(t, many, 9, l...)
				ackAll(t, s, 0, acked)
				before := partsOf(t, d)
				d.Crash(acked)
				for range 3 {
					for kind := range 8 {
						wantNoPut(t, "the disk is down", s, kindOf(had, kind), api.ErrGone)
					}
				}
				wantSpill(t, "the disk is down", s, had, l[acked:]...)
				d.Up()
				wantParts(t, "up again", d, before...)
				wantSpill(t, "up again", s, had, l[acked:]...)
				news := mixed(had, 3)
				putAll(t, s, news...)
				wantOnDiskBehind(t, "up again", d, had+3, append(l, news...)...)
				wantAll(t, "up again", s, had+3, append(l, news...)[acked:]...)
			}
		}
	}
}

// wantOnDiskBehind holds that a disk has the last ones of these batches, from any one on.
func wantOnDiskBehind(t *testing.T, name string, d *disk.Disk, next int, all ...api.Batch) {
	t.Helper()
	first := d.Parts()[0] - (next - len(all))
	wantOnDisk(t, name, d, next, all[first:]...)
}

// P21.2: what was put is synced: a crash takes nothing of it.
func TestPutSynced(t *testing.T) {
	for _, many := range []int{1, 2, 3, 7, 100} {
		d := newDisk(t, api.MaxDisk)
		s := openAt(t, d, many, 1000)
		l := mixed(0, 30)
		var want []laid
		for n, b := range l {
			putAll(t, s, b)
			if n%many == 0 {
				want = append(want, laid{n, ""})
			}
			want[len(want)-1].bytes += laidOutOf(b)
			name := "many " + strconv.Itoa(many) + ", behind " + strconv.Itoa(n)
			wantParts(t, name, d, want...)
			wantSynced(t, name, d, want...)
			wantSpill(t, name, s, n+1, l[:n+1]...)
		}
		d.Crash(0)
		wantAll(t, "opened again", openAt(t, d, many, 30), 30, l...)
	}
}

// P21.2: the head is none, of one, of several; it stays till it is acked, and is told as it was put, with its bytes.
func TestHead(t *testing.T) {
	for _, many := range []int{1, 2, 3, 100} {
		l := mixed(0, 17)
		d, s := fresh(t, many, 100)
		for range 3 {
			wantSpill(t, "none", s, 0)
		}
		for n, b := range l {
			putAll(t, s, b)
			for range 3 {
				wantSpill(t, "several", s, n+1, l[:n+1]...)
			}
		}
		for n := range l {
			for range 3 {
				wantSpill(t, "acked", s, 17, l[n:]...)
			}
			d.Crash(0)
			wantSpill(t, "the disk is down", s, 17, l[n:]...)
			d.Up()
			ackAll(t, s, n, 1)
		}
		for range 3 {
			wantSpill(t, "all acked", s, 17)
		}
		for n := range 8 {
			putAll(t, s, kindOf(17+n, n))
			wantSpill(t, "one", s, 18+n, kindOf(17+n, n))
			ackAll(t, s, 17+n, 1)
			wantSpill(t, "none again", s, 18+n)
		}
	}
}

// P21.2: some heads' bytes, written out.
func TestHeadBytes(t *testing.T) {
	l := []api.Batch{
		{}, {Seq: 1, Start: 2}, {Seq: 2, Start: 300, Rows: []api.Row{}},
		{Seq: 3, Start: 20, Rows: []api.Row{
			{Key: "a", Kind: api.Count, Many: 2, Sum: 5, Least: 2, Most: 3},
			{Key: "a", Kind: api.Histo, Many: 1, Sum: -1, Least: -1, Most: -1, Over: true, Buckets: []uint64{0, 1}},
		}},
	}
	_, s := fresh(t, 3, 4, l...)
	for n, want := range []string{
		"\x00\x00\x00", "\x01\x02\x00", "\x02\xac\x02\x00",
		"\x03\x14\x02" + "\x01a\x01\x02\x0a\x04\x06\x00\x00" + "\x01a\x03\x01\x01\x01\x01\x01\x02\x00\x01",
	} {
		b, x, is := s.Head()
		if !is || string(x) != want || !sameBatch(b, l[n]) {
			t.Errorf("Head = %v, %q, %v, want %q", b, x, is, want)
		}
		ackAll(t, s, n, 1)
	}
}

// P21.3: ErrState itself, where there is no batch at the head, or seq isn't its; all is as it was then.
func TestAckState(t *testing.T) {
	wrong := func(name string, d *disk.Disk, s *Spill, next int, l ...api.Batch) {
		t.Helper()
		before := partsOf(t, d)
		for _, seq := range otherSeqs(next - len(l)) {
			if err := s.Ack(seq); err != api.ErrState {
				t.Errorf("%s: Ack(%d) tells %v", name, seq, err)
			}
		}
		if len(l) == 0 {
			for _, seq := range []int{next, next - 1} {
				if err := s.Ack(seq); err != api.ErrState {
					t.Errorf("%s: Ack(%d) of none tells %v", name, seq, err)
				}
			}
		}
		wantParts(t, name, d, before...)
		wantSpill(t, name, s, next, l...)
		d.Crash(0)
		if err := s.Ack(next - len(l) + 1); err != api.ErrState {
			t.Errorf("%s: Ack while the disk is down tells %v", name, err)
		}
		d.Up()
	}
	for _, many := range []int{1, 2, 100} {
		for had := range 5 {
			l := mixed(0, had)
			d, s := fresh(t, many, 9, l...)
			for acked := range had {
				wrong("before an Ack", d, s, had, l[acked:]...)
				ackAll(t, s, acked, 1)
			}
			wrong("of none", d, s, had)
			putAll(t, s, plain(had))
			wrong("put again", d, s, had+1, plain(had))
		}
	}
}

// partsLeft are the parts that are left where all below head are trimmed, of so many records a part.
func partsLeft(l []api.Batch, many, head int) []laid {
	var parts []laid
	for n := 0; n < len(l); n += many {
		end := min(n+many, len(l))
		if end > head || end == len(l) {
			parts = append(parts, laid{n, laidOutOf(l[n:end]...)})
		}
	}
	return parts
}

// P21.3: the head is the next one, Len less by one, Next as it was; parts go whose records are all below the head, but for the last one.
func TestAck(t *testing.T) {
	for _, many := range []int{1, 2, 3, 7, 100} {
		for had := 1; had <= 25; had++ {
			l := mixed(0, had)
			d, s := fresh(t, many, 100, l...)
			for n := range l {
				name := "many " + strconv.Itoa(many) + ", of " + strconv.Itoa(had) + ", behind " + strconv.Itoa(n)
				wantParts(t, name, d, partsLeft(l, many, n)...)
				wantSpill(t, name, s, had, l[n:]...)
				ackAll(t, s, n, 1)
			}
			wantParts(t, "all acked", d, partsLeft(l, many, had)...)
			wantSynced(t, "all acked", d, partsLeft(l, many, had)...)
			wantSpill(t, "all acked", s, had)
			putAll(t, s, plain(had))
			wantAll(t, "put again", s, had+1, plain(had))
		}
	}
}

// P21.3: parts that were there at Open, with other numbers of records than many, go as those that were put.
func TestAckOpened(t *testing.T) {
	l := mixed(5, 12)
	for _, many := range []int{1, 2, 3, 100} {
		parts := []laid{{5, laidOutOf(l[:3]...)}, {8, laidOutOf(l[3:4]...)}, {9, laidOutOf(l[4:9]...)}, {14, laidOutOf(l[9:12]...)}}
		d := layOut(t, parts...)
		s := openAt(t, d, many, 100)
		for i, gone := range []int{0, 0, 0, 1, 2, 2, 2, 2, 2, 3, 3, 3} {
			wantParts(t, "behind "+strconv.Itoa(i), d, parts[gone:]...)
			wantSpill(t, "behind "+strconv.Itoa(i), s, 17, l[i:]...)
			ackAll(t, s, 5+i, 1)
		}
		wantParts(t, "all acked", d, parts[3])
		wantSpill(t, "all acked", s, 17)
	}
}

// P21.3: where the disk is down, and a part is to go, it is the disk's error; the head is the next one, and parts go by a later Ack.
func TestAckDown(t *testing.T) {
	for _, many := range []int{1, 2, 3, 100} {
		for had := 1; had <= 9; had++ {
			for from := range had {
				for acks := 1; from+acks <= had; acks++ {
					wantAckDown(t, many, had, from, acks)
				}
			}
		}
	}
}

// wantAckDown acks so many from one on while the disk is down, and all others behind it is up again.
func wantAckDown(t *testing.T, many, had, from, acks int) {
	t.Helper()
	l := mixed(0, had)
	d, s := fresh(t, many, 11, l...)
	ackAll(t, s, 0, from)
	before := partsOf(t, d)
	d.Crash(0)
	name := "many " + strconv.Itoa(many) + " of " + strconv.Itoa(had) + ", down behind " + strconv.Itoa(from)
	for n := from; n < from+acks; n++ {
		var want error
		if len(partsLeft(l, many, n+1)) < len(before) {
			want = api.ErrGone
		}
		if err := s.Ack(n); err != want {
			t.Errorf("%s: Ack(%d) tells %v, want %v", name, n, err, want)
		}
		wantSpill(t, name, s, had, l[n+1:]...)
		if err := s.Ack(n); err != api.ErrState {
			t.Errorf("%s: Ack(%d) again tells %v", name, n, err)
		}
	}
	d.Up()
	wantParts(t, name+", up again", d, before...)
	wantSpill(t, name+", up again", s, had, l[from+acks:]...)
	wantOnDiskBehind(t, name+", up again", d, had, l...)
	news := mixed(had, 2)
	putAll(t, s, news...)
	l = append(l, news...)
	for n := from + acks; n < had+2; n++ {
		wantSpill(t, name+", acked on", s, had+2, l[n:]...)
		ackAll(t, s, n, 1)
		wantParts(t, name+", acked on", d, partsLeft(l, many, n+1)...)
	}
	wantSpill(t, name+", all acked", s, had+2)
}

// P21.3, by hand: with a record a part each Ack is to let a part go; those that didn't go are let go together.
func TestAckDownByHand(t *testing.T) {
	d, s := fresh(t, 1, 9, plains(0, 3)...)
	d.Crash(0)
	for i, step := range []struct {
		seq  int
		want error
		left int
	}{{0, api.ErrGone, 2}, {0, api.ErrState, 2}, {1, api.ErrGone, 1}, {2, api.ErrGone, 0}, {2, api.ErrState, 0}, {3, api.ErrState, 0}} {
		if err := s.Ack(step.seq); err != step.want || s.Len() != step.left || s.Next() != 3 {
			t.Errorf("step %d: Ack(%d) tells %v, Len %d", i, step.seq, err, s.Len())
		}
	}
	wantNoPut(t, "down", s, plain(3), api.ErrGone)
	d.Up()
	wantParts(t, "up again", d, laid{0, "\x03\x00\x00\x00"}, laid{1, "\x03\x01\x00\x00"}, laid{2, "\x03\x02\x00\x00"})
	putAll(t, s, plain(3))
	ackAll(t, s, 3, 1)
	wantParts(t, "acked on", d, laid{3, "\x03\x03\x00\x00"})
}

// P21.2, P21.3: the journal's error is told also where others took a part of the disk away.
func TestTakenAway(t *testing.T) {
	d, s := fresh(t, 1, 9, plains(0, 3)...)
	d.Remove(0)
	if err := s.Ack(0); err != api.ErrNone || s.Len() != 2 || s.Next() != 3 {
		t.Errorf("Ack tells %v, Len %d, Next %d", err, s.Len(), s.Next())
	}
	wantSpill(t, "a part is missing", s, 3, plains(1, 2)...)
	d.Remove(2)
	wantNoPut(t, "the last part is missing", s, plain(3), api.ErrNone)
	wantSpill(t, "the last part is missing", s, 3, plains(1, 2)...)
	d.Append(0, nil)
	d.Append(2, []byte(laidOutOf(plain(2))))
	putAll(t, s, plain(3))
	ackAll(t, s, 1, 1)
	wantParts(t, "they are there again", d, laid{2, laidOutOf(plain(2))}, laid{3, laidOutOf(plain(3))})
}

// P21.2, P21.3: behind an Ack there is room again, up to as many as there is room for.
func TestRoomAgain(t *testing.T) {
	for _, many := range []int{1, 2, 3, 100} {
		for _, room := range []int{1, 2, 3, 8} {
			l := mixed(0, room)
			d, s := fresh(t, many, room, l...)
			for acks := 1; acks <= room; acks++ {
				for range 3 {
					wantNoPut(t, "full", s, plain(len(l)), api.ErrFull)
					ackAll(t, s, len(l)-room, acks)
					news := mixed(len(l), acks)
					putAll(t, s, news...)
					l = append(l, news...)
					wantSpill(t, "full again", s, len(l), l[len(l)-room:]...)
				}
			}
			wantNoPut(t, "full", s, plain(len(l)), api.ErrFull)
			wantOnDiskBehind(t, "full", d, len(l), l...)
			wantAll(t, "full", s, len(l), l[len(l)-room:]...)
			wantOnDiskBehind(t, "all acked", d, len(l), l...)
		}
	}
}

// span is where a piece of memory lies.
type span struct{ first, end uintptr }

func spanOf[T any](l []T) span {
	first := uintptr(unsafe.Pointer(unsafe.SliceData(l)))
	var x T
	return span{first, first + uintptr(cap(l))*unsafe.Sizeof(x)}
}

// spansOf is the memory of a batch and of bytes, with the room behind them.
func spansOf(b api.Batch, x []byte) []span {
	l := []span{spanOf(b.Rows), spanOf(x)}
	for _, r := range b.Rows {
		l = append(l, spanOf(r.Buckets))
		// Go has one memory for all texts of one byte.
		if len(r.Key) > 1 {
			l = append(l, spanOf(unsafe.Slice(unsafe.StringData(r.Key), len(r.Key))))
		}
	}
	return slices.DeleteFunc(l, func(s span) bool { return s.first == s.end })
}

// wantApart holds that no two pieces share memory.
func wantApart(t *testing.T, name string, l []span) {
	t.Helper()
	slices.SortFunc(l, func(a, b span) int {
		if a.first < b.first {
			return -1
		}
		return 1
	})
	for i := 1; i < len(l); i++ {
		if l[i].first < l[i-1].end {
			t.Errorf("%s: two pieces share memory", name)
			return
		}
	}
}

// scribble turns all that a batch and bytes can be turned in, with the room behind them.
func scribble(b api.Batch, x []byte) {
	for _, r := range b.Rows {
		buckets := r.Buckets[:cap(r.Buckets)]
		for i := range buckets {
			buckets[i] = 77
		}
	}
	rows := b.Rows[:cap(b.Rows)]
	for i := range rows {
		rows[i] = api.Row{Key: "turned", Kind: 9, Buckets: []uint64{9}}
	}
	x = x[:cap(x)]
	for i := range x {
		x[i] = 0xee
	}
}

// handed is a batch with room behind its rows and their buckets, whose keys are bytes that may be written over.
type handed struct {
	batch api.Batch
	keys  [][]byte
}

func handOut(b api.Batch) handed {
	h := handed{batch: b}
	h.batch.Rows = make([]api.Row, len(b.Rows), len(b.Rows)+3)
	copy(h.batch.Rows, b.Rows)
	for i, r := range b.Rows {
		key := []byte(r.Key)
		h.keys = append(h.keys, key)
		if len(key) > 0 {
			h.batch.Rows[i].Key = unsafe.String(&key[0], len(key))
		}
		buckets := make([]uint64, len(r.Buckets), len(r.Buckets)+2)
		copy(buckets, r.Buckets)
		clear(buckets[len(buckets):cap(buckets)])
		h.batch.Rows[i].Buckets = buckets
	}
	return h
}

// turn writes over all of it.
func (h handed) turn() {
	for _, key := range h.keys {
		for i := range key {
			key[i] = 'Z'
		}
	}
	scribble(h.batch, nil)
}

// wantUntouched holds that a batch that was handed in reads as ahead of it, with the room behind it.
func (h handed) wantUntouched(t *testing.T, want api.Batch) {
	t.Helper()
	if !sameBatch(h.batch, want) {
		t.Errorf("what was handed in is %s now, want %s", short(bytesOf(h.batch)), short(bytesOf(want)))
	}
	for _, r := range h.batch.Rows[len(h.batch.Rows):cap(h.batch.Rows)] {
		if !reflect.DeepEqual(r, api.Row{}) {
			t.Errorf("behind the rows that were handed in is %v now", r)
		}
	}
	for _, r := range h.batch.Rows {
		for _, n := range r.Buckets[len(r.Buckets):cap(r.Buckets)] {
			if n != 0 {
				t.Errorf("behind the buckets that were handed in is %d now", n)
			}
		}
	}
}

// P21.4: a batch that is put reads as ahead of it, and turning it afterwards turns nothing.
func TestHandedInIsNotKept(t *testing.T) {
	for _, many := range []int{1, 2, 100} {
		l := mixed(0, 16)
		d := newDisk(t, api.MaxDisk)
		s := openAt(t, d, many, 100)
		for _, b := range l {
			h := handOut(b)
			putAll(t, s, h.batch)
			h.wantUntouched(t, b)
			h.turn()
		}
		wantOnDisk(t, "written over", d, 16, l...)
		wantAll(t, "written over", s, 16, l...)
	}
}

// P21.4: so is one that is refused.
func TestRefusedIsNotKept(t *testing.T) {
	refused := func(name string, s *Spill, b api.Batch, want error) {
		t.Helper()
		h := handOut(b)
		if err := s.Put(h.batch); err != want {
			t.Errorf("%s: Put tells %v, want %v", name, err, want)
		}
		h.wantUntouched(t, b)
		h.turn()
	}
	l := mixed(0, 5)
	d, s := fresh(t, 2, 6, l...)
	for _, b := range bad(5) {
		refused("it may not be", s, b, api.ErrArg)
	}
	refused("another Seq", s, kindOf(4, 4), api.ErrArg)
	refused("large", s, sized(t, 5, mostRecord+1), api.ErrLarge)
	d.Crash(0)
	refused("down", s, kindOf(5, 4), api.ErrGone)
	d.Up()
	wantOnDisk(t, "refused", d, 5, l...)
	putAll(t, s, kindOf(5, 7))
	refused("full", s, kindOf(6, 4), api.ErrFull)
	wantAll(t, "refused", s, 6, append(l, kindOf(5, 7))...)
}

// P21.4: what is told is new memory: turning it turns neither the spill nor what is told again, and no two pieces of it share any.
func TestToldIsNew(t *testing.T) {
	l := mixed(0, 16)
	for _, again := range []bool{false, true} {
		d, s := fresh(t, 3, 100, l...)
		if again {
			s = openAt(t, d, 3, 100)
		}
		for n, b := range l {
			first, x, _ := s.Head()
			second, y, _ := s.Head()
			wantApart(t, "two heads", append(spansOf(first, x), spansOf(second, y)...))
			scribble(first, x)
			if !sameBatch(second, b) || string(y) != bytesOf(b) {
				t.Errorf("with the one the other was turned, too: %s, %s", short(bytesOf(second)), short(string(y)))
			}
			wantSpill(t, "turned", s, 16, l[n:]...)
			scribble(second, y)
			wantSpill(t, "turned", s, 16, l[n:]...)
			wantOnDiskBehind(t, "turned", d, 16, l...)
			ackAll(t, s, n, 1)
		}
	}
}

// P21.4: the bytes that are told and the batch beside them share nothing.
func TestToldApart(t *testing.T) {
	for kind := range 8 {
		_, s := fresh(t, 1, 9, kindOf(0, kind))
		b, x, _ := s.Head()
		scribble(api.Batch{}, x)
		if !sameBatch(b, kindOf(0, kind)) {
			t.Errorf("with its bytes the batch was turned: %s", short(bytesOf(b)))
		}
		b, x, _ = s.Head()
		scribble(b, nil)
		if string(x) != bytesOf(kindOf(0, kind)) {
			t.Errorf("with the batch its bytes were turned: %s", short(string(x)))
		}
	}
}

// P21.4: what was told stays as it was, whatever comes then.
func TestToldStays(t *testing.T) {
	l := mixed(0, 8)
	d, s := fresh(t, 1, 9, l...)
	var told []api.Batch
	var bytesTold [][]byte
	for n := range l {
		b, x, _ := s.Head()
		told, bytesTold = append(told, b), append(bytesTold, x)
		ackAll(t, s, n, 1)
	}
	putAll(t, s, mixed(8, 8)...)
	ackAll(t, s, 8, 8)
	d.Crash(0)
	openAt(t, d, 1, 9)
	for n, b := range l {
		if !sameBatch(told[n], b) || string(bytesTold[n]) != bytesOf(b) {
			t.Errorf("what was told is %s and %s now, want %s", short(bytesOf(told[n])), short(string(bytesTold[n])), short(bytesOf(b)))
		}
	}
}

// P21.4: what is told may be put elsewhere as it is.
func TestToldIsPut(t *testing.T) {
	l := mixed(0, 16)
	_, s := fresh(t, 2, 100, l...)
	d := newDisk(t, api.MaxDisk)
	other := openAt(t, d, 3, 100)
	for n := range l {
		b, x, _ := s.Head()
		putAll(t, other, b)
		scribble(b, x)
		ackAll(t, s, n, 1)
	}
	wantOnDisk(t, "put elsewhere", d, 16, l...)
	wantAll(t, "put elsewhere", other, 16, l...)
}

// P21.4: Len, Next and Head turn nothing, neither on the disk nor in the spill, however often they are asked.
func TestAskingTurnsNothing(t *testing.T) {
	for had := range 4 {
		l := mixed(0, had)
		d, s := fresh(t, 2, 3, l...)
		d.Append(50, []byte("\x01other"))
		before := partsOf(t, d)
		for range 20 {
			wantSpill(t, "asked", s, had, l...)
		}
		wantParts(t, "asked", d, before...)
		wantSynced(t, "asked", d, slices.Concat(before[:len(before)-1], []laid{{50, ""}})...)
	}
}

// Spills on disks of their own know nothing of each other.
func TestSpillsApart(t *testing.T) {
	l := mixed(0, 6)
	dOne, one := fresh(t, 2, 6, l...)
	dOther, other := fresh(t, 1, 3, plains(0, 2)...)
	ackAll(t, one, 0, 3)
	wantSpill(t, "the other", other, 2, plains(0, 2)...)
	dOther.Crash(0)
	putAll(t, one, plain(6))
	wantNoPut(t, "the other", other, plain(2), api.ErrGone)
	dOther.Up()
	dOne.Crash(0)
	putAll(t, other, plain(2))
	wantNoPut(t, "the other", other, plain(3), api.ErrFull)
	wantNoPut(t, "the one", one, plain(7), api.ErrGone)
	dOne.Up()
	wantAll(t, "the other", other, 3, plains(0, 3)...)
	wantAll(t, "the one", one, 7, append(l[3:], plain(6))...)
}

// P21.5: behind a crash, with any number of bytes that stay, all is there that was put, and wasn't trimmed; it goes on from there.
func TestOpenedAgain(t *testing.T) {
	for _, many := range []int{1, 2, 3, 100} {
		for had := range 8 {
			for acked := range had + 1 {
				for _, keep := range []int{math.MinInt, -1, 0, 1, 2, 5, 1000, math.MaxInt} {
					l := mixed(0, had)
					d, s := fresh(t, many, 9, l...)
					ackAll(t, s, 0, acked)
					first := 0
					if had > 0 {
						first = partsLeft(l, many, acked)[0].part
					}
					d.Crash(keep)
					name := "many " + strconv.Itoa(many) + ", " + strconv.Itoa(acked) + " of " + strconv.Itoa(had) + " acked"
					s = openAt(t, d, 1+(many+had)%100, 9)
					wantSpill(t, name, s, had, l[first:]...)
					if first > acked {
						t.Errorf("%s: the head went on to %d", name, first)
					}
					putAll(t, s, kindOf(had, 3))
					wantAll(t, name, s, had+1, append(l[first:], kindOf(had, 3))...)
				}
			}
		}
	}
}

// P21.5: opened again and again, without anything between, it is always the same.
func TestOpenedOften(t *testing.T) {
	l := mixed(0, 7)
	d, s := fresh(t, 3, 9, l...)
	ackAll(t, s, 0, 4)
	for i := range 20 {
		if i%3 == 0 {
			d.Crash(i)
		}
		wantSpill(t, "opened again", openAt(t, d, 1+i*5, 1+i*50), 7, l[3:]...)
		wantParts(t, "opened again", d, partsLeft(l, 3, 4)...)
	}
	// The old one is no worse for it.
	wantAll(t, "the old one", s, 7, l[4:]...)
}

// byWords is a spill by the chapter's words, with all that is on its disk: its records, all of which are synced.
type byWords struct {
	many, room int
	space      int // the disk's
	others     int // bytes on the disk that aren't the spill's
	down       bool
	parts      []wordPart
	head       int
}

type wordPart struct {
	number  int
	batches []api.Batch
}

func (w *byWords) Next() int {
	next := 0
	for _, p := range w.parts {
		next = p.number + len(p.batches)
	}
	return next
}

func (w *byWords) Len() int { return w.Next() - w.head }

func (w *byWords) used() int {
	used := w.others
	for _, p := range w.laid() {
		used += len(p.bytes)
	}
	return used
}

// laid is what the disk has of it.
func (w *byWords) laid() []laid {
	var l []laid
	for _, p := range w.parts {
		l = append(l, laid{p.number, laidOutOf(p.batches...)})
	}
	return l
}

// openAgain lets the disk come up; what others wrote goes.
func (w *byWords) openAgain(many, room int) {
	w.many, w.room, w.down, w.others, w.head = many, room, false, 0, 0
	for _, p := range w.parts {
		w.head = p.number
		break
	}
}

func (w *byWords) Put(b api.Batch) error {
	size := len(bytesOf(b))
	switch {
	case !batch.May(b) || b.Seq != w.Next():
		return api.ErrArg
	case w.Len() >= w.room:
		return api.ErrFull
	case size > mostRecord:
		return api.ErrLarge
	case w.down:
		return api.ErrGone
	case w.used()+len(laidOutOf(b)) > w.space:
		return api.ErrFull
	}
	last := len(w.parts) - 1
	if last < 0 || len(w.parts[last].batches) >= w.many {
		w.parts = append(w.parts, wordPart{number: w.Next()})
		last++
	}
	w.parts[last].batches = append(w.parts[last].batches, copyOf(b))
	return nil
}

func (w *byWords) Head() (api.Batch, []byte, bool) {
	for _, p := range w.parts {
		for i, b := range p.batches {
			if p.number+i == w.head {
				return b, []byte(bytesOf(b)), true
			}
		}
	}
	return api.Batch{}, nil, false
}

func (w *byWords) Ack(seq int) error {
	if w.Len() == 0 || seq != w.head {
		return api.ErrState
	}
	w.head++
	for len(w.parts) > 1 && w.parts[0].number+len(w.parts[0].batches) <= w.head {
		if w.down {
			return api.ErrGone
		}
		w.parts = w.parts[1:]
	}
	return nil
}

// spilling is a spill, or the words' one.
type spilling interface {
	Put(b api.Batch) error
	Head() (api.Batch, []byte, bool)
	Ack(seq int) error
	Len() int
	Next() int
}

// wantAlike holds that both spills tell the same.
func wantAlike(t *testing.T, name string, s, w spilling) {
	t.Helper()
	if s.Len() != w.Len() || s.Next() != w.Next() {
		t.Fatalf("%s: Len %d, Next %d, want %d, %d", name, s.Len(), s.Next(), w.Len(), w.Next())
	}
	b, x, is := s.Head()
	want, bytesWanted, isWanted := w.Head()
	if is != isWanted || !bytes.Equal(x, bytesWanted) || !sameBatch(b, want) {
		t.Fatalf("%s: Head = %s of %s, %v, want %s, %v", name, short(bytesOf(b)), short(string(x)), is, short(string(bytesWanted)), isWanted)
	}
}

// both are a spill on a disk, and the words' one.
type both struct {
	d *disk.Disk
	s *Spill
	w *byWords
}

func bothAt(t *testing.T, space, many, room int) *both {
	t.Helper()
	d := newDisk(t, space)
	x := &both{d: d, s: openAt(t, d, many, room), w: &byWords{space: space}}
	x.w.openAgain(many, room)
	return x
}

func (x *both) put(t *testing.T, name string, b api.Batch) {
	t.Helper()
	if got, want := x.s.Put(b), x.w.Put(b); got != want {
		t.Fatalf("%s: Put of Seq %d, %s, tells %v, want %v", name, b.Seq, short(bytesOf(b)), got, want)
	}
}

func (x *both) ack(t *testing.T, name string, seq int) {
	t.Helper()
	if got, want := x.s.Ack(seq), x.w.Ack(seq); got != want {
		t.Fatalf("%s: Ack(%d) tells %v, want %v", name, seq, got, want)
	}
}

func (x *both) crash(keep int) {
	x.d.Crash(keep)
	x.w.down = true
}

func (x *both) up() {
	x.d.Up()
	x.w.down = false
}

// openAgain opens it again, and holds what P21.5 says, beside what the words' one tells.
func (x *both) openAgain(t *testing.T, name string, many, room int) {
	t.Helper()
	next, head := x.w.Next(), x.w.head
	x.s = openAt(t, x.d, many, room)
	x.w.openAgain(many, room)
	if x.s.Next() != next || x.s.Next()-x.s.Len() > head {
		t.Fatalf("%s: opened again Next is %d, Len %d; it was %d, its head at %d", name, x.s.Next(), x.s.Len(), next, head)
	}
	if got := partsOf(t, x.d); !slices.Equal(got, x.w.laid()) {
		t.Fatalf("%s: opened again the disk has%s, want%s", name, shortParts(got), shortParts(x.w.laid()))
	}
}

// wantAlikeAll holds them against each other to the end, one batch behind the other.
func (x *both) wantAlikeAll(t *testing.T, name string) {
	t.Helper()
	x.up()
	wantAlike(t, name, x.s, x.w)
	for x.w.Len() > 0 {
		x.ack(t, name, x.w.head)
		wantAlike(t, name, x.s, x.w)
	}
}

// P21.1 to P21.3, P21.5: all lists of five of a few deeds, asked behind each of them or at the end only.
func TestAllShortLists(t *testing.T) {
	deeds := []func(t *testing.T, x *both, name string){
		func(t *testing.T, x *both, name string) { x.put(t, name, plain(x.w.Next())) },
		func(t *testing.T, x *both, name string) { x.put(t, name, kindOf(x.w.Next(), 1)) },
		func(t *testing.T, x *both, name string) { x.ack(t, name, x.w.head) },
		func(t *testing.T, x *both, name string) {
			x.put(t, name, plain(x.w.Next()-1))
			x.ack(t, name, x.w.head+1)
			x.crash(0)
		},
		func(t *testing.T, x *both, name string) { x.up() },
		func(t *testing.T, x *both, name string) { x.openAgain(t, name, x.w.many, x.w.room) },
	}
	for _, space := range []int{11, 12, 30, 1000} {
		for many := 1; many <= 3; many++ {
			for list := range 6 * 6 * 6 * 6 * 6 {
				asked, unasked := bothAt(t, space, many, 1+list%4), bothAt(t, space, many, 1+list%4)
				name := "list " + strconv.Itoa(list) + ", many " + strconv.Itoa(many) + ", space " + strconv.Itoa(space)
				for left := list; left > 0; left /= 6 {
					deeds[left%6](t, asked, name)
					wantAlike(t, name, asked.s, asked.w)
					deeds[left%6](t, unasked, name)
				}
				asked.wantAlikeAll(t, name)
				unasked.wantAlikeAll(t, name)
			}
		}
	}
}

// anyBatch is one that may be, of any size.
func anyBatch(t *testing.T, r *rand.Rand, seq, space int) api.Batch {
	t.Helper()
	if r.Intn(12) == 0 && space > mostRecord {
		return sized(t, seq, mostRecord-2+r.Intn(5))
	}
	b := api.Batch{Seq: seq, Start: r.Int63n(api.MaxTime + 1)}
	for _, key := range []string{"a", "a,b=1", "b", "cpu,host=x"} {
		for kind := api.Count; kind <= api.Histo; kind++ {
			if r.Intn(8) > 0 {
				continue
			}
			row := api.Row{Key: key, Kind: kind, Many: 1 + uint64(r.Intn(300)), Sum: r.Int63() >> r.Intn(64), Least: -int64(r.Intn(200)), Most: int64(r.Intn(200)), Over: r.Intn(2) == 0}
			if kind == api.Histo {
				row.Buckets = append(bucketsOf(1+r.Intn(5)), 1+r.Uint64()>>1)
			}
			b.Rows = append(b.Rows, row)
		}
	}
	return b
}

// anyPut puts one: the next one, or, now and then, one that isn't, or may not be.
func (x *both) anyPut(t *testing.T, r *rand.Rand, name string) {
	t.Helper()
	next := x.w.Next()
	switch r.Intn(8) {
	case 0:
		l := otherSeqs(next)
		next = l[r.Intn(len(l))]
		x.put(t, name, batchOf(next, countOf("a")))
	case 1:
		l := bad(next)
		x.put(t, name, l[r.Intn(len(l))])
	default:
		h := handOut(anyBatch(t, r, next, x.w.space))
		x.put(t, name, h.batch)
		h.turn()
	}
}

func (x *both) anyAck(t *testing.T, r *rand.Rand, name string) {
	t.Helper()
	seq := x.w.head
	if l := otherSeqs(seq); r.Intn(6) == 0 {
		seq = l[r.Intn(len(l))]
	}
	x.ack(t, name, seq)
}

// anyOther writes what isn't the spill's to the disk, if it is up: to a part that doesn't count, for there is one ahead of it.
func (x *both) anyOther(r *rand.Rand) {
	if len(x.w.parts) == 0 {
		return
	}
	junk := make([]byte, r.Intn(20))
	if x.d.Append(1<<40+r.Intn(2), junk) == nil {
		x.w.others += len(junk)
	}
}

// anyOpening lets it crash, or not, tears something behind the last part, or not, and opens it again.
func (x *both) anyOpening(t *testing.T, r *rand.Rand, name string) {
	t.Helper()
	if last := len(x.w.parts) - 1; last >= 0 && r.Intn(2) == 0 {
		x.d.Append(x.w.parts[last].number, []byte(tails[r.Intn(len(tails))]))
	}
	if r.Intn(4) > 0 {
		x.crash(r.Intn(12) - 2)
	}
	x.openAgain(t, name, 1+r.Intn(4)*r.Intn(30), 1+r.Intn(6)*r.Intn(10))
}

// P21.1 to P21.5: puts, acks, crashes and openings at random come to what the words say, on disks with much and with little room.
func TestAtRandom(t *testing.T) {
	r := rand.New(rand.NewSource(21))
	for round := range 1500 {
		space := []int{1 + r.Intn(20), 20 + r.Intn(300), 2000, 20000, api.MaxDisk}[r.Intn(5)]
		x := bothAt(t, space, 1+r.Intn(4), 1+r.Intn(9))
		for step := range r.Intn(60) {
			name := "round " + strconv.Itoa(round) + ", step " + strconv.Itoa(step)
			switch n := r.Intn(20); {
			case n < 9:
				x.anyPut(t, r, name)
			case n < 15:
				x.anyAck(t, r, name)
			case n < 16:
				x.anyOther(r)
			case n < 17:
				x.crash(r.Intn(12) - 2)
			case n < 18:
				x.up()
			default:
				x.anyOpening(t, r, name)
			}
			if round%2 == 0 {
				wantAlike(t, name, x.s, x.w)
			}
			if x.w.down {
				continue
			}
			if got := partsOfSpill(t, x.d); !slices.Equal(got, x.w.laid()) {
				t.Fatalf("%s: the disk has%s, want%s", name, shortParts(got), shortParts(x.w.laid()))
			}
		}
		x.wantAlikeAll(t, "round "+strconv.Itoa(round))
	}
}

// partsOfSpill are a disk's parts, but for those that others began.
func partsOfSpill(t *testing.T, d *disk.Disk) []laid {
	t.Helper()
	return slices.DeleteFunc(partsOf(t, d), func(p laid) bool { return p.part >= 1<<40 })
}

// P21.5: whatever is acked, and whenever it crashes, each batch is told in order, with the bytes that it had at first.
func TestSentInOrder(t *testing.T) {
	r := rand.New(rand.NewSource(215))
	for range 200 {
		many, room := 1+r.Intn(5), 1+r.Intn(12)
		d := newDisk(t, 300+r.Intn(3000))
		s := openAt(t, d, many, room)
		var had []string // bytes of what was put, by Seq
		sent := 0        // all below are acked
		for range 120 {
			switch r.Intn(8) {
			case 0, 1, 2, 3:
				b := anyBatch(t, r, len(had), 100)
				if s.Put(b) == nil {
					had = append(had, bytesOf(b))
				}
			case 4:
				d.Crash(r.Intn(50) - 1)
				s = openAt(t, d, many, room)
			default:
				b, x, is := s.Head()
				if !is {
					if s.Next() != len(had) || sent != len(had) {
						t.Fatalf("none at the head; %d were put, %d acked", len(had), sent)
					}
					continue
				}
				if b.Seq > sent || string(x) != had[b.Seq] {
					t.Fatalf("at the head is %d, %s; up to %d they were acked", b.Seq, short(string(x)), sent)
				}
				if err := s.Ack(b.Seq); err != nil {
					t.Fatal(err)
				}
				sent = max(sent, b.Seq+1)
			}
			if s.Next() != len(had) {
				t.Fatalf("Next is %d, want %d", s.Next(), len(had))
			}
		}
	}
}

// P1: any bytes on a disk come to an end, as a spill or as ErrForm, and just as the words of the layers below say.
func TestOpenAnyBytes(t *testing.T) {
	r := rand.New(rand.NewSource(2121))
	pieces := []string{"\x03\x00\x00\x00", "\x03\x01\x00\x00", "\x03\x02\x00\x00", "\x03\x01\x02\x00", "\x01a", "\x00", "\x80", "\x04\x00\x00\x00\x00", "\x03\x00\x00\x01"}
	formed := 0
	for range 20000 {
		d := newDisk(t, api.MaxDisk)
		for range r.Intn(4) {
			x := ""
			for range r.Intn(3) {
				x += pieces[r.Intn(len(pieces))]
			}
			if r.Intn(10) == 0 {
				x += string([]byte{byte(r.Intn(5)), byte(r.Intn(256)), byte(r.Intn(256))})
			}
			d.Append(r.Intn(3), []byte(x))
		}
		many, room := 1+r.Intn(3), 1+r.Intn(3)
		j, err := journal.Open(layOut(t, partsOf(t, d)...), many)
		if err != nil {
			t.Fatal(err)
		}
		may := true
		for n := j.First(); n < j.Next(); n++ {
			x, _ := j.Record(n)
			b, err := batch.Get(x)
			may = may && err == nil && b.Seq == n
		}
		parts := partsOf(t, d)
		s, err := Open(d, many, room)
		if !may {
			if s != nil || err != api.ErrForm {
				t.Fatalf("%s: Open = %v, %v, want ErrForm", shortParts(parts), s, err)
			}
			continue
		}
		formed++
		if err != nil || s.Len() != j.Next()-j.First() || s.Next() != j.Next() {
			t.Fatalf("%s: Open = %v, %v", shortParts(parts), s, err)
		}
	}
	if formed < 1000 {
		t.Errorf("only %d of them were a spill's", formed)
	}
}

// P1: as many batches as a disk has room for come to an end.
func TestVeryMany(t *testing.T) {
	for _, many := range []int{1, 100} {
		n := 0
		d := newDisk(t, api.MaxDisk)
		for d.Append(n/many*many, []byte(laidOutOf(plain(n)))) == nil {
			n++
		}
		s := openAt(t, d, many, mostRoom)
		if s.Len() != n || s.Next() != n {
			t.Fatalf("Len %d, Next %d, want %d", s.Len(), s.Next(), n)
		}
		for i := range n {
			if b, y, is := s.Head(); !is || b.Seq != i || string(y) != bytesOf(plain(i)) {
				t.Fatalf("Head = %v, %q, %v, want %d", b, y, is, i)
			}
			if err := s.Ack(i); err != nil || s.Len() != n-i-1 {
				t.Fatalf("Ack(%d) tells %v, Len %d", i, err, s.Len())
			}
		}
		if used := d.Used(); used > 600 {
			t.Errorf("all are acked, and %d bytes are used", used)
		}
	}
}

// P21.3: however much comes and goes, the disk keeps no more than the last part beside what waits.
func TestComeAndGo(t *testing.T) {
	d := newDisk(t, 40)
	s := openAt(t, d, 2, 3)
	for n := range 50000 {
		if err := s.Put(plain(n)); err != nil {
			t.Fatalf("Put of Seq %d tells %v", n, err)
		}
		if n > 0 {
			if err := s.Ack(n - 1); err != nil {
				t.Fatalf("Ack(%d) tells %v", n-1, err)
			}
		}
		if s.Len() != 1 || d.Used() > 24 || len(d.Parts()) > 2 {
			t.Fatalf("behind %d: Len %d, %d bytes in %d parts", n, s.Len(), d.Used(), len(d.Parts()))
		}
	}
	wantSpill(t, "at the end", s, 50000, plain(49999))
}

// P1: no call panics, whatever it is given and whatever was ahead of it.
func TestNoPanic(t *testing.T) {
	r := rand.New(rand.NewSource(1))
	numbers := append(farInts[:], 0, 1, 2, 3, 100, 101, 1000, 1001, mostSeq)
	pick := func() int { return numbers[r.Intn(len(numbers))] }
	for range 3000 {
		d := newDisk(t, 1+r.Intn(30))
		if r.Intn(3) == 0 {
			d.Append(max(pick(), 0), []byte(tails[r.Intn(len(tails))]))
		}
		s, err := Open(d, pick(), pick())
		if (s == nil) != (err != nil) {
			t.Fatalf("Open = %v, %v", s, err)
		}
		if s == nil {
			continue
		}
		for range 10 {
			switch r.Intn(4) {
			case 0:
				s.Put(api.Batch{Seq: pick(), Start: int64(pick()), Rows: []api.Row{{Key: "a", Kind: pick(), Many: uint64(pick()), Buckets: make([]uint64, r.Intn(70))}}})
			case 1:
				s.Ack(pick())
			case 2:
				s.Put(plain(s.Next()))
			default:
				d.Crash(pick())
			}
			if _, x, is := s.Head(); is != (s.Len() > 0) || is != (len(x) > 0) {
				t.Fatalf("Head tells %q, %v, Len %d", x, is, s.Len())
			}
		}
	}
}
