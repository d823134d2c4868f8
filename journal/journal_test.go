package journal

import (
	"bytes"
	"math"
	"math/big"
	"math/rand"
	"slices"
	"strconv"
	"strings"
	"testing"
	"unsafe"

	"noggin/api"
	"noggin/disk"
)

// laid is a part of a disk, with its bytes.
type laid struct {
	part  int
	bytes string
}

func newDisk(t *testing.T, room int) *disk.Disk {
	t.Helper()
	d, err := disk.New(room)
	if err != nil {
		t.Fatal(err)
	}
	return d
}

// layOut is a disk with these parts, of which nothing is synced.
func layOut(t *testing.T, parts []laid) *disk.Disk {
	t.Helper()
	d := newDisk(t, api.MaxDisk)
	for _, p := range parts {
		if err := d.Append(p.part, []byte(p.bytes)); err != nil {
			t.Fatal(err)
		}
	}
	return d
}

// partsOf is all of a disk that is up.
func partsOf(t *testing.T, d *disk.Disk) []laid {
	t.Helper()
	var l []laid
	for _, part := range d.Parts() {
		b, err := d.Read(part)
		if err != nil {
			t.Fatalf("Read(%d) = %q, %v", part, b, err)
		}
		l = append(l, laid{part, string(b)})
	}
	return l
}

// short keeps a failure readable.
func short(parts []laid) string {
	text := ""
	for _, p := range parts {
		text += " " + strconv.Itoa(p.part) + ":" + strconv.Quote(p.bytes[:min(len(p.bytes), 60)]) + " of " + strconv.Itoa(len(p.bytes))
	}
	return text[:min(len(text), 600)]
}

func wantParts(t *testing.T, name string, d *disk.Disk, want []laid) {
	t.Helper()
	if got := partsOf(t, d); !slices.Equal(got, want) {
		t.Errorf("%s: the disk has%s, want%s", name, short(got), short(want))
	}
}

// wantSynced holds what stays of a disk that is up when it crashes and nothing stays but what was synced.
func wantSynced(t *testing.T, name string, d *disk.Disk, want []laid) {
	t.Helper()
	d.Crash(0)
	d.Up()
	wantParts(t, name+", behind a crash", d, want)
}

// laidOut is records' bytes, by the chapter's words.
func laidOut(records ...string) string {
	var b strings.Builder
	for _, r := range records {
		if n := len(r); n < 128 {
			b.WriteByte(byte(n))
		} else {
			b.WriteByte(byte(n%128) | 128)
			b.WriteByte(byte(n / 128))
		}
		b.WriteString(r)
	}
	return b.String()
}

func openAt(t *testing.T, d *disk.Disk, many int) *Journal {
	t.Helper()
	j, err := Open(d, many)
	if err != nil || j == nil {
		t.Fatalf("Open(%d) = %v, %v", many, j, err)
	}
	return j
}

// wantRecords holds that a journal has these records, and no other ones.
func wantRecords(t *testing.T, name string, j *Journal, first int, want ...string) {
	t.Helper()
	next := first + len(want)
	if j.First() != first || j.Next() != next {
		t.Errorf("%s: First %d, Next %d, want %d, %d", name, j.First(), j.Next(), first, next)
	}
	for i, r := range want {
		if b, err := j.Record(first + i); string(b) != r || err != nil {
			t.Errorf("%s: Record(%d) = %.40q, %v, want %.40q", name, first+i, b, err, r)
		}
	}
	for _, n := range []int{first - 1, first - 2, next, next + 1, -1, -2, math.MinInt, math.MinInt + 1, math.MaxInt, math.MaxInt - 1} {
		if n >= first && n < next {
			continue
		}
		if b, err := j.Record(n); len(b) != 0 || err != api.ErrNone {
			t.Errorf("%s: Record(%d) = %.40q, %v", name, n, b, err)
		}
	}
}

func appendAll(t *testing.T, j *Journal, records ...string) {
	t.Helper()
	for _, r := range records {
		if err := j.Append([]byte(r)); err != nil {
			t.Fatalf("Append(%.40q) tells %v", r, err)
		}
	}
}

// filled is a journal on a disk of its own with these records, synced by no one but itself.
func filled(t *testing.T, many int, records ...string) (*disk.Disk, *Journal) {
	t.Helper()
	d := newDisk(t, api.MaxDisk)
	j := openAt(t, d, many)
	appendAll(t, j, records...)
	return d, j
}

func of(n int, s string) string { return strings.Repeat(s, n) }

// letters are n records, each of one byte.
func letters(n int) []string {
	l := make([]string, n)
	for i := range l {
		l[i] = string(rune('a' + i%26))
	}
	return l
}

// The chapter's example, and P9.1: a disk without parts begins with record 0.
func TestExample(t *testing.T) {
	for _, many := range []int{1, 2, 99, 100} {
		d := newDisk(t, 10)
		j := openAt(t, d, many)
		wantRecords(t, "a new disk", j, 0)
		wantParts(t, "a new disk", d, nil)
	}
}

// P9.1: a nil disk, or a many that may not be, is ErrArg itself; there is no journal, and the disk stays as it was.
func TestOpenNone(t *testing.T) {
	for _, many := range []int{math.MinInt, -100, -1, 0, 1, 100, 101, 200, math.MaxInt} {
		if j, err := Open(nil, many); j != nil || err != api.ErrArg {
			t.Errorf("Open(nil, %d) = %v, %v", many, j, err)
		}
	}
	parts := []laid{{2, laidOut("a") + "\x05torn"}, {7, laidOut("b")}}
	for _, many := range []int{math.MinInt, -100, -1, 0, 101, 102, math.MaxInt} {
		d := layOut(t, parts)
		if j, err := Open(d, many); j != nil || err != api.ErrArg {
			t.Errorf("Open(%d) = %v, %v", many, j, err)
		}
		wantParts(t, "none was opened", d, parts)
		wantSynced(t, "none was opened", d, []laid{{2, ""}, {7, ""}})
		d.Crash(0)
		if j, err := Open(d, many); j != nil || err != api.ErrArg {
			t.Errorf("Open(%d) of a disk that is down = %v, %v", many, j, err)
		}
		if err := d.Sync(2); err != api.ErrGone {
			t.Errorf("Open(%d) let the disk come up", many)
		}
	}
}

// heads are records that a part may have.
func heads() [][]string {
	return [][]string{
		nil, {"a"}, {"a", "bb", "\x00"}, {of(127, "c")}, {of(128, "d")}, {of(129, "e"), "\x80"}, {of(api.MaxRecord, "f")},
		{"g", of(api.MaxRecord-1, "h"), "i"}, letters(100), letters(101), letters(150),
	}
}

// tails are bytes that no whole record begins.
func tails() []string {
	nos8, ffs8 := of(8, "\x80"), of(8, "\xff")
	return []string{
		"",
		// Of no bytes, alone, and with others behind it.
		"\x00", "\x00\x00", "\x00\x01a", "\x00" + laidOut(letters(30)...),
		// Fewer bytes than it tells.
		"\x01", "\x02a", "\x05abcd", "\x7f" + of(126, "a"), "\x80\x01" + of(127, "a"), "\x80\x20" + of(4095, "a"), "\x80\x20",
		// A number that ends too early, or has more bytes than it takes.
		"\x80", "\xff", "\x80\x80", "\xff\xff\xff", nos8, ffs8 + "\xff",
		"\x80\x00", "\x81\x00a", "\x81\x80\x00a", "\xff\x00" + of(200, "a"), "\x83\x00abc\x01d",
		// More bytes than a record has.
		"\x81\x20" + of(4097, "a"), "\x81\x20", "\x80\x21" + of(4224, "a"), "\xff\x7f" + of(16383, "a"), "\x81\x80\x01" + of(16385, "a"),
		// More bytes than there can be: of 2^32 and one, 2^63 and about, 2^64 - 1.
		"\x81\x80\x80\x80\x10a", ffs8 + "\x7fa", nos8 + "\x80\x01a", "\x81" + nos8 + "\x01a", ffs8 + "\xff\x01a", "\xfe" + ffs8 + "\x01a",
		// Numbers that don't fit: of 2^64 and about, and of more bytes still.
		nos8 + "\x80\x02a", "\x81" + nos8 + "\x02a", "\x83" + nos8 + "\x02abc", ffs8 + "\xff\x02a", ffs8 + "\xff\x7fa",
		nos8 + "\x80\x80\x01a", "\x81" + nos8 + "\x80\x00a", ffs8 + ffs8 + "\x01a", of(300, "\x80") + "\x01a",
	}
}

// P9.1: what is behind a part's last whole record is cut off, all that is left is synced, and the disk is up.
func TestOpenTorn(t *testing.T) {
	for _, head := range heads() {
		for _, tail := range tails() {
			for _, first := range []int{0, 1, 7, 1 << 40} {
				d := layOut(t, []laid{{first, laidOut(head...) + tail}})
				if first == 7 {
					d.Crash(math.MaxInt)
				}
				name := "a part with " + strconv.Itoa(len(head)) + " records and " + short([]laid{{first, tail}})
				j := openAt(t, d, 5)
				wantRecords(t, name, j, first, head...)
				want := []laid{{first, laidOut(head...)}}
				wantParts(t, name, d, want)
				wantSynced(t, name, d, want)
			}
		}
	}
}

// P9.1: so it is of several parts, of each by itself: the next one counts by the whole records alone.
func TestOpenTornOfSeveral(t *testing.T) {
	for _, head := range heads()[1:] {
		for _, tail := range tails() {
			middle := 3 + len(head)
			d := layOut(t, []laid{
				{3, laidOut(head...) + tail},
				{middle, laidOut("x", "y") + tail},
				{middle + 2, laidOut("z") + tail},
			})
			name := "parts with " + strconv.Itoa(len(head)) + " records and " + short([]laid{{3, tail}})
			j := openAt(t, d, 2)
			wantRecords(t, name, j, 3, append(slices.Clone(head), "x", "y", "z")...)
			want := []laid{{3, laidOut(head...)}, {middle, laidOut("x", "y")}, {middle + 2, laidOut("z")}}
			wantParts(t, name, d, want)
			wantSynced(t, name, d, want)
		}
	}
}

// P9.1: a part counts if its number is that of the record behind; else it, and all behind it, are removed.
func TestOpenParts(t *testing.T) {
	a, ab := laidOut("a"), laidOut("a", "b")
	x, y, z := laidOut("x"), laidOut("y"), laidOut("z")
	for _, c := range []struct {
		parts []laid
		many  int // of them count
		want  string
	}{
		{[]laid{{0, ab}}, 1, "ab"},
		{[]laid{{0, ab}, {2, x}}, 2, "abx"},
		{[]laid{{0, ab}, {2, x}, {3, y}}, 3, "abxy"},
		{[]laid{{5, ab}, {7, x}, {8, y}}, 3, "abxy"},
		{[]laid{{0, ab}, {1, x}}, 1, "ab"},
		{[]laid{{0, ab}, {3, x}}, 1, "ab"},
		{[]laid{{0, ab}, {1, x}, {2, y}}, 1, "ab"},
		{[]laid{{0, ab}, {1, x}, {2, y}, {3, z}}, 1, "ab"},
		{[]laid{{0, ab}, {3, x}, {4, y}}, 1, "ab"},
		{[]laid{{0, ab}, {2, x}, {4, y}, {5, z}}, 2, "abx"},
		{[]laid{{0, ab}, {2, ab}, {3, y}, {4, z}}, 2, "abab"},
		{[]laid{{9, a}, {10, x}, {11, y}, {13, z}}, 3, "axy"},
		{[]laid{{9, a}, {math.MaxInt, x}}, 1, "a"},
		{[]laid{{1, a}, {0, x}}, 2, "xa"},
		{[]laid{{2, a}, {0, x}}, 1, "x"},
		// Parts without a whole record.
		{[]laid{{0, ""}}, 1, ""},
		{[]laid{{4, ""}}, 1, ""},
		{[]laid{{4, ""}, {5, x}}, 1, ""},
		{[]laid{{4, ""}, {5, x}, {6, y}}, 1, ""},
		{[]laid{{0, ""}, {1, ""}, {2, x}}, 1, ""},
		{[]laid{{3, ab}, {5, ""}}, 2, "ab"},
		{[]laid{{3, ab}, {5, ""}, {6, x}}, 2, "ab"},
		{[]laid{{3, ab}, {4, ""}, {5, x}}, 1, "ab"},
		{[]laid{{3, ab}, {5, x}, {6, ""}, {7, y}}, 3, "abx"},
	} {
		byNumber := func(p, q laid) int { return p.part - q.part }
		kept := slices.SortedFunc(slices.Values(c.parts), byNumber)[:c.many]
		name := "parts" + short(c.parts)
		for _, down := range []bool{false, true} {
			for _, tail := range []string{"", "\x00", "\x80", "\x09abc"} {
				d := layOut(t, c.parts)
				for _, p := range c.parts {
					d.Append(p.part, []byte(tail))
				}
				if down {
					d.Crash(math.MaxInt)
				}
				j := openAt(t, d, 3)
				wantRecords(t, name, j, kept[0].part, strings.Split(c.want, "")...)
				wantParts(t, name, d, kept)
				wantSynced(t, name, d, kept)
			}
		}
	}
}

// P9.1, P9.2: behind what was opened the journal goes on where its records end, whatever was there.
func TestOpenAndGoOn(t *testing.T) {
	for _, head := range heads() {
		for _, tail := range tails() {
			d := layOut(t, []laid{{6, laidOut(head...) + tail}, {6 + len(head) + 1, laidOut("gone")}})
			j := openAt(t, d, 100)
			appendAll(t, j, "new", "newer")
			all := append(slices.Clone(head), "new", "newer")
			wantRecords(t, "gone on", j, 6, all...)
			if err := j.Sync(); err != nil {
				t.Error(err)
			}
			d.Crash(0)
			wantRecords(t, "opened again", openAt(t, d, 1), 6, all...)
		}
	}
}

// P9.1: numbers up to the greatest are records' numbers; what is behind the greatest can't be told, and harms nothing.
func TestOpenGreatest(t *testing.T) {
	d := layOut(t, []laid{{math.MaxInt - 2, laidOut("a", "b")}})
	j := openAt(t, d, 5)
	wantRecords(t, "up to the greatest", j, math.MaxInt-2, "a", "b")
	for many := range 3 {
		part := []laid{{math.MaxInt, laidOut(letters(many)...)}}
		for _, parts := range [][]laid{part, append([]laid{{math.MaxInt - 1, laidOut("x")}}, part...)} {
			d := layOut(t, parts)
			j := openAt(t, d, 1)
			wantParts(t, "the greatest", d, parts)
			want, none := "a", error(nil)
			if many == 0 {
				want, none = "", api.ErrNone
			}
			if b, err := j.Record(math.MaxInt); string(b) != want || err != none || j.First() != parts[0].part {
				t.Errorf("%d records: Record = %q, %v, First %d", many, b, err, j.First())
			}
			for _, n := range []int{math.MinInt, math.MinInt + 1, -1, 0, parts[0].part - 1} {
				if b, err := j.Record(n); len(b) != 0 || err != api.ErrNone {
					t.Errorf("%d records: Record(%d) = %q, %v", many, n, b, err)
				}
			}
			if err := j.Append([]byte("more")); (err == nil) != (many == 0) {
				t.Errorf("%d records: Append tells %v", many, err)
			}
			if err := j.Trim(math.MaxInt); err != nil || j.First() != math.MaxInt || len(d.Parts()) != 1 {
				t.Errorf("%d records: Trim tells %v, First %d", many, err, j.First())
			}
		}
	}
}

// P9.1: a journal's records, from First on, each as it was.
func TestRecord(t *testing.T) {
	every := make([]byte, 256)
	for i := range every {
		every[i] = byte(i)
	}
	records := []string{
		"a", string(every), "\x00", "\xff", "a", of(127, "b"), of(128, "c"), of(4095, "d"), of(4096, "e"), "\x01x", " ", "\n", "é",
	}
	for _, many := range []int{1, 2, 3, 5, 100} {
		d, j := filled(t, many, records...)
		wantRecords(t, "appended", j, 0, records...)
		wantRecords(t, "asked again", j, 0, records...)
		wantRecords(t, "opened again", openAt(t, d, many), 0, records...)
	}
	_, j := filled(t, 1, "a")
	for n, want := range map[int]error{-1: api.ErrNone, 0: nil, 1: api.ErrNone, 2: api.ErrNone} {
		if b, err := j.Record(n); err != want || (len(b) == 0) != (want != nil) {
			t.Errorf("Record(%d) = %q, %v", n, b, err)
		}
	}
}

// P9.1: a record is there, or isn't, whether the disk is up or not.
func TestRecordWhileDown(t *testing.T) {
	d, j := filled(t, 2, "a", "b", "c")
	d.Crash(9)
	wantRecords(t, "while it is down", j, 0, "a", "b", "c")
	d.Up()
	wantRecords(t, "up again", j, 0, "a", "b", "c")
}

// P9.2: what is no record is ErrArg, ahead of the disk's errors, and nothing comes of it.
func TestAppendNone(t *testing.T) {
	none := [][]byte{nil, {}, make([]byte, api.MaxRecord+1), make([]byte, 2*api.MaxRecord), make([]byte, api.MaxDisk+1)}
	for _, many := range []int{1, 100} {
		for _, records := range [][]string{nil, {"a"}, {"a", "b"}} {
			d, j := filled(t, many, records...)
			before := partsOf(t, d)
			for _, b := range none {
				if err := j.Append(b); err != api.ErrArg {
					t.Errorf("Append of %d bytes tells %v", len(b), err)
				}
			}
			wantParts(t, "behind what is no record", d, before)
			d.Crash(99)
			for _, b := range none {
				if err := j.Append(b); err != api.ErrArg {
					t.Errorf("Append of %d bytes, of a disk that is down, tells %v", len(b), err)
				}
			}
			wantRecords(t, "behind what is no record", j, 0, records...)
		}
	}
	j := openAt(t, newDisk(t, 1), 1)
	if err := j.Append(make([]byte, api.MaxRecord+1)); err != api.ErrArg {
		t.Errorf("Append of what there isn't room for either tells %v", err)
	}
}

// P9.2: a record stands as its bytes behind the last part's.
func TestAppendBytes(t *testing.T) {
	d := newDisk(t, api.MaxDisk)
	j := openAt(t, d, 100)
	want := ""
	for _, n := range []int{1, 2, 126, 127, 128, 129, 255, 256, 4095, 4096} {
		b := bytes.Repeat([]byte{byte(n)}, n)
		if err := j.Append(b); err != nil {
			t.Errorf("Append of %d bytes tells %v", n, err)
		}
		want += laidOut(string(b))
		wantParts(t, "behind "+strconv.Itoa(n), d, []laid{{0, want}})
	}
	if j.First() != 0 || j.Next() != 10 {
		t.Errorf("First %d, Next %d", j.First(), j.Next())
	}
}

// P9.2: a new part is begun, with the record's number, where there is none, or the last has as many as many tells.
func TestAppendParts(t *testing.T) {
	for _, many := range []int{1, 2, 3, 7, 99, 100} {
		d := newDisk(t, api.MaxDisk)
		j := openAt(t, d, many)
		records := letters(250)
		var want []laid
		for i, r := range records {
			if i%many == 0 {
				want = append(want, laid{i, ""})
			}
			want[len(want)-1].bytes += laidOut(r)
			appendAll(t, j, r)
			if i < 12 || i > 190 {
				wantParts(t, "many "+strconv.Itoa(many), d, want)
			}
		}
		wantRecords(t, "many "+strconv.Itoa(many), j, 0, records...)
	}
}

// P9.2: of a last part that was there at Open it counts what it has, be that fewer than many, as many, or more.
func TestAppendToOpened(t *testing.T) {
	for many := 1; many <= 6; many++ {
		for had := range 9 {
			old := letters(had)
			d := layOut(t, []laid{{2, laidOut("v", "w")}, {4, laidOut(old...) + "\x80"}})
			j := openAt(t, d, many)
			want := []laid{{2, laidOut("v", "w")}, {4, laidOut(old...)}}
			for i, r := range []string{"x", "y", "z"} {
				if last := want[len(want)-1]; 4+had+i-last.part >= many {
					want = append(want, laid{4 + had + i, ""})
				}
				want[len(want)-1].bytes += laidOut(r)
				appendAll(t, j, r)
				wantParts(t, "many "+strconv.Itoa(many)+", had "+strconv.Itoa(had), d, want)
			}
			wantRecords(t, "appended to", j, 2, slices.Concat([]string{"v", "w"}, old, []string{"x", "y", "z"})...)
		}
	}
}

// P9.2: the part ahead of a new one is synced, and the last one isn't by an Append.
func TestAppendSyncsTheOneAhead(t *testing.T) {
	for many := 1; many <= 4; many++ {
		for n := range 12 {
			d, _ := filled(t, many, letters(n)...)
			var want []laid
			for i := 0; i < n; i += many {
				want = append(want, laid{i, laidOut(letters(n)[i:min(i+many, n)]...)})
			}
			wantParts(t, "not synced", d, want)
			if n > 0 {
				want[len(want)-1].bytes = ""
			}
			wantSynced(t, "many "+strconv.Itoa(many)+", of "+strconv.Itoa(n), d, want)
		}
	}
}

// P9.2: where there isn't room, for the record's bytes with their number of bytes, it is ErrFull, and nothing comes of it.
func TestAppendFull(t *testing.T) {
	for _, n := range []int{1, 2, 127, 128, 129, 4096} {
		r := of(n, "r")
		for _, many := range []int{1, 2} {
			for _, old := range [][]string{nil, {"a"}, {"a", "bb"}} {
				fits := len(laidOut(old...)) + len(laidOut(r))
				for _, room := range []int{fits - n, fits - 2, fits - 1} {
					wantFull(t, max(room, 1), many, old, r)
				}
				for _, room := range []int{fits, fits + 1} {
					j := openAt(t, newDisk(t, room), many)
					appendAll(t, j, append(slices.Clone(old), r)...)
					wantRecords(t, "not full", j, 0, append(slices.Clone(old), r)...)
				}
			}
		}
	}
}

// wantFull holds that there isn't room for a record behind old ones.
func wantFull(t *testing.T, room, many int, old []string, record string) {
	t.Helper()
	d := newDisk(t, room)
	j := openAt(t, d, many)
	appendAll(t, j, old...)
	before := partsOf(t, d)
	if err := j.Append([]byte(record)); err != api.ErrFull {
		t.Errorf("room %d, many %d: Append of %d bytes tells %v", room, many, len(record), err)
	}
	wantParts(t, "full", d, before)
	wantRecords(t, "full", j, 0, old...)
}

// P9.2: behind an ErrFull a smaller record has the same number, and goes to the same part; so where a part was to be begun.
func TestAppendBehindFull(t *testing.T) {
	for many, want := range map[int][]laid{
		1: {{0, laidOut("a")}, {1, laidOut("b")}, {2, laidOut("c")}},
		2: {{0, laidOut("a", "b")}, {2, laidOut("c")}},
		3: {{0, laidOut("a", "b", "c")}},
	} {
		d := newDisk(t, 7)
		j := openAt(t, d, many)
		for i, r := range []string{"a", "b", "c"} {
			for range 3 {
				if err := j.Append([]byte("much too much")); err != api.ErrFull {
					t.Errorf("many %d: Append tells %v", many, err)
				}
			}
			wantRecords(t, "behind ErrFull", j, 0, letters(i)...)
			appendAll(t, j, r)
		}
		wantParts(t, "many "+strconv.Itoa(many), d, want)
		wantRecords(t, "opened again", openAt(t, d, many), 0, "a", "b", "c")
	}
	d := newDisk(t, 6)
	j := openAt(t, d, 1)
	appendAll(t, j, "a", "b", "c")
	if err := j.Append([]byte("d")); err != api.ErrFull {
		t.Error(err)
	}
	if err := j.Trim(1); err != nil {
		t.Error(err)
	}
	appendAll(t, j, "d")
	wantRecords(t, "with room again", j, 1, "b", "c", "d")
}

// P9.2, P9.3: of a disk that is down it is ErrGone, also where it is full, or a part was to be begun, or would go.
func TestDown(t *testing.T) {
	for many := 1; many <= 3; many++ {
		for n := range 7 {
			d := newDisk(t, max(2*n, 1))
			j := openAt(t, d, many)
			appendAll(t, j, letters(n)...)
			before := partsOf(t, d)
			d.Crash(99)
			for _, r := range []string{"x", of(128, "y"), of(api.MaxRecord, "z")} {
				if err := j.Append([]byte(r)); err != api.ErrGone {
					t.Errorf("many %d, of %d: Append tells %v", many, n, err)
				}
			}
			wantRecords(t, "while it is down", j, 0, letters(n)...)
			want := error(nil)
			if n > 0 {
				want = api.ErrGone
			}
			if err := j.Sync(); err != want {
				t.Errorf("many %d, of %d: Sync tells %v", many, n, err)
			}
			want = nil
			if n > many {
				want = api.ErrGone
			}
			for _, to := range []int{many, n, math.MaxInt} {
				if err := j.Trim(to); err != want && to >= many {
					t.Errorf("many %d, of %d: Trim(%d) tells %v", many, n, to, err)
				}
			}
			wantRecords(t, "while it is down", j, 0, letters(n)...)
			d.Up()
			wantParts(t, "many "+strconv.Itoa(many), d, before)
			wantRecords(t, "opened again", openAt(t, d, many), 0, letters(n)...)
		}
	}
}

// P9.2: a journal goes on behind a disk's going down, if nothing went by that.
func TestGoesOnBehindDown(t *testing.T) {
	for many := 1; many <= 3; many++ {
		d, j := filled(t, many, "a", "b")
		d.Crash(99)
		if err := j.Append([]byte("c")); err != api.ErrGone {
			t.Errorf("Append tells %v", err)
		}
		d.Up()
		appendAll(t, j, "c", "d")
		wantRecords(t, "up again", j, 0, "a", "b", "c", "d")
		wantRecords(t, "opened again", openAt(t, d, many), 0, "a", "b", "c", "d")
	}
}

// P9.2: Sync syncs the last part, if there is one, and changes nothing else.
func TestSync(t *testing.T) {
	d := newDisk(t, 10)
	j := openAt(t, d, 3)
	if err := j.Sync(); err != nil {
		t.Errorf("without parts Sync tells %v", err)
	}
	wantParts(t, "without parts", d, nil)
	d.Crash(0)
	if err := j.Sync(); err != nil {
		t.Errorf("without parts, and down, Sync tells %v", err)
	}
	for many := 1; many <= 4; many++ {
		for n := 1; n < 10; n++ {
			d, j := filled(t, many, letters(n)...)
			before := partsOf(t, d)
			for range 2 {
				if err := j.Sync(); err != nil {
					t.Errorf("Sync tells %v", err)
				}
			}
			wantParts(t, "behind Sync", d, before)
			wantRecords(t, "behind Sync", j, 0, letters(n)...)
			appendAll(t, j, "X")
			if n%many == 0 {
				before = append(before, laid{n, ""})
			}
			wantSynced(t, "many "+strconv.Itoa(many)+", of "+strconv.Itoa(n), d, before)
		}
	}
}

// P9.2: a last part that was there at Open is the one that is synced.
func TestSyncOfOpened(t *testing.T) {
	for _, parts := range [][]laid{{{0, ""}}, {{5, laidOut("a")}}, {{5, laidOut("a")}, {6, laidOut("b")}}, {{5, laidOut("a")}, {6, ""}}} {
		d := layOut(t, parts)
		j := openAt(t, d, 9)
		if err := j.Sync(); err != nil {
			t.Errorf("%s: Sync tells %v", short(parts), err)
		}
		appendAll(t, j, "x")
		if err := j.Sync(); err != nil {
			t.Errorf("%s: Sync tells %v", short(parts), err)
		}
		want := slices.Clone(parts)
		want[len(want)-1].bytes += laidOut("x")
		wantSynced(t, "behind Sync", d, want)
	}
}

// P9.3: the parts go whose records are all below n, but for the last one.
func TestTrim(t *testing.T) {
	parts := []laid{{4, laidOut("a", "b")}, {6, laidOut("c")}, {7, laidOut("d", "e", "f")}, {10, laidOut("g", "h")}}
	all := letters(8)
	for n, first := range map[int]int{
		math.MinInt: 4, -1: 4, 0: 4, 3: 4, 4: 4, 5: 4, 6: 6, 7: 7, 8: 7, 9: 7, 10: 10, 11: 10, 12: 10, 13: 10, 1000: 10,
		math.MaxInt - 1: 10, math.MaxInt: 10,
	} {
		d := layOut(t, parts)
		j := openAt(t, d, 3)
		name := "Trim(" + strconv.Itoa(n) + ")"
		for range 2 {
			if err := j.Trim(n); err != nil {
				t.Errorf("%s tells %v", name, err)
			}
			wantRecords(t, name, j, first, all[first-4:]...)
		}
		left := slices.DeleteFunc(slices.Clone(parts), func(p laid) bool { return p.part < first })
		wantParts(t, name, d, left)
		appendAll(t, j, "x", "y")
		wantRecords(t, name+", appended to", j, first, append(slices.Clone(all[first-4:]), "x", "y")...)
		wantRecords(t, name+", opened again", openAt(t, d, 3), first, append(slices.Clone(all[first-4:]), "x", "y")...)
		wantSynced(t, name, d, append(left[:len(left)-1], laid{10, laidOut("g", "h", "x")}, laid{13, laidOut("y")}))
	}
}

// P9.3: the last part stays, whatever it has, and so does a journal without parts.
func TestTrimLast(t *testing.T) {
	for _, n := range []int{math.MinInt, -1, 0, 1, 2, 3, 4, 5, math.MaxInt} {
		d := newDisk(t, 10)
		j := openAt(t, d, 3)
		if err := j.Trim(n); err != nil {
			t.Errorf("without parts: Trim(%d) tells %v", n, err)
		}
		wantRecords(t, "without parts", j, 0)
		for _, part := range []laid{{0, ""}, {3, ""}, {0, laidOut("a")}, {0, laidOut("a", "b", "c")}, {3, laidOut("a")}} {
			d := layOut(t, []laid{part})
			j := openAt(t, d, 3)
			if err := j.Trim(n); err != nil || j.First() != part.part {
				t.Errorf("one part: Trim(%d) tells %v, First %d", n, err, j.First())
			}
			wantParts(t, "one part", d, []laid{part})
		}
	}
	d := layOut(t, []laid{{0, laidOut("a")}, {1, ""}})
	j := openAt(t, d, 3)
	if err := j.Trim(1); err != nil {
		t.Error(err)
	}
	wantRecords(t, "a last part without records", j, 1)
	wantParts(t, "a last part without records", d, []laid{{1, ""}})
	appendAll(t, j, "b")
	wantRecords(t, "a last part without records", j, 1, "b")
}

// P9.3: while the disk is down nothing goes; behind it all goes that is to.
func TestTrimDown(t *testing.T) {
	for n, want := range map[int]error{-1: nil, 0: nil, 1: nil, 2: api.ErrGone, 3: api.ErrGone, 4: api.ErrGone, math.MaxInt: api.ErrGone} {
		d, j := filled(t, 2, letters(5)...)
		before := partsOf(t, d)
		d.Crash(99)
		if err := j.Trim(n); err != want {
			t.Errorf("Trim(%d) tells %v", n, err)
		}
		wantRecords(t, "while it is down", j, 0, letters(5)...)
		d.Up()
		wantParts(t, "up again", d, before)
		if err := j.Trim(n); err != nil {
			t.Errorf("Trim(%d) behind it tells %v", n, err)
		}
		first := max(0, min(n, 4)) / 2 * 2
		wantRecords(t, "up again", j, first, letters(5)[first:]...)
	}
}

// P9.5: of what wasn't synced the first whole records are there, wherever the crash cuts.
func TestCrash(t *testing.T) {
	for _, later := range [][]string{
		{"a"}, {"bcd"}, {of(127, "e")}, {of(128, "f")}, {of(130, "g"), "h"}, {"i", "jk", of(200, "l"), "m"}, {of(api.MaxRecord, "n")},
	} {
		for _, many := range []int{1, 2, 3, 100} {
			for _, synced := range [][]string{nil, {"S"}, {"S", of(128, "T")}, {"S", "T", "U"}} {
				begins := (len(synced)+len(later)-1)/many*many - len(synced)
				lost := laidOut(later[max(begins, 0):]...)
				for keep := -1; keep <= len(lost)+1; keep++ {
					if keep > 300 && keep < len(lost)-2 {
						continue
					}
					d, j := filled(t, many, synced...)
					if err := j.Sync(); err != nil {
						t.Fatal(err)
					}
					appendAll(t, j, later...)
					d.Crash(keep)
					// All parts but the last one are synced.
					stay := max(begins, 0)
					for stay < len(later) && len(laidOut(later[max(begins, 0):stay+1]...)) <= keep {
						stay++
					}
					want := slices.Concat(synced, later[:stay])
					name := "keep " + strconv.Itoa(keep) + ", many " + strconv.Itoa(many)
					again := openAt(t, d, many)
					wantRecords(t, name, again, 0, want...)
					appendAll(t, again, "x", "y")
					wantRecords(t, name+", appended to", again, 0, append(want, "x", "y")...)
					wantRecords(t, name+", opened again", openAt(t, d, many), 0, append(want, "x", "y")...)
				}
			}
		}
	}
}

// P9.5: over many deeds and crashes, what was synced and not trimmed is there, and of the others the first ones.
func TestSyncedStays(t *testing.T) {
	r := rand.New(rand.NewSource(95))
	for range 200 {
		d := newDisk(t, 2000)
		j := openAt(t, d, 1+r.Intn(5))
		var all []string // by number
		synced, trimmed := 0, 0
		for range 60 {
			switch r.Intn(6) {
			case 0:
				if j.Sync() == nil {
					synced = len(all)
				}
			case 1:
				n := r.Intn(len(all) + 3)
				if j.Trim(n) == nil {
					trimmed = max(trimmed, n)
				}
			case 2:
				d.Crash(r.Intn(200))
				j = openAt(t, d, 1+r.Intn(5))
				if j.First() > trimmed || j.Next() < synced || j.Next() > len(all) {
					t.Fatalf("First %d, Next %d, and up to %d it was trimmed, up to %d synced, up to %d appended",
						j.First(), j.Next(), trimmed, synced, len(all))
				}
				all = all[:j.Next()]
				synced = j.Next()
			default:
				s := of(1+r.Intn(150), string(rune('a'+r.Intn(26))))
				if j.Append([]byte(s)) == nil {
					all = append(all, s)
				}
			}
			wantRecords(t, "at random", j, j.First(), all[j.First():]...)
		}
	}
}

// P9.4: what is handed in isn't changed, with the room behind it, and may be written over then.
func TestHandedInIsNotKept(t *testing.T) {
	for _, many := range []int{1, 2, 100} {
		d := newDisk(t, 1000)
		j := openAt(t, d, many)
		records := []string{"a", "bcd", of(127, "e"), of(128, "f")}
		for _, r := range records {
			room := bytes.Repeat([]byte{0xee}, 300)
			b := room[:copy(room, r)]
			before := bytes.Clone(room)
			if err := j.Append(b); err != nil {
				t.Fatal(err)
			}
			if !bytes.Equal(room, before) {
				t.Errorf("what was handed in is % x now", room)
			}
			clear(room)
			if told, _ := j.Record(j.Next() - 1); overlap(told, room) {
				t.Error("what is told lies in what was handed in")
			}
		}
		wantRecords(t, "written over", j, 0, records...)
		wantRecords(t, "opened again", openAt(t, d, many), 0, records...)
	}
}

// overlap tells whether two lists of bytes, with the room behind them, share memory.
func overlap(a, b []byte) bool {
	if cap(a) == 0 || cap(b) == 0 {
		return false
	}
	firstA, firstB := uintptr(unsafe.Pointer(unsafe.SliceData(a))), uintptr(unsafe.Pointer(unsafe.SliceData(b)))
	return firstA < firstB+uintptr(cap(b)) && firstB < firstA+uintptr(cap(a))
}

// P9.4: what is told is new memory: it may be written over, and two answers share none.
func TestToldIsNew(t *testing.T) {
	records := []string{"a", "bcd", of(128, "e"), "f"}
	for _, again := range []bool{false, true} {
		d, j := filled(t, 2, records...)
		if again {
			j = openAt(t, d, 2)
		}
		var told [][]byte
		for n := range records {
			for range 2 {
				b, err := j.Record(n)
				if err != nil {
					t.Fatal(err)
				}
				for _, other := range told {
					if overlap(b, other) {
						t.Errorf("two answers of Record(%d) share memory", n)
					}
				}
				told = append(told, b)
			}
		}
		for _, b := range told {
			clear(b[:cap(b)])
		}
		wantRecords(t, "written over", j, 0, records...)
		wantRecords(t, "opened again", openAt(t, d, 2), 0, records...)
	}
}

// P9.4: what was told stays as it was, whatever comes then.
func TestToldStays(t *testing.T) {
	d, j := filled(t, 1, "abc", "def")
	b, _ := j.Record(0)
	c, _ := j.Record(1)
	appendAll(t, j, "ghi")
	j.Trim(2)
	appendAll(t, j, "jkl", "mno")
	d.Crash(0)
	openAt(t, d, 1)
	if string(b) != "abc" || string(c) != "def" {
		t.Errorf("what was told is %q and %q now", b, c)
	}
}

// P9.1: what others do to the disk between two Opens is seen by the next one, and the parts ahead of it are as they were.
func TestChangesBetweenOpens(t *testing.T) {
	d, j := filled(t, 2, "a", "b", "c")
	change := func(name string, err error, first int, want ...string) {
		t.Helper()
		if err != nil {
			t.Fatal(err)
		}
		j = openAt(t, d, 2)
		wantRecords(t, name, j, first, want...)
	}
	change("another part", d.Append(9, []byte(laidOut("x"))), 0, "a", "b", "c")
	change("a part that counts", d.Append(3, []byte(laidOut("d", "e"))), 0, "a", "b", "c", "d", "e")
	change("more of the last part", d.Append(3, []byte(laidOut("f")+"\x80")), 0, "a", "b", "c", "d", "e", "f")
	change("the last part cut", d.Cut(3, 5), 0, "a", "b", "c", "d", "e")
	change("a part ahead cut", d.Cut(2, 1), 0, "a", "b")
	appendAll(t, j, "g", "h", "i")
	change("as it was", nil, 0, "a", "b", "g", "h", "i")
	change("the first part removed", d.Remove(0), 2, "g", "h", "i")
	change("one in the midst removed", d.Remove(2), 4, "i")
	change("the last one removed", d.Remove(4), 0)
	appendAll(t, j, "again")
	change("begun again", nil, 0, "again")
}

// P9.1: opened twice, a journal changes nothing more.
func TestOpenAgain(t *testing.T) {
	d := layOut(t, []laid{{3, laidOut("a", "b") + "\x00"}, {5, laidOut("c") + "\x07"}, {7, laidOut("d")}})
	openAt(t, d, 1)
	want := []laid{{3, laidOut("a", "b")}, {5, laidOut("c")}}
	for many := 1; many <= 100; many += 33 {
		wantRecords(t, "opened again", openAt(t, d, many), 3, "a", "b", "c")
		wantParts(t, "opened again", d, want)
	}
}

// Journals are apart from each other.
func TestJournalsApart(t *testing.T) {
	_, one := filled(t, 2, "a", "b")
	_, other := filled(t, 2, "x")
	one.Trim(5)
	appendAll(t, one, "c")
	appendAll(t, other, "y", "z")
	wantRecords(t, "one", one, 0, "a", "b", "c")
	wantRecords(t, "the other", other, 0, "x", "y", "z")
}

// byWords is a journal by the chapter's words, on a disk of its own.
type byWords struct {
	d     *disk.Disk
	many  int
	parts []wordPart
}

type wordPart struct {
	number  int
	records []string
}

// wholeByWords is the whole records of a part's bytes, their numbers of bytes worked out in numbers of any length.
func wholeByWords(b string) []string {
	var l []string
	for {
		n, size := new(big.Int), 0
		for size < len(b) && (size == 0 || b[size-1] >= 128) {
			n.Or(n, new(big.Int).Lsh(big.NewInt(int64(b[size]%128)), uint(7*size)))
			size++
		}
		ended := size > 0 && b[size-1] < 128
		few := size == 1 || ended && b[size-1] != 0
		most := big.NewInt(int64(min(4096, len(b)-size)))
		if !ended || !few || n.Sign() == 0 || n.Cmp(most) > 0 {
			return l
		}
		end := size + int(n.Int64())
		l = append(l, b[size:end])
		b = b[end:]
	}
}

func openByWords(d *disk.Disk, many int) *byWords {
	d.Up()
	w := &byWords{d: d, many: many}
	counts := true
	for i, number := range d.Parts() {
		if i > 0 && number != w.Next() {
			counts = false
		}
		if !counts {
			d.Remove(number)
			continue
		}
		b, _ := d.Read(number)
		p := wordPart{number, wholeByWords(string(b))}
		d.Cut(number, len(laidOut(p.records...)))
		d.Sync(number)
		w.parts = append(w.parts, p)
	}
	return w
}

func (w *byWords) First() int {
	for _, p := range w.parts {
		return p.number
	}
	return 0
}

func (w *byWords) Next() int {
	next := 0
	for _, p := range w.parts {
		next = p.number + len(p.records)
	}
	return next
}

func (w *byWords) Record(n int) ([]byte, error) {
	for _, p := range w.parts {
		for i, r := range p.records {
			if p.number+i == n {
				return []byte(r), nil
			}
		}
	}
	return nil, api.ErrNone
}

func (w *byWords) Append(b []byte) error {
	if len(b) < 1 || len(b) > 4096 {
		return api.ErrArg
	}
	number := w.Next()
	begins := true
	for _, p := range w.parts {
		number, begins = p.number, len(p.records) >= w.many
	}
	if begins {
		if err := w.Sync(); err != nil {
			return err
		}
		number = w.Next()
	}
	if err := w.d.Append(number, []byte(laidOut(string(b)))); err != nil {
		return err
	}
	if begins {
		w.parts = append(w.parts, wordPart{number: number})
	}
	last := &w.parts[len(w.parts)-1]
	last.records = append(last.records, string(b))
	return nil
}

func (w *byWords) Sync() error {
	var err error
	for _, p := range w.parts {
		err = w.d.Sync(p.number)
	}
	return err
}

func (w *byWords) Trim(n int) error {
	var left []wordPart
	for i, p := range w.parts {
		if i == len(w.parts)-1 || p.number+len(p.records) > n {
			left = append(left, p)
		} else if err := w.d.Remove(p.number); err != nil {
			return err
		}
	}
	w.parts = left
	return nil
}

// journaling is a journal, or the words' one.
type journaling interface {
	Append(b []byte) error
	Sync() error
	Trim(n int) error
	First() int
	Next() int
	Record(n int) ([]byte, error)
}

// deed is one that both journals do.
type deed struct {
	name string
	do   func(j journaling) error
}

func anyDeed(r *rand.Rand, first, next int) deed {
	switch r.Intn(8) {
	case 0:
		return deed{"Sync", func(j journaling) error { return j.Sync() }}
	case 1:
		n := first - 2 + r.Intn(next-first+5)
		return deed{"Trim " + strconv.Itoa(n), func(j journaling) error { return j.Trim(n) }}
	}
	b := bytes.Repeat([]byte{byte(r.Intn(256))}, min(r.Intn(9), r.Intn(9)))
	if r.Intn(20) == 0 {
		b = make([]byte, 100+r.Intn(40))
	}
	return deed{"Append of " + strconv.Itoa(len(b)), func(j journaling) error { return j.Append(b) }}
}

// disturb does to a disk, that is up, what no journal does.
func disturb(r *rand.Rand, d *disk.Disk) {
	pieces := append([]string{"\x01a", "\x02bc", "\x03def", "\x01", "\x80\x01"}, tails()[:18]...)
	for range r.Intn(4) {
		part := r.Intn(8)
		if parts := d.Parts(); len(parts) > 0 && r.Intn(3) > 0 {
			part = max(parts[r.Intn(len(parts))]+r.Intn(5)-1, 0)
		}
		switch r.Intn(6) {
		case 0:
			d.Remove(part)
		case 1:
			d.Cut(part, r.Intn(6))
		default:
			d.Append(part, []byte(pieces[r.Intn(len(pieces))]))
		}
	}
}

// wantAlike holds that both journals tell the same.
func wantAlike(t *testing.T, name string, j, w journaling) {
	t.Helper()
	if j.First() != w.First() || j.Next() != w.Next() {
		t.Fatalf("%s: First %d, Next %d, want %d, %d", name, j.First(), j.Next(), w.First(), w.Next())
	}
	for n := w.First() - 2; n < w.Next()+2; n++ {
		b, err := j.Record(n)
		if want, none := w.Record(n); !bytes.Equal(b, want) || err != none {
			t.Fatalf("%s: Record(%d) = %q, %v, want %q, %v", name, n, b, err, want, none)
		}
	}
}

func wantAlikeDisks(t *testing.T, name string, d, w *disk.Disk) {
	t.Helper()
	if got, want := partsOf(t, d), partsOf(t, w); !slices.Equal(got, want) {
		t.Fatalf("%s: the disk has%s, want%s", name, short(got), short(want))
	}
}

// P9.1 to P9.3, R1, R3: many deeds in any order, crashes, and whatever others write, come to what the words say.
func TestAtRandom(t *testing.T) {
	r := rand.New(rand.NewSource(9))
	for range 1500 {
		room := 1 + r.Intn(90)
		d, dw := newDisk(t, room), newDisk(t, room)
		seed := r.Int63()
		disturb(rand.New(rand.NewSource(seed)), d)
		disturb(rand.New(rand.NewSource(seed)), dw)
		for range 8 {
			many := 1 + r.Intn(4)
			j, w := openAt(t, d, many), openByWords(dw, many)
			wantAlike(t, "opened", j, w)
			wantAlikeDisks(t, "opened", d, dw)
			for range r.Intn(12) {
				a := anyDeed(r, w.First(), w.Next())
				if got, want := a.do(j), a.do(w); got != want {
					t.Fatalf("many %d: %s tells %v, want %v", many, a.name, got, want)
				}
				wantAlike(t, a.name, j, w)
				wantAlikeDisks(t, a.name, d, dw)
			}
			keep := r.Intn(9) - 1
			d.Crash(keep)
			dw.Crash(keep)
			for range r.Intn(3) {
				a := anyDeed(r, w.First(), w.Next())
				if got, want := a.do(j), a.do(w); got != want {
					t.Fatalf("many %d: %s, of a disk that is down, tells %v, want %v", many, a.name, got, want)
				}
				wantAlike(t, a.name+" while it is down", j, w)
			}
			if r.Intn(2) == 0 {
				d.Up()
				dw.Up()
				seed := r.Int63()
				disturb(rand.New(rand.NewSource(seed)), d)
				disturb(rand.New(rand.NewSource(seed)), dw)
			}
		}
	}
}

// P9.1, P1: parts with any bytes.
func TestOpenAnyBytes(t *testing.T) {
	r := rand.New(rand.NewSource(99))
	for range 5000 {
		b := make([]byte, r.Intn(40))
		for i := range b {
			b[i] = []byte{0, 1, 2, 3, 0x7f, 0x80, 0x81, 0xff, byte(r.Intn(256))}[r.Intn(9)]
		}
		first := r.Intn(3)
		d := layOut(t, []laid{{first, string(b)}})
		want := wholeByWords(string(b))
		wantRecords(t, strconv.Quote(string(b)), openAt(t, d, 1), first, want...)
		wantSynced(t, strconv.Quote(string(b)), d, []laid{{first, laidOut(want...)}})
	}
}

// P1: as many parts, and records, as a disk has room for come to an end.
func TestVeryMany(t *testing.T) {
	most := api.MaxDisk / 2
	for _, many := range []int{1, 100} {
		d := newDisk(t, api.MaxDisk)
		j := openAt(t, d, many)
		for range most {
			appendAll(t, j, "a")
		}
		if err := j.Append([]byte("b")); err != api.ErrFull || j.Next() != most {
			t.Errorf("Append tells %v, Next %d", err, j.Next())
		}
		d.Crash(math.MaxInt)
		j = openAt(t, d, many)
		for n := range most {
			if b, err := j.Record(n); string(b) != "a" || err != nil {
				t.Fatalf("Record(%d) = %q, %v", n, b, err)
			}
			if err := j.Trim(n); err != nil || j.First() != n/many*many || j.Next() != most {
				t.Fatalf("Trim(%d) tells %v, First %d, Next %d", n, err, j.First(), j.Next())
			}
		}
	}
	d := layOut(t, []laid{{0, of(most, "\x01a")}})
	wantRecords(t, "one part", openAt(t, d, 1), 0, slices.Repeat([]string{"a"}, most)...)
}

// P9.3: what was trimmed takes no memory, however much comes and goes.
func TestGoneTakesNoMemory(t *testing.T) {
	d := newDisk(t, api.MaxDisk)
	j := openAt(t, d, 3)
	for n := range 100000 {
		appendAll(t, j, "record")
		if err := j.Trim(n - 10); err != nil {
			t.Fatal(err)
		}
		if cap(j.records) > 100 || cap(j.parts) > 100 || d.Used() > 200 {
			t.Fatalf("behind %d records there is room for %d, in %d parts", n, cap(j.records), cap(j.parts))
		}
	}
	if j.First() != 99987 || j.Next() != 100000 {
		t.Errorf("First %d, Next %d", j.First(), j.Next())
	}
}
