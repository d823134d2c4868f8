package wire

import (
	"bytes"
	"encoding/binary"
	"errors"
	"math"
	"math/big"
	"math/rand"
	"strings"
	"testing"
	"unsafe"

	"noggin/api"
)

const (
	ffs8 = "\xff\xff\xff\xff\xff\xff\xff\xff"
	nos8 = "\x80\x80\x80\x80\x80\x80\x80\x80"
)

// number is one, and its bytes.
type number struct {
	n     uint64
	bytes string
}

// numbers are those that the chapter's sevens of bits end at, and those beside them.
func numbers() []number {
	return []number{
		{0, "\x00"}, {1, "\x01"}, {2, "\x02"}, {9, "\x09"}, {63, "\x3f"}, {64, "\x40"}, {126, "\x7e"}, {127, "\x7f"},
		{128, "\x80\x01"}, {129, "\x81\x01"}, {130, "\x82\x01"}, {255, "\xff\x01"}, {256, "\x80\x02"}, {300, "\xac\x02"},
		{16256, "\x80\x7f"}, {16382, "\xfe\x7f"}, {16383, "\xff\x7f"},
		{16384, "\x80\x80\x01"}, {16385, "\x81\x80\x01"}, {16512, "\x80\x81\x01"}, {2097151, "\xff\xff\x7f"},
		{2097152, "\x80\x80\x80\x01"}, {1<<28 - 1, "\xff\xff\xff\x7f"},
		{1 << 28, "\x80\x80\x80\x80\x01"}, {math.MaxUint32, "\xff\xff\xff\xff\x0f"}, {1<<35 - 1, "\xff\xff\xff\xff\x7f"},
		{1 << 35, "\x80\x80\x80\x80\x80\x01"}, {api.MaxTime, "\x80\x80\x80\x80\x80\x20"}, {1<<42 - 1, "\xff\xff\xff\xff\xff\x7f"},
		{1 << 42, "\x80\x80\x80\x80\x80\x80\x01"}, {1<<49 - 1, "\xff\xff\xff\xff\xff\xff\x7f"},
		{1 << 49, "\x80\x80\x80\x80\x80\x80\x80\x01"}, {1<<56 - 1, "\xff\xff\xff\xff\xff\xff\xff\x7f"},
		{1 << 56, nos8 + "\x01"}, {1<<63 - 2, "\xfe\xff\xff\xff\xff\xff\xff\xff\x7f"}, {1<<63 - 1, ffs8 + "\x7f"},
		{1 << 63, nos8 + "\x80\x01"}, {1<<63 + 1, "\x81\x80\x80\x80\x80\x80\x80\x80\x80\x01"},
		{math.MaxUint64 - 1, "\xfe\xff\xff\xff\xff\xff\xff\xff\xff\x01"}, {math.MaxUint64, ffs8 + "\xff\x01"},
	}
}

// whole is a whole number, and its bytes.
type whole struct {
	n     int64
	bytes string
}

func wholes() []whole {
	return []whole{
		{0, "\x00"}, {-1, "\x01"}, {1, "\x02"}, {-2, "\x03"}, {2, "\x04"}, {-3, "\x05"}, {3, "\x06"},
		{62, "\x7c"}, {-63, "\x7d"}, {63, "\x7e"}, {-64, "\x7f"}, {64, "\x80\x01"}, {-65, "\x81\x01"}, {65, "\x82\x01"}, {-66, "\x83\x01"},
		{150, "\xac\x02"}, {-151, "\xad\x02"}, {8191, "\xfe\x7f"}, {-8192, "\xff\x7f"}, {8192, "\x80\x80\x01"}, {-8193, "\x81\x80\x01"},
		{math.MaxInt32, "\xfe\xff\xff\xff\x0f"}, {math.MinInt32, "\xff\xff\xff\xff\x0f"},
		{1 << 62, nos8 + "\x80\x01"}, {-1 << 62, ffs8 + "\x7f"}, {1<<62 - 1, "\xfe\xff\xff\xff\xff\xff\xff\xff\x7f"},
		{math.MaxInt64 - 1, "\xfc\xff\xff\xff\xff\xff\xff\xff\xff\x01"}, {math.MinInt64 + 1, "\xfd\xff\xff\xff\xff\xff\xff\xff\xff\x01"},
		{math.MaxInt64, "\xfe\xff\xff\xff\xff\xff\xff\xff\xff\x01"}, {math.MinInt64, ffs8 + "\xff\x01"},
	}
}

// text is one, and its bytes.
type text struct{ s, bytes string }

func texts() []text {
	long := func(n int) string { return strings.Repeat("a\x00é\xff", n)[:n] }
	return []text{
		{"", "\x00"}, {"a", "\x01a"}, {"ab", "\x02ab"}, {"\x00", "\x01\x00"}, {"\x80", "\x01\x80"}, {"\xff\xff", "\x02\xff\xff"},
		{"é", "\x02\xc3\xa9"}, {"cpu,a=2,b=1", "\x0bcpu,a=2,b=1"}, {"\x01a", "\x02\x01a"},
		{long(126), "\x7e" + long(126)}, {long(127), "\x7f" + long(127)},
		{long(128), "\x80\x01" + long(128)}, {long(129), "\x81\x01" + long(129)}, {long(300), "\xac\x02" + long(300)},
		{long(16383), "\xff\x7f" + long(16383)}, {long(16384), "\x80\x80\x01" + long(16384)},
	}
}

// befores are what bytes are put behind: none, and others, some of which look like a number's beginning.
func befores() []string {
	return []string{"", "\x00", "\x09", "\x80", "\xff", "ab", "\x02a", "\x80\x80\x00", strings.Repeat("\xff", 20), strings.Repeat("before", 1000)}
}

// wantPut holds that put tells b's bytes and those behind them, also where b is nil, or has room.
func wantPut(t *testing.T, bytesOf string, put func(b []byte) []byte) {
	t.Helper()
	if got := put(nil); string(got) != bytesOf {
		t.Errorf("behind nil: % x; want % x", got, bytesOf)
	}
	for _, before := range befores() {
		for _, room := range []int{0, 1, 100} {
			b := append(make([]byte, 0, len(before)+room), before...)
			if got := put(b); string(got) != before+bytesOf {
				t.Errorf("behind % x: % x; want % x", before, got, bytesOf)
			}
		}
	}
}

// P6.1: Number, at ordinary numbers and the edges, behind no bytes and behind others.
func TestNumber(t *testing.T) {
	for _, x := range numbers() {
		wantPut(t, x.bytes, func(b []byte) []byte { return Number(b, x.n) })
	}
}

// P6.1: Whole, at the chapter's example, at ordinary numbers and at both ends.
func TestWhole(t *testing.T) {
	for _, x := range wholes() {
		wantPut(t, x.bytes, func(b []byte) []byte { return Whole(b, x.n) })
	}
}

// P6.1: Text, at an empty one, at lengths whose numbers have one byte, two and three, and at any bytes.
func TestText(t *testing.T) {
	for _, x := range texts() {
		wantPut(t, x.bytes, func(b []byte) []byte { return Text(b, x.s) })
	}
}

// seven is the chapter's words on a number's bytes: its bits, seven a byte, the lowest first.
func seven(n *big.Int) []byte {
	var b []byte
	rest := new(big.Int).Set(n)
	for {
		x := byte(new(big.Int).And(rest, big.NewInt(127)).Int64())
		if rest.Rsh(rest, 7).Sign() == 0 {
			return append(b, x)
		}
		b = append(b, x|128)
	}
}

// doubled is the chapter's words on a whole number: twice it, or twice what it lacks to -1, and one.
func doubled(n int64) *big.Int {
	x := big.NewInt(n)
	if n >= 0 {
		return x.Mul(x, big.NewInt(2))
	}
	lacks := x.Sub(big.NewInt(-1), x)
	return lacks.Add(lacks.Mul(lacks, big.NewInt(2)), big.NewInt(1))
}

// some are numbers of all lengths of bits, and those beside each power of two.
func some() []uint64 {
	l := []uint64{0, math.MaxUint64}
	r := rand.New(rand.NewSource(6))
	for bits := range 64 {
		at := uint64(1) << bits
		l = append(l, at-1, at, at+1, ^at, -at)
		for range 50 {
			l = append(l, r.Uint64()>>bits)
		}
	}
	return l
}

// P6.1 and P6.4: Number and Whole, held against the chapter's words and the library's, and read back.
func TestAsTheWords(t *testing.T) {
	for _, n := range some() {
		want := seven(new(big.Int).SetUint64(n))
		if got := Number(nil, n); !bytes.Equal(got, want) || !bytes.Equal(got, binary.AppendUvarint(nil, n)) {
			t.Errorf("Number(%d) = % x; want % x", n, got, want)
		}
		whole := int64(n)
		want = seven(doubled(whole))
		if got := Whole(nil, whole); !bytes.Equal(got, want) || !bytes.Equal(got, binary.AppendVarint(nil, whole)) {
			t.Errorf("Whole(%d) = % x; want % x", whole, got, want)
		}
		r := Read(Whole(Number(nil, n), whole))
		if back, other := r.Number(), r.Whole(); back != n || other != whole || r.End() != nil {
			t.Errorf("%d and %d are read as %d and %d, %v", n, whole, back, other, r.End())
		}
	}
}

// wantSpot holds that End tells ErrForm, as a Spot of that place, again and again.
func wantSpot(t *testing.T, r *Reader, at int) {
	t.Helper()
	for range 3 {
		err := r.End()
		spot, is := err.(*api.Spot)
		if !is || spot.At != at || spot.Err != api.ErrForm || !errors.Is(err, api.ErrForm) {
			t.Errorf("End() = %v; want ErrForm At %d", err, at)
		}
	}
}

// wantEnd holds that End tells that all was read, again and again.
func wantEnd(t *testing.T, r *Reader) {
	t.Helper()
	for range 3 {
		if err := r.End(); err != nil {
			t.Errorf("End() = %v; want nil", err)
		}
	}
}

// wantAmiss holds that the reader is amiss at that place, and stays so, whatever it is asked.
func wantAmiss(t *testing.T, r *Reader, at int) {
	t.Helper()
	wantSpot(t, r, at)
	for range 2 {
		n, w := r.Number(), r.Whole()
		if n != 0 || w != 0 {
			t.Errorf("amiss, it reads %d and %d", n, w)
		}
		wantSpot(t, r, at)
		for _, most := range []int{math.MinInt, -1, 0, 1, 300, math.MaxInt} {
			if s := r.Text(most); s != "" {
				t.Errorf("amiss, it reads %q", s)
			}
		}
		wantSpot(t, r, at)
	}
}

// ways are what a number is read by: what each tells is 0 where it's amiss.
func ways() map[string]func(r *Reader) bool {
	return map[string]func(r *Reader) bool{
		"Number": func(r *Reader) bool { return r.Number() == 0 },
		"Whole":  func(r *Reader) bool { return r.Whole() == 0 },
		"Text":   func(r *Reader) bool { return r.Text(math.MaxInt) == "" },
	}
}

// P6.2: no bytes at all: there is an end, and nothing to be read.
func TestReadNothing(t *testing.T) {
	for _, b := range [][]byte{nil, {}, []byte("behind")[:0]} {
		wantEnd(t, Read(b))
		for name, way := range ways() {
			r := Read(b)
			if !way(r) {
				t.Errorf("%s tells something of no bytes", name)
			}
			wantAmiss(t, r, 0)
		}
	}
}

// behindSome are readers of a number, a text and a whole number, which they are behind, and of rest; and the place of that.
func behindSome(t *testing.T, rest string) (*Reader, int) {
	t.Helper()
	b := Whole(Text(Number(nil, 300), "ab"), -7)
	r := Read(append(b, rest...))
	if n, s, w := r.Number(), r.Text(2), r.Whole(); n != 300 || s != "ab" || w != -7 {
		t.Errorf("read %d, %q, %d", n, s, w)
	}
	return r, len(b)
}

// wantBad holds that neither as a number, nor as a whole one, nor as a text what stands there can be read,
// whatever is behind it, at the first place and at a later one.
func wantBad(t *testing.T, bad string) {
	t.Helper()
	for name, way := range ways() {
		r := Read([]byte(bad))
		if !way(r) {
			t.Errorf("%s tells something of % x", name, bad)
		}
		wantAmiss(t, r, 0)
		r, at := behindSome(t, bad)
		if !way(r) {
			t.Errorf("%s tells something of % x behind others", name, bad)
		}
		wantAmiss(t, r, at)
	}
}

// P6.2: bytes that end within a number.
func TestReadCut(t *testing.T) {
	for _, x := range numbers() {
		for i := range x.bytes {
			wantBad(t, x.bytes[:i])
		}
	}
	for n := range 30 {
		wantBad(t, strings.Repeat("\x80", n))
		wantBad(t, strings.Repeat("\xff", n))
	}
}

// P6.2: numbers that have more bytes than they take, and what is behind those makes no difference.
func TestReadTooManyBytes(t *testing.T) {
	for _, x := range numbers() {
		last := len(x.bytes) - 1
		for n := range 12 {
			long := x.bytes[:last] + string([]byte{x.bytes[last] | 0x80}) + strings.Repeat("\x80", n) + "\x00"
			wantBad(t, long)
			wantBad(t, long+"\x01a")
		}
	}
	wantBad(t, "\x80\x00")
	wantBad(t, "\xff\x00")
	wantBad(t, "\x81\x80\x00")
	wantBad(t, nos8+"\x00")
	wantBad(t, nos8+"\x80\x00")
	wantBad(t, nos8+"\x80\x80\x00")
	wantBad(t, ffs8+"\xff\x00")
}

// P6.2: numbers above 2^64 - 1, of ten bytes, of eleven and of more.
func TestReadTooGreat(t *testing.T) {
	for last := 2; last < 256; last++ {
		for _, first := range []string{nos8 + "\x80", ffs8 + "\xff", "\x81" + nos8} {
			wantBad(t, first+string([]byte{byte(last)}))
			wantBad(t, first+string([]byte{byte(last)})+"\x01\x01")
		}
	}
	for n := 10; n < 90; n++ {
		wantBad(t, strings.Repeat("\x80", n)+"\x01")
		wantBad(t, strings.Repeat("\xff", n)+"\x01")
		wantBad(t, strings.Repeat("\xff", n)+"\x7f")
	}
	wantBad(t, ffs8+"\xff\x81\x01")
	wantBad(t, nos8+"\x80\x81\x00")
	wantBad(t, strings.Repeat("\xff", 100000))
}

// P6.2: those of ten bytes that fit are read.
func TestReadTenBytes(t *testing.T) {
	r := Read([]byte(ffs8 + "\xff\x01" + nos8 + "\x80\x01" + ffs8 + "\xff\x01" + nos8 + "\x80\x01"))
	if n, other := r.Number(), r.Number(); n != math.MaxUint64 || other != 1<<63 {
		t.Error(n, other)
	}
	if n, other := r.Whole(), r.Whole(); n != math.MinInt64 || other != 1<<62 {
		t.Error(n, other)
	}
	wantEnd(t, r)
}

// P6.2: numbers and whole numbers are read, at the first place and behind others, and what is behind them is left.
func TestReadNumbers(t *testing.T) {
	for _, behind := range []string{"", "\x00", "\x80", "\xff\xff", "ab"} {
		for _, x := range numbers() {
			for _, r := range readers(t, x.bytes+behind) {
				if n := r.Number(); n != x.n {
					t.Errorf("% x is read as %d", x.bytes, n)
				}
				wantBehind(t, r, behind)
			}
		}
		for _, x := range wholes() {
			for _, r := range readers(t, x.bytes+behind) {
				if n := r.Whole(); n != x.n {
					t.Errorf("% x is read as %d", x.bytes, n)
				}
				wantBehind(t, r, behind)
			}
		}
	}
}

// readers are at those bytes, as the first ones and as later ones.
func readers(t *testing.T, b string) []*Reader {
	t.Helper()
	r, _ := behindSome(t, b)
	return []*Reader{Read([]byte(b)), r}
}

// wantBehind holds that a reader is where so many of its bytes are left.
func wantBehind(t *testing.T, r *Reader, left string) {
	t.Helper()
	if left == "" {
		wantEnd(t, r)
		return
	}
	wantSpot(t, r, len(r.bytes)-len(left))
}

// P6.2: texts are read with as many bytes as most and with fewer; with one more they are amiss.
func TestReadTexts(t *testing.T) {
	for _, x := range texts() {
		for _, behind := range []string{"", "\x00", "\x80", "ab"} {
			for _, most := range []int{len(x.s), len(x.s) + 1, 1 << 20, math.MaxInt} {
				for _, r := range readers(t, x.bytes+behind) {
					if s := r.Text(most); s != x.s {
						t.Errorf("Text(%d) of % x = %q", most, x.bytes, s)
					}
					wantBehind(t, r, behind)
				}
			}
			for _, most := range []int{len(x.s) - 1, len(x.s) / 2, 0, -1, -2, -128, math.MinInt32, math.MinInt} {
				if most >= len(x.s) {
					continue
				}
				for _, r := range readers(t, x.bytes+behind) {
					if s := r.Text(most); s != "" {
						t.Errorf("Text(%d) of % x = %q", most, x.bytes, s)
					}
					wantAmiss(t, r, len(r.bytes)-len(x.bytes+behind))
				}
			}
		}
	}
}

// P6.2: a most of 0 lets an empty text through and no other; one below 0 none, not even an empty one.
func TestReadLeastMost(t *testing.T) {
	r := Read([]byte("\x00\x00\x01a"))
	if s := r.Text(0); s != "" {
		t.Error(s)
	}
	wantSpot(t, r, 1)
	if s := r.Text(0); s != "" {
		t.Error(s)
	}
	wantSpot(t, r, 2)
	if s := r.Text(0); s != "" {
		t.Error(s)
	}
	wantAmiss(t, r, 2)
	r = Read([]byte{0})
	if s := r.Text(-1); s != "" {
		t.Error(s)
	}
	wantAmiss(t, r, 0)
}

// P6.2: texts that have more bytes than there are, by one, by many, and by more than any text has.
func TestReadTextOfMoreThanThereIs(t *testing.T) {
	for _, x := range texts() {
		for cut := range min(len(x.s), 40) {
			for _, r := range readers(t, x.bytes[:len(x.bytes)-cut-1]) {
				at := len(r.bytes) - len(x.bytes) + cut + 1
				if s := r.Text(math.MaxInt); s != "" {
					t.Errorf("a text that lacks %d bytes is read as %q", cut+1, s)
				}
				wantAmiss(t, r, at)
			}
		}
	}
	for _, many := range []uint64{
		4, 128, 16384, math.MaxInt32, 1 << 31, 1<<32 - 1, 1 << 32, 1<<32 + 1, 1<<32 + 3, 1<<62 - 1, 1 << 62,
		1<<63 - 10, 1<<63 - 1, 1 << 63, 1<<63 + 1, 1<<63 + 3, math.MaxUint64 - 10, math.MaxUint64 - 3, math.MaxUint64 - 1, math.MaxUint64,
	} {
		for _, most := range []int{0, 1, 3, 300, math.MaxInt32, math.MaxInt - 1, math.MaxInt, -1, -3, math.MinInt} {
			for _, r := range readers(t, string(Number(nil, many))+"abc") {
				at := len(r.bytes) - len(Number(nil, many)) - 3
				if s := r.Text(most); s != "" {
					t.Errorf("Text(%d) of %d bytes is %q", most, many, s)
				}
				wantAmiss(t, r, at)
			}
		}
	}
}

// P6.2: once amiss it stays so, though all that is behind could be read, and At is the first place.
func TestStaysAmiss(t *testing.T) {
	for _, bad := range []string{"\x80\x00", ffs8 + "\xff\x02", nos8 + "\x80\x80\x01"} {
		for _, behind := range []string{"", "\x05", "\x05\x01a\x02", "\x80\x00", "\xff"} {
			for name, way := range ways() {
				r := Read([]byte("\x01" + bad + behind))
				if n := r.Number(); n != 1 {
					t.Error(n)
				}
				if !way(r) {
					t.Errorf("%s tells something of % x", name, bad)
				}
				wantAmiss(t, r, 1)
			}
		}
	}
	r := Read([]byte("\x01a\x03abc\x02ab"))
	if s := r.Text(1); s != "a" {
		t.Error(s)
	}
	if s := r.Text(2); s != "" {
		t.Error(s)
	}
	wantAmiss(t, r, 2)
}

// P6.2: what is behind the end is amiss there, and it wasn't before that was asked.
func TestReadBehindTheEnd(t *testing.T) {
	for name, way := range ways() {
		r := Read([]byte("\x01\x02"))
		r.Number()
		wantSpot(t, r, 1)
		if n := r.Number(); n != 2 {
			t.Error(n)
		}
		wantEnd(t, r)
		if !way(r) {
			t.Errorf("%s tells something of what is behind the end", name)
		}
		wantAmiss(t, r, 2)
	}
}

// P6.2: End with bytes left is At the byte behind what was read, and doesn't hinder what is read behind it.
func TestEndWithBytesLeft(t *testing.T) {
	r := Read([]byte("\x05\xac\x02\x01\x03\x02ab\x00"))
	wantSpot(t, r, 0)
	if n := r.Number(); n != 5 {
		t.Error(n)
	}
	wantSpot(t, r, 1)
	if n := r.Number(); n != 300 {
		t.Error(n)
	}
	wantSpot(t, r, 3)
	if n := r.Whole(); n != -1 {
		t.Error(n)
	}
	wantSpot(t, r, 4)
	if n := r.Whole(); n != -2 {
		t.Error(n)
	}
	wantSpot(t, r, 5)
	if s := r.Text(2); s != "ab" {
		t.Error(s)
	}
	wantSpot(t, r, 8)
	if s := r.Text(0); s != "" {
		t.Error(s)
	}
	wantEnd(t, r)
}

// firstByTheWords is the number at b's first byte, by the chapter's words, worked out in numbers of any length.
func firstByTheWords(b []byte) (uint64, int) {
	n := new(big.Int)
	for i, x := range b {
		n.Or(n, new(big.Int).Lsh(big.NewInt(int64(x&127)), uint(7*i)))
		if x >= 128 {
			continue
		}
		if !bytes.Equal(b[:i+1], seven(n)) || !n.IsUint64() {
			return 0, 0
		}
		return n.Uint64(), i + 1
	}
	return 0, 0
}

// hold reads all of b, in an order that r tells, and holds that against the chapter's words.
func hold(t *testing.T, r *rand.Rand, b []byte) {
	t.Helper()
	reader, at := Read(b), 0
	for at < len(b) {
		n, size := firstByTheWords(b[at:])
		switch way := r.Intn(3); {
		case size == 0:
			wantAmissBy(t, reader, way, at)
			return
		case way == 0:
			if got := reader.Number(); got != n {
				t.Fatalf("% x: Number() = %d At %d; want %d", b, got, at, n)
			}
		case way == 1:
			if got := reader.Whole(); doubled(got).Cmp(new(big.Int).SetUint64(n)) != 0 {
				t.Fatalf("% x: Whole() = %d At %d; want what %d stands for", b, got, at, n)
			}
		default:
			most := r.Intn(12) - 1
			if n > uint64(len(b)-at-size) || int(n) > most {
				if got := reader.Text(most); got != "" {
					t.Fatalf("% x: Text(%d) = %q At %d", b, most, got, at)
				}
				wantAmiss(t, reader, at)
				return
			}
			if got := reader.Text(most); got != string(b[at+size:at+size+int(n)]) {
				t.Fatalf("% x: Text(%d) = %q At %d", b, most, got, at)
			}
			size += int(n)
		}
		if at += size; at < len(b) {
			wantSpot(t, reader, at)
		}
	}
	wantEnd(t, reader)
}

// wantAmissBy holds that what is read in that way is amiss at that place.
func wantAmissBy(t *testing.T, r *Reader, way, at int) {
	t.Helper()
	read := ways()[[]string{"Number", "Whole", "Text"}[way]]
	if !read(r) {
		t.Errorf("what is amiss is read, At %d", at)
	}
	wantAmiss(t, r, at)
}

// P6.2 and P1: all of one and of two bytes, and others at random, many of them of numbers that are nearly amiss.
func TestReadIsAsTheWords(t *testing.T) {
	r := rand.New(rand.NewSource(66))
	for x := range 256 {
		hold(t, r, []byte{byte(x)})
		for y := range 256 {
			hold(t, r, []byte{byte(x), byte(y)})
		}
	}
	pieces := []string{
		"\x00", "\x01", "\x02", "\x03", "\x7f", "\x80", "\xff", "\x81", "a", "abc", "\x80\x01", "\x03abc", "\x04abc",
		nos8, ffs8, nos8 + "\x80", ffs8 + "\xff", nos8 + "\x80\x01", ffs8 + "\xff\x01", ffs8 + "\xff\x02",
	}
	for range 50000 {
		var b []byte
		for range r.Intn(8) {
			b = append(b, pieces[r.Intn(len(pieces))]...)
		}
		hold(t, r, b)
	}
	for range 5000 {
		b := make([]byte, r.Intn(30))
		r.Read(b)
		hold(t, r, b)
	}
}

// puts are calls that put something behind b.
func puts() map[string]func(b []byte) []byte {
	return map[string]func(b []byte) []byte{
		"Number 0":   func(b []byte) []byte { return Number(b, 0) },
		"Number 300": func(b []byte) []byte { return Number(b, 300) },
		"Number max": func(b []byte) []byte { return Number(b, math.MaxUint64) },
		"Whole 0":    func(b []byte) []byte { return Whole(b, 0) },
		"Whole -300": func(b []byte) []byte { return Whole(b, -300) },
		"Whole min":  func(b []byte) []byte { return Whole(b, math.MinInt64) },
		"Text none":  func(b []byte) []byte { return Text(b, "") },
		"Text ab":    func(b []byte) []byte { return Text(b, "ab") },
		"Text long":  func(b []byte) []byte { return Text(b, strings.Repeat("x", 200)) },
	}
}

// P6.3: b stays as it is where it is put behind, also behind its length, and is shared by no answer.
func TestPutBytesStay(t *testing.T) {
	for name, put := range puts() {
		for _, n := range []int{0, 1, 3, 50} {
			for _, room := range []int{0, 1, 2, 10, 11, 300} {
				all := bytes.Repeat([]byte{0xee}, n+room)
				got := put(all[:n])
				if !bytes.Equal(all, bytes.Repeat([]byte{0xee}, n+room)) {
					t.Errorf("%s changed what was handed in: % x", name, all)
				}
				told := bytes.Clone(got)
				clear(all)
				if !bytes.Equal(got, told) {
					t.Errorf("%s shares memory with what was handed in", name)
				}
				wantOwn(t, name, got, all)
			}
		}
	}
}

// wantOwn holds that nothing of an answer, not even its room, lies in what was handed in.
func wantOwn(t *testing.T, name string, got, handed []byte) {
	t.Helper()
	if overlap(got[:cap(got)], handed) {
		t.Errorf("%s: the answer lies in what was handed in", name)
	}
}

func overlap(a, b []byte) bool {
	if len(a) == 0 || len(b) == 0 {
		return false
	}
	from, other := uintptr(unsafe.Pointer(&a[0])), uintptr(unsafe.Pointer(&b[0]))
	return from < other+uintptr(len(b)) && other < from+uintptr(len(a))
}

// P6.3: two answers for one b share no memory, and an answer that is put behind again stays as it is.
func TestAnswersApart(t *testing.T) {
	for name, put := range puts() {
		for other, also := range puts() {
			b := append(make([]byte, 0, 500), "before"...)
			first := put(b)
			told := bytes.Clone(first)
			second, third := also(b), also(first)
			for _, x := range [][]byte{second, third} {
				if overlap(first[:cap(first)], x[:cap(x)]) {
					t.Errorf("%s and %s share memory", name, other)
				}
				clear(x[:cap(x)])
			}
			if !bytes.Equal(first, told) || string(b) != "before" {
				t.Errorf("%s changed what %s told", other, name)
			}
		}
	}
}

// P6.3: a text that is handed in isn't held by what is told.
func TestPutTextIsNew(t *testing.T) {
	b := []byte("text")
	s := unsafe.String(&b[0], len(b))
	got := Text(nil, s)
	wantOwn(t, "Text", got, b)
	clear(b)
	if string(got) != "\x04text" {
		t.Errorf("what was told is %q now", got)
	}
}

// P6.3: reading leaves b as it is, also behind its length, which isn't read.
func TestReadBytesStay(t *testing.T) {
	all := []byte("\x05\x01\x02ab\x80\x01\x02cd")
	before := bytes.Clone(all)
	for n := range len(all) {
		r := Read(all[:n])
		for range 2 {
			r.Number()
			r.Whole()
			r.Text(2)
			r.End()
		}
		if !bytes.Equal(all, before) {
			t.Fatalf("the bytes are % x; they were % x", all, before)
		}
	}
	r := Read(all[:6])
	r.Number()
	r.Whole()
	r.Text(2)
	if n := r.Number(); n != 0 {
		t.Errorf("read %d of bytes that are behind b's", n)
	}
	wantAmiss(t, r, 5)
	r = Read(all[:4])
	r.Number()
	r.Whole()
	if s := r.Text(2); s != "" {
		t.Errorf("read %q of bytes that are behind b's", s)
	}
	wantAmiss(t, r, 2)
}

// P6.3: a text that is told shares no memory with b.
func TestReadTextIsNew(t *testing.T) {
	b := []byte("\x02ab\x01c")
	r := Read(b)
	first, second := r.Text(2), r.Text(1)
	clear(b)
	if first != "ab" || second != "c" {
		t.Errorf("what was told is %q and %q now", first, second)
	}
}

// P6.3 and R2: two readers of the same bytes, and two Spots of one reader, have nothing to do with each other.
func TestReadersApart(t *testing.T) {
	b := []byte{7, 8, 0x80}
	r, other := Read(b), Read(b)
	r.Number()
	r.Number()
	r.Number()
	wantAmiss(t, r, 2)
	wantSpot(t, other, 0)
	if n := other.Number(); n != 7 {
		t.Error(n)
	}
	for _, x := range []*Reader{r, other} {
		at := map[*Reader]int{r: 2, other: 1}[x]
		x.End().(*api.Spot).At = 99
		x.End().(*api.Spot).Err = api.ErrArg
		wantSpot(t, x, at)
	}
	wantAmiss(t, r, 2)
	if n := other.Number(); n != 8 {
		t.Error(n)
	}
}

// P6.4: what was written, in rows of all kinds, is read as it was, to the end, with its bytes again.
func TestReadAsWritten(t *testing.T) {
	r := rand.New(rand.NewSource(666))
	for range 3000 {
		seed, many := r.Int63(), r.Intn(30)
		b := write(rand.New(rand.NewSource(seed)), many)
		again := rand.New(rand.NewSource(seed))
		reader := Read(b)
		for range many {
			n, w, s := anything(again)
			if got := reader.Number(); got != n {
				t.Fatalf("%d is read as %d", n, got)
			}
			if got := reader.Whole(); got != w {
				t.Fatalf("%d is read as %d", w, got)
			}
			if got := reader.Text(len(s)); got != s {
				t.Fatalf("%q is read as %q", s, got)
			}
		}
		wantEnd(t, reader)
	}
}

func anything(r *rand.Rand) (uint64, int64, string) {
	s := make([]byte, r.Intn(140))
	r.Read(s)
	return r.Uint64() >> r.Intn(64), int64(r.Uint64()) >> r.Intn(64), string(s)
}

// write is so many of each kind, one behind the other.
func write(r *rand.Rand, many int) []byte {
	var b []byte
	for range many {
		n, w, s := anything(r)
		b = Text(Whole(Number(b, n), w), s)
	}
	return b
}

// P6.4: one text, or number, of each of the edges, behind each other.
func TestReadEdgesAsWritten(t *testing.T) {
	var b []byte
	for _, x := range numbers() {
		b = Number(b, x.n)
	}
	for _, x := range wholes() {
		b = Whole(b, x.n)
	}
	for _, x := range texts() {
		b = Text(b, x.s)
	}
	r := Read(b)
	for _, x := range numbers() {
		if n := r.Number(); n != x.n {
			t.Errorf("%d is read as %d", x.n, n)
		}
	}
	for _, x := range wholes() {
		if n := r.Whole(); n != x.n {
			t.Errorf("%d is read as %d", x.n, n)
		}
	}
	for _, x := range texts() {
		if s := r.Text(len(x.s)); s != x.s {
			t.Errorf("%q is read as %q", x.s, s)
		}
	}
	wantEnd(t, r)
}
