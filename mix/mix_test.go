package mix

import (
	"bytes"
	"hash/fnv"
	"math"
	"math/rand"
	"strings"
	"testing"
)

// mixes are known ones of FNV-1a; those of four letters or digits have parts at the ends, beside
// them and at the middle.
func mixes() map[string]uint32 {
	return map[string]uint32{
		"":         0x811c9dc5,
		"a":        0xe40c292c,
		"b":        0xe70c2de5,
		"foobar":   0xbf9cf968,
		"\x00":     0x050c5d1f,
		"\xff":     0x7a0b824e,
		"14ki":     0x8e8b0000,
		"3xaf":     0xb08b0001,
		"1v8w":     0xb1147fff,
		"26et":     0xa28f8000,
		"0r3v":     0xdd26fffe,
		"2jum":     0x4bd1ffff,
		"\x00\x00": 0x117697cd,
	}
}

// samples are all bytes alone, bytes at random of many lengths, and one long list.
func samples() [][]byte {
	l := [][]byte{nil, {}}
	for s := range mixes() {
		l = append(l, []byte(s))
	}
	for x := range 256 {
		l = append(l, []byte{byte(x)})
	}
	r := rand.New(rand.NewSource(1))
	for range 1000 {
		b := make([]byte, r.Intn(40))
		r.Read(b)
		l = append(l, b)
	}
	return append(l, []byte(strings.Repeat("noggin ", 10000)))
}

// thresholds have the chapter's ends, those beside them, and the ends of int, from low to high.
func thresholds() []int {
	return []int{
		math.MinInt, math.MinInt32, -65537, -65536, -65535, -2, -1, 0, 1, 2, 255, 256, 0x292b, 0x292c, 0x292d,
		32767, 32768, 40000, 65534, 65535, 65536, 65537, 131071, 131072, math.MaxInt32, math.MaxInt,
	}
}

// byTheWords works the mix out in numbers so wide that no product wraps round.
func byTheWords(b []byte) uint64 {
	mix := uint64(2166136261)
	for _, x := range b {
		mix = (mix ^ uint64(x)) * 16777619 % (1 << 32)
	}
	return mix
}

// P3.1: Hash, at the chapter's example, at no bytes at all and at others.
func TestHash(t *testing.T) {
	for s, want := range mixes() {
		if got := Hash([]byte(s)); got != want {
			t.Errorf("Hash(%q) = %08x; want %08x", s, got, want)
		}
	}
	if got := Hash(nil); got != 2166136261 {
		t.Errorf("Hash(nil) = %d", got)
	}
}

// P3.1: Hash, held against the chapter's words and against the library's FNV-1a.
func TestHashIsTheMix(t *testing.T) {
	for _, b := range samples() {
		got := Hash(b)
		if want := byTheWords(b); uint64(got) != want {
			t.Errorf("Hash(%x) = %08x; the words say %08x", b, got, want)
		}
		h := fnv.New32a()
		h.Write(b)
		if got != h.Sum32() {
			t.Errorf("Hash(%x) = %08x; the library has %08x", b, got, h.Sum32())
		}
	}
}

// P3.1: the order of bytes, and zeros among them, make a difference.
func TestHashTellsApart(t *testing.T) {
	for _, c := range [][2]string{{"ab", "ba"}, {"", "\x00"}, {"\x00", "\x00\x00"}, {"a", "a\x00"}, {"a", "\x00a"}} {
		if Hash([]byte(c[0])) == Hash([]byte(c[1])) {
			t.Errorf("%q and %q have one mix", c[0], c[1])
		}
	}
}

// P3.1: Part, at the ends of the parts too.
func TestPart(t *testing.T) {
	for s, want := range map[string]int{
		"": 0x9dc5, "a": 0x292c, "foobar": 0xf968,
		"14ki": 0, "3xaf": 1, "1v8w": 32767, "26et": 32768, "0r3v": 65534, "2jum": 65535,
	} {
		if got := Part([]byte(s)); got != want {
			t.Errorf("Part(%q) = %d; want %d", s, got, want)
		}
	}
	if got := Part(nil); got != 0x9dc5 {
		t.Errorf("Part(nil) = %d", got)
	}
}

// P3.1: Part is the mix modulo 65536.
func TestPartIsOfTheMix(t *testing.T) {
	for _, b := range samples() {
		if got, want := Part(b), int(byTheWords(b)%65536); got != want {
			t.Errorf("Part(%x) = %d; want %d", b, got, want)
		}
	}
}

// P3.1: Keep, at the part itself and beside it, at both ends, and at thresholds that no part can be.
func TestKeep(t *testing.T) {
	for _, c := range []struct {
		text      string
		threshold int
		keep      bool
	}{
		{"a", 0x292b, true}, {"a", 0x292c, true}, {"a", 0x292d, false},
		{"a", 0, true}, {"a", 65535, false}, {"a", 65536, false},
		{"", 0, true}, {"", 0x9dc5, true}, {"", 0x9dc6, false}, {"", 65536, false},
		{"14ki", -1, true}, {"14ki", 0, true}, {"14ki", 1, false},
		{"3xaf", 1, true}, {"3xaf", 2, false},
		{"1v8w", 32767, true}, {"1v8w", 32768, false},
		{"26et", 32768, true}, {"26et", 32769, false},
		{"0r3v", 65534, true}, {"0r3v", 65535, false},
		{"2jum", 65535, true}, {"2jum", 65536, false}, {"2jum", 65537, false},
		{"14ki", -65536, true}, {"14ki", math.MinInt, true},
		{"2jum", 131071, false}, {"2jum", math.MaxInt, false},
	} {
		if got := Keep([]byte(c.text), c.threshold); got != c.keep {
			t.Errorf("Keep(%q, %d) = %v", c.text, c.threshold, got)
		}
	}
	if !Keep(nil, 0x9dc5) || Keep(nil, 0x9dc6) {
		t.Error("Keep(nil) isn't that of no bytes")
	}
}

// P3.1: Keep, held against the chapter's words.
func TestKeepIsByThePart(t *testing.T) {
	for _, b := range samples() {
		part := int(byTheWords(b) % 65536)
		for _, threshold := range append(thresholds(), part-1, part, part+1) {
			if got := Keep(b, threshold); got != (part >= threshold) {
				t.Errorf("Keep(%x, %d) = %v; its part is %d", b, threshold, got, part)
			}
		}
	}
}

// P3.2: the bytes stay as they are, also behind their length.
func TestBytesStay(t *testing.T) {
	for _, b := range samples() {
		all := append(bytes.Clone(b), "behind"...)
		before := bytes.Clone(all)
		handed := all[:len(b)]
		Hash(handed)
		Part(handed)
		Keep(handed, 0)
		Keep(handed, 32768)
		Keep(handed, 65536)
		if !bytes.Equal(all, before) {
			t.Errorf("the bytes are %x; they were %x", all, before)
		}
	}
}

// P3.2 and R2: nothing is kept: what is asked between makes no difference, nor do the bytes' later changes.
func TestNothingIsKept(t *testing.T) {
	b := []byte("series")
	mix, part := Hash(b), Part(b)
	b[0] = 'S'
	Hash(b)
	Part([]byte("another"))
	Keep([]byte("another"), 7)
	again := []byte("series")
	if Hash(again) != mix || Part(again) != part || !Keep(again, part) || Keep(again, part+1) {
		t.Error("the same bytes are answered otherwise")
	}
	if uint64(Hash(b)) != byTheWords(b) {
		t.Error("changed bytes are answered as they were")
	}
}

// P3.3: what is kept at a threshold is kept at each lower one.
func TestKeptAtEachLower(t *testing.T) {
	for _, b := range samples() {
		kept := true
		for _, threshold := range thresholds() {
			now := Keep(b, threshold)
			if now && !kept {
				t.Errorf("%x is kept at %d, but not at a lower one", b, threshold)
			}
			kept = now
		}
	}
}

// P3.3: at each threshold from 0 to 65536, and beside them, one that is kept is kept just up to its part.
func TestKeptUpToThePart(t *testing.T) {
	for s := range mixes() {
		kept := 0
		for threshold := -1; threshold <= 65537; threshold++ {
			if Keep([]byte(s), threshold) {
				kept++
			}
		}
		if want := Part([]byte(s)) + 2; kept != want {
			t.Errorf("%q is kept at %d thresholds; want %d", s, kept, want)
		}
	}
}

// P3.3: at 0, and below, all are kept; at 65536, and above, none.
func TestAllAndNone(t *testing.T) {
	for _, b := range samples() {
		for _, threshold := range thresholds() {
			if threshold <= 0 && !Keep(b, threshold) {
				t.Errorf("%x isn't kept at %d", b, threshold)
			}
			if threshold >= 65536 && Keep(b, threshold) {
				t.Errorf("%x is kept at %d", b, threshold)
			}
		}
	}
}
