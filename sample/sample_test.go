package sample

import (
	"math"
	"math/rand"
	"slices"
	"strconv"
	"strings"
	"sync"
	"testing"

	"noggin/api"
	"noggin/mix"
)

// The chapter's greatest numbers of classes and of levels, and its greatest threshold.
const (
	mostClasses = 4
	mostLevels  = 8
	mostParts   = 65536
)

// mayByWords tells whether they are thresholds, by the chapter's words: what is amiss is counted.
func mayByWords(l [][]int) bool {
	amiss := 0
	if !(1 <= len(l) && len(l) <= mostClasses) {
		amiss++
	}
	for i, class := range l {
		if !(1 <= len(class) && len(class) <= mostLevels) || len(class) != len(l[(i+1)%len(l)]) {
			amiss++
		}
		for level, x := range class {
			if !(0 <= x && x <= mostParts) || level == 0 && x != 0 || level > 0 && x < class[level-1] {
				amiss++
			}
		}
	}
	return amiss == 0
}

// partByWords is the part of a key's mix, in numbers so wide that no product wraps round.
func partByWords(key string) int {
	mixed := uint64(2166136261)
	for i := range len(key) {
		mixed = (mixed ^ uint64(key[i])) * 16777619 % (1 << 32)
	}
	return int(mixed % mostParts)
}

// keepByWords tells whether a key is kept, by the chapter's words: the threshold is looked for among all.
func keepByWords(l [][]int, class, level int, key string) (bool, error) {
	for c, list := range l {
		for v, x := range list {
			if c == class && v == level && mayByWords(l) {
				return partByWords(key) >= x, nil
			}
		}
	}
	return false, api.ErrArg
}

// lostByWords is how many of the keys aren't kept, by the chapter's words.
func lostByWords(l [][]int, class, level int, keys []string) (int, error) {
	// Also where there are no keys the error is told.
	if _, err := keepByWords(l, class, level, ""); err != nil {
		return 0, err
	}
	left := slices.DeleteFunc(slices.Clone(keys), func(key string) bool {
		kept, _ := keepByWords(l, class, level, key)
		return kept
	})
	return len(left), nil
}

// keysOfParts has a key of each part, from 0 on.
var keysOfParts = sync.OnceValue(func() []string {
	l := make([]string, mostParts)
	many := 0
	for i := 0; many < mostParts; i++ {
		key := strconv.Itoa(i)
		if part := partByWords(key); l[part] == "" {
			l[part] = key
			many++
		}
	}
	return l
})

// partsOfKeys are keys, and texts that are none, with the parts of their mixes.
func partsOfKeys() map[string]int {
	return map[string]int{
		"": 0x9dc5, "a": 0x292c, "b": 0x2de5, "A": 0xf6cc, "foobar": 0xf968, "cpu": 0xf989, "cpu,h=1": 0x944b,
		"mem,a=1,b=2": 0x158e, " ": 0x8f7f, "\n": 0x6cdd, "\x00": 0x5d1f, "\x00\x00\x00\x00": 0xf515, "a\x00": 0xd044,
		"\x80": 0x939f, "\xc3": 0x3072, "a\xc3": 0x033d, "é": 0xe8c1, "\xff": 0x824e, "\xff\xfe\xfd": 0xd617,
		strings.Repeat("a", 300): 0x8f01, strings.Repeat("a", 301): 0xb420,
		// Parts at the ends, beside them, and at the middle.
		"14ki": 0, "3xaf": 1, "1v8w": 0x7fff, "26et": 0x8000, "0r3v": 0xfffe, "2jum": 0xffff,
	}
}

// someKeys are these keys, in their order.
func someKeys() []string {
	l := []string{}
	for key := range partsOfKeys() {
		l = append(l, key)
	}
	slices.Sort(l)
	return l
}

// edges are numbers at the ends of those there are, and at the ends of classes, of levels and of thresholds.
func edges() []int {
	return []int{math.MinInt, math.MinInt + 1, math.MinInt32, -65536, -256, -9, -8, -4, -2, -1, 0, 1, 2, 3, 4, 5, 6, 7, 8,
		9, 10, 255, 256, 257, 65534, 65535, 65536, 65537, 131072, math.MaxInt32, 1 << 32, math.MaxInt - 1, math.MaxInt}
}

// copyOf is a copy of thresholds, with nothing behind them in memory.
func copyOf(l [][]int) [][]int {
	copied := make([][]int, 0, len(l))
	for _, class := range l {
		copied = append(copied, slices.Clip(slices.Clone(class)))
	}
	return copied
}

// with is a copy of thresholds of which the one of a class at a level is another.
func with(l [][]int, class, level, x int) [][]int {
	l = copyOf(l)
	l[class][level] = x
	return l
}

// withClass is a copy of thresholds of which those of a class are others.
func withClass(l [][]int, class int, list []int) [][]int {
	l = copyOf(l)
	l[class] = list
	return l
}

// good are thresholds of so many classes and levels, none as great as another but at level 0, if so many may be.
func good(classes, levels int) [][]int {
	l := [][]int{}
	for c := range classes {
		list := []int{}
		for v := range levels {
			if v == 0 {
				list = append(list, 0)
			} else {
				list = append(list, min(8000*v+2000*c, mostParts))
			}
		}
		l = append(l, list)
	}
	return l
}

// eachShape asks of each number of classes and of levels that may be.
func eachShape(ask func(classes, levels int)) {
	for classes := 1; classes <= mostClasses; classes++ {
		for levels := 1; levels <= mostLevels; levels++ {
			ask(classes, levels)
		}
	}
}

// eachPlace asks of each class and each level.
func eachPlace(l [][]int, ask func(class, level int)) {
	for class := range l {
		for level := range l[class] {
			ask(class, level)
		}
	}
}

// memory is what thresholds are, and what lies behind them there.
type memory struct {
	lists  [][]int
	copies [][]int // of what the lists have
}

func memoryOf(l [][]int) memory {
	m := memory{lists: slices.Clone(l[:cap(l)])}
	for _, list := range m.lists {
		m.copies = append(m.copies, slices.Clone(list[:cap(list)]))
	}
	return m
}

// same tells whether two lists are one in memory.
func same(a, b []int) bool {
	if len(a) != len(b) || cap(a) != cap(b) || (a == nil) != (b == nil) {
		return false
	}
	return cap(a) == 0 || &a[:1][0] == &b[:1][0]
}

// wantStay tells, behind a call, whether thresholds are as they were.
func wantStay(t *testing.T, call string, l [][]int, was memory) {
	t.Helper()
	for i, list := range l[:cap(l)] {
		if !same(list, was.lists[i]) || !slices.Equal(list[:cap(list)], was.copies[i]) {
			t.Errorf("%s changed %v to %v", call, was.copies, l[:cap(l)])
		}
	}
}

// wantMay holds whether they are thresholds, which asking doesn't change.
func wantMay(t *testing.T, l [][]int, want bool) {
	t.Helper()
	was := memoryOf(l)
	for range 2 {
		if may := May(l); may != want {
			t.Errorf("May of %v = %v", l, may)
		}
		wantStay(t, "May", l, was)
	}
}

// wantTold holds what Keep tells of a key, which asking doesn't change.
func wantTold(t *testing.T, l [][]int, class, level int, key string, want bool, wantErr error) {
	t.Helper()
	was := memoryOf(l)
	for range 2 {
		if kept, err := Keep(l, class, level, key); kept != want || err != wantErr {
			t.Errorf("%v: Keep of %d, %d, %.60q = %v, %v, want %v, %v", l, class, level, key, kept, err, want, wantErr)
		}
		wantStay(t, "Keep", l, was)
	}
}

// wantKept holds whether a key is kept.
func wantKept(t *testing.T, l [][]int, class, level int, key string, want bool) {
	t.Helper()
	wantTold(t, l, class, level, key, want, nil)
}

// wantLostTold holds what Lost tells of keys, which asking doesn't change.
func wantLostTold(t *testing.T, l [][]int, class, level int, keys []string, want int, wantErr error) {
	t.Helper()
	was, wereKeys := memoryOf(l), slices.Clone(keys[:cap(keys)])
	for range 2 {
		if lost, err := Lost(l, class, level, keys); lost != want || err != wantErr {
			t.Errorf("%v: Lost of %d, %d and %d keys, %.60q = %d, %v, want %d, %v", l, class, level, len(keys), keys, lost,
				err, want, wantErr)
		}
		wantStay(t, "Lost", l, was)
		if !slices.Equal(keys[:cap(keys)], wereKeys) {
			t.Errorf("Lost changed keys %.60q to %.60q", wereKeys, keys[:cap(keys)])
		}
	}
}

// wantLost holds how many of the keys aren't kept.
func wantLost(t *testing.T, l [][]int, class, level int, keys []string, want int) {
	t.Helper()
	wantLostTold(t, l, class, level, keys, want, nil)
}

// wantByWords holds that each call tells of thresholds, and of keys, what the chapter's words tell.
func wantByWords(t *testing.T, l [][]int, class, level int, keys []string) {
	t.Helper()
	if may, want := May(l), mayByWords(l); may != want {
		t.Fatalf("May of %v = %v", l, may)
	}
	for _, key := range keys {
		want, wantErr := keepByWords(l, class, level, key)
		if kept, err := Keep(l, class, level, key); kept != want || err != wantErr {
			t.Fatalf("%v: Keep of %d, %d, %q = %v, %v, want %v, %v", l, class, level, key, kept, err, want, wantErr)
		}
	}
	want, wantErr := lostByWords(l, class, level, keys)
	if lost, err := Lost(l, class, level, keys); lost != want || err != wantErr {
		t.Fatalf("%v: Lost of %d, %d, %q = %d, %v, want %d, %v", l, class, level, keys, lost, err, want, wantErr)
	}
}

// wrongShapes are no thresholds by how many classes there are, or by how many levels, alone.
func wrongShapes() [][][]int {
	l := [][][]int{nil, {}, {nil}, {{}}, {nil, {}}, {nil, nil, nil, nil}, {nil, nil, nil, nil, nil}}
	for _, classes := range []int{5, 6, 8, 9, 256, 257, 260} {
		for _, levels := range []int{0, 1, 2, 8, 9} {
			l = append(l, good(classes, levels))
		}
	}
	for classes := 1; classes <= mostClasses; classes++ {
		for _, levels := range []int{0, 9, 10, 16, 256, 257, 264, 5000} {
			l = append(l, good(classes, levels))
		}
	}
	for classes := 2; classes <= mostClasses; classes++ {
		for levels := 1; levels <= mostLevels; levels++ {
			for class := range classes {
				l = append(l, withClass(good(classes, levels), class, nil))
				l = append(l, withClass(good(classes, 0), class, good(1, levels)[0]))
				for _, others := range []int{0, levels - 1, levels + 1, 2 * levels, 9, 256 + levels} {
					l = append(l, withClass(good(classes, levels), class, good(1, others)[0]))
				}
			}
		}
	}
	return append(l, [][]int{{0}, {0, 1}, {0, 1, 2}}, [][]int{{0, 1}, {0}, {0, 1, 2}}, [][]int{{0, 5}, {0}, {0}, {0, 5}})
}

// wrongNumbers are no thresholds by one of them alone: in each place, with those ahead of it and behind it.
func wrongNumbers() [][][]int {
	l := [][][]int{}
	for classes := 1; classes <= mostClasses; classes++ {
		for _, levels := range []int{1, 2, 3, 8} {
			ok := good(classes, levels)
			eachPlace(ok, func(class, level int) {
				for _, x := range []int{math.MinInt, math.MinInt32, -65536, -1, 65537, 131072, 1 << 32, math.MaxInt} {
					l = append(l, with(ok, class, level, x))
				}
				if level == 0 {
					l = append(l, with(ok, class, 0, 1), with(ok, class, 0, 5), with(ok, class, 0, mostParts))
					l = append(l, withClass(ok, class, slices.Repeat([]int{1}, levels)))
					l = append(l, withClass(ok, class, slices.Repeat([]int{mostParts}, levels)))
				} else {
					l = append(l, with(with(ok, class, level-1, 10), class, level, 9))
					l = append(l, with(with(ok, class, level-1, mostParts), class, level, mostParts-1))
					l = append(l, with(with(ok, class, level-1, 1), class, level, 0))
				}
			})
		}
	}
	return l
}

// wrong are no thresholds, each by what the chapter says they are.
func wrong() [][][]int { return append(wrongShapes(), wrongNumbers()...) }

// P15.1: the chapter's example.
func TestExample(t *testing.T) {
	l := [][]int{{0, 65536}}
	wantMay(t, l, true)
	for _, key := range someKeys() {
		wantKept(t, l, 0, 1, key, false)
		wantLost(t, l, 0, 1, []string{key}, 1)
	}
	wantLost(t, l, 0, 1, someKeys(), len(someKeys()))
}

// P15.1, P1: no classes, nil or empty, 1 to 4 of them, and one more, and many more.
func TestMayOfClasses(t *testing.T) {
	wantMay(t, nil, false)
	wantMay(t, [][]int{}, false)
	for classes := range 300 {
		for _, levels := range []int{1, 2, 8} {
			want := classes == 1 || classes == 2 || classes == 3 || classes == 4
			wantMay(t, good(classes, levels), want)
			// What lies behind them in memory is not among them.
			wantMay(t, good(300, levels)[:classes], want)
		}
	}
	wantMay(t, good(1<<16+1, 1), false)
	wantMay(t, append(good(2, 2), []int{7})[:2], true)
	wantMay(t, append(good(2, 2), nil)[:2], true)
}

// P15.1, P1: no levels in each class, in the first one alone, in the last one alone, and in one between.
func TestMayOfNoLevels(t *testing.T) {
	for classes := 1; classes <= mostClasses; classes++ {
		wantMay(t, make([][]int, classes), false)
		wantMay(t, good(classes, 0), false)
		for class := range classes {
			for levels := 1; levels <= mostLevels; levels++ {
				wantMay(t, withClass(good(classes, levels), class, nil), false)
				wantMay(t, withClass(good(classes, levels), class, []int{}), false)
				wantMay(t, withClass(good(classes, levels), class, []int{0, 1, 2}[:0]), false)
				wantMay(t, withClass(good(classes, 0), class, good(1, levels)[0]), classes == 1)
			}
		}
	}
	wantMay(t, [][]int{nil, {}, nil}, false)
}

// P15.1: 1 to 8 levels, and one more, and many more, be there 1 class or 4.
func TestMayOfLevels(t *testing.T) {
	for classes := 1; classes <= mostClasses; classes++ {
		for levels := range 300 {
			want := levels >= 1 && levels <= 8
			wantMay(t, good(classes, levels), want)
			wantMay(t, slices.Repeat([][]int{make([]int, levels)}, classes), want)
			// What lies behind them in memory is not among them.
			wantMay(t, slices.Repeat([][]int{make([]int, 300)[:levels]}, classes), want)
		}
		wantMay(t, good(classes, 1<<16+1), false)
	}
	wantMay(t, [][]int{[]int{0, 5, -1}[:2]}, true)
	wantMay(t, [][]int{[]int{0, 5, 4}[:2], []int{0, 6, 70000}[:2]}, true)
}

// P15.1: each class with as many levels as each other, in each order of them.
func TestMayOfAllAsMany(t *testing.T) {
	eachShape(func(classes, levels int) {
		wantMay(t, good(classes, levels), true)
		for class := range classes {
			for others := range 20 {
				want := others == levels || classes == 1 && others >= 1 && others <= 8
				wantMay(t, withClass(good(classes, levels), class, good(1, others)[0]), want)
				wantMay(t, withClass(good(classes, levels), class, make([]int, others)), want)
			}
			wantMay(t, withClass(good(classes, levels), class, make([]int, 256+levels)), false)
		}
	})
	for a := 1; a <= mostLevels; a++ {
		for b := 1; b <= mostLevels; b++ {
			for c := 1; c <= mostLevels; c++ {
				wantMay(t, [][]int{make([]int, a), make([]int, b), make([]int, c)}, a == b && b == c)
				wantMay(t, [][]int{make([]int, a), make([]int, b), make([]int, c), make([]int, a)}, a == b && b == c)
			}
		}
	}
}

// P15.1, P1: each threshold from 0 to 65536, and no other, in each place: those ahead of it all 0, those behind 65536.
func TestMayOfThreshold(t *testing.T) {
	eachShape(func(classes, levels int) {
		for class := range classes {
			for level := 1; level < levels; level++ {
				list := make([]int, levels)
				for v := level + 1; v < levels; v++ {
					list[v] = mostParts
				}
				for _, x := range edges() {
					list[level] = x
					wantMay(t, withClass(good(classes, levels), class, slices.Clone(list)), x >= 0 && x <= 65536)
				}
			}
		}
	})
	for x := -3; x < 65540; x++ {
		if may := May([][]int{{0, x}}); may != (x >= 0 && x <= 65536) {
			t.Errorf("May of 0, %d = %v", x, may)
		}
	}
}

// P15.1: at level 0 no other than 0, in each class, whatever is behind it.
func TestMayAtLevelZero(t *testing.T) {
	eachShape(func(classes, levels int) {
		for class := range classes {
			for _, x := range edges() {
				wantMay(t, with(good(classes, levels), class, 0, x), x == 0)
				wantMay(t, withClass(good(classes, levels), class, slices.Repeat([]int{x}, levels)), x == 0)
				most := slices.Repeat([]int{mostParts}, levels)
				most[0] = x
				wantMay(t, withClass(good(classes, levels), class, most), x == 0)
			}
		}
		all := good(classes, levels)
		for class := range classes {
			all[class][0] = 1
		}
		wantMay(t, all, false)
	})
}

// P15.1: none below the one ahead of it; as great may be, and so may 65536 at each level but level 0.
func TestMayOfOrder(t *testing.T) {
	eachShape(func(classes, levels int) {
		for class := range classes {
			for level := 1; level < levels; level++ {
				ok := good(classes, levels)
				ahead := ok[class][level-1]
				for _, more := range []int{-65536, -256, -2, -1, 0, 1, 2} {
					wantMay(t, with(ok, class, level, ahead+more), more >= 0 && ahead+more >= 0)
				}
				// Above the one behind it.
				if level+1 < levels {
					for _, more := range []int{-2, -1, 0, 1, 2, 256} {
						wantMay(t, with(ok, class, level, ok[class][level+1]+more), more <= 0)
					}
				}
			}
			most := slices.Repeat([]int{mostParts}, levels)
			most[0] = 0
			wantMay(t, withClass(good(classes, levels), class, most), true)
			wantMay(t, withClass(good(classes, levels), class, make([]int, levels)), true)
			if levels > 2 {
				// The last one is no more than the first one, and no less: what lies between is above both.
				most[levels-1] = 0
				wantMay(t, withClass(good(classes, levels), class, most), false)
				// Between the classes there is no order.
				wantMay(t, withClass(good(classes, levels), class, slices.Clone(good(4, levels)[3])), true)
			}
		}
	})
	wantMay(t, [][]int{{0, 65536}, {0, 0}, {0, 1}, {0, 65535}}, true)
	wantMay(t, [][]int{{0, 0}, {0, 1}, {0, 65535}, {0, 65536}}, true)
	wantMay(t, [][]int{{0, 5, 5, 5, 6, 6, 6, 6}}, true)
	wantMay(t, [][]int{{0, 5, 5, 4, 6, 6, 6, 6}}, false)
	wantMay(t, [][]int{{0, 7, 6, 5, 4, 3, 2, 1}}, false)
	wantMay(t, [][]int{{0, 1, 2, 3, 4, 5, 6, 7}, {0, 7, 6, 5, 4, 3, 2, 1}}, false)
}

// P15.1, P1: a fault in any place, alone or with others.
func TestMayOfFaults(t *testing.T) {
	for _, l := range wrong() {
		wantMay(t, l, false)
		if len(l) > 1 {
			slices.Reverse(l)
			wantMay(t, l, false)
		}
	}
	eachShape(func(classes, levels int) {
		eachPlace(good(classes, levels), func(class, level int) {
			one := with(good(classes, levels), class, level, -1)
			eachPlace(one, func(other, v int) {
				wantMay(t, with(one, other, v, 65537), false)
			})
		})
	})
}

// listsOf are all lists of so many numbers at most.
func listsOf(numbers []int, most int) [][]int {
	l := [][]int{{}}
	for from := 0; most > 0; most-- {
		longest := l[from:]
		from = len(l)
		for _, list := range longest {
			for _, x := range numbers {
				l = append(l, append(slices.Clip(list), x))
			}
		}
	}
	return l
}

// P15.1: all lists of a few numbers, in one class, in two, in three and in four, against the chapter's words.
func TestMayOfAll(t *testing.T) {
	many := 0
	hold := func(l [][]int) {
		want := mayByWords(l)
		if may := May(l); may != want {
			t.Fatalf("May of %v = %v", l, may)
		}
		if want {
			many++
		}
	}
	numbers := []int{-1, 0, 1, 65535, 65536, 65537}
	for _, a := range listsOf(numbers, 5) {
		hold([][]int{a})
	}
	few := listsOf(numbers, 3)
	for _, a := range few {
		for _, b := range few {
			hold([][]int{a, b})
		}
	}
	fewer := listsOf([]int{-1, 0, 65536, 65537}, 2)
	for _, a := range fewer {
		for _, b := range fewer {
			for _, c := range fewer {
				hold([][]int{a, b, c})
				for _, d := range fewer {
					hold([][]int{a, b, c, d})
				}
			}
		}
	}
	// Of 1 class 1, 4, 10, 20 and 35; of more so many to the power of the classes.
	if want := 70 + 1 + 16 + 100 + 1 + 8 + 1 + 16; many != want {
		t.Errorf("%d are thresholds, want %d", many, want)
	}
}

// P15.1, R3, P1: of what aren't thresholds Keep tells ErrArg, itself, and false, also of a class and a level that
// aren't at fault, and of those there aren't.
func TestKeepOfWrongThresholds(t *testing.T) {
	keys := someKeys()
	for i, l := range wrong() {
		for class := -1; class <= min(len(l), 6); class++ {
			for level := -1; level <= 9; level++ {
				wantTold(t, l, class, level, keys[(i+class+level+2)%len(keys)], false, api.ErrArg)
			}
		}
		for _, key := range []string{"", "a", "14ki", "2jum"} {
			wantTold(t, l, 0, 0, key, false, api.ErrArg)
		}
		wantTold(t, l, math.MinInt, math.MaxInt, "a", false, api.ErrArg)
	}
}

// P15.1, R3, P1: of a class, or a level, that there isn't, Keep tells ErrArg, itself, and false; of all others not.
func TestKeepOfNoSuchPlace(t *testing.T) {
	eachShape(func(classes, levels int) {
		l := good(classes, levels)
		for _, class := range append(edges(), classes, levels) {
			for _, level := range append(edges(), classes, levels) {
				if class >= 0 && class < classes && level >= 0 && level < levels {
					// Of the part 65535, which is kept at all these.
					wantTold(t, l, class, level, "2jum", true, nil)
				} else {
					wantTold(t, l, class, level, "2jum", false, api.ErrArg)
					wantTold(t, l, class, level, "14ki", false, api.ErrArg)
				}
			}
		}
	})
}

// P15.1: what lies behind thresholds in memory is not among them.
func TestPlacesBehind(t *testing.T) {
	whole := good(4, 8)
	for classes := 1; classes <= mostClasses; classes++ {
		for levels := 1; levels <= mostLevels; levels++ {
			l := good(4, 8)[:classes]
			for class := range l {
				l[class] = whole[class][:levels]
			}
			eachPlace(whole, func(class, level int) {
				if class < classes && level < levels {
					wantKept(t, l, class, level, keysOfParts()[whole[class][level]], true)
					wantLost(t, l, class, level, []string{"14ki"}, min(level, 1))
				} else {
					wantTold(t, l, class, level, "2jum", false, api.ErrArg)
					wantLostTold(t, l, class, level, []string{"2jum", "14ki"}, 0, api.ErrArg)
				}
			})
		}
	}
}

// P15.1: of a key whose part is the threshold itself, one below it, and one above it; a key of no bytes, and of bytes
// that are no text, among them.
func TestKeepOfKeys(t *testing.T) {
	for key, part := range partsOfKeys() {
		if mixed := mix.Part([]byte(key)); mixed != part || partByWords(key) != part {
			t.Errorf("the part of %.60q is %d, by the words %d, want %d", key, mixed, partByWords(key), part)
		}
		for _, x := range []int{0, 1, part - 256, part - 1, part, part + 1, part + 256, 65535, 65536} {
			if x >= 0 && x <= mostParts {
				wantKept(t, [][]int{{0, x}}, 0, 1, key, x <= part)
				wantKept(t, [][]int{{0, 0, 0}, {0, x, 65536}, {0, 65536, 65536}}, 1, 1, key, x <= part)
				wantKept(t, [][]int{{0, 65536, 65536}, {0, 0, 0}, {0, 0, x}}, 2, 2, key, x <= part)
			}
		}
	}
}

// P15.1: each part, at the threshold below it, at itself, and at the one above it.
func TestKeepOfEachPart(t *testing.T) {
	for part, key := range keysOfParts() {
		l := [][]int{{0, max(part-1, 0), part, part + 1}}
		for level, want := range []bool{true, true, true, false} {
			if kept, err := Keep(l, 0, level, key); kept != want || err != nil {
				t.Fatalf("%v: Keep of 0, %d, %q of part %d = %v, %v", l, level, key, part, kept, err)
			}
			if lost, err := Lost(l, 0, level, []string{key}); (lost == 0) != want || lost > 1 || err != nil {
				t.Fatalf("%v: Lost of 0, %d, %q of part %d = %d, %v", l, level, key, part, lost, err)
			}
		}
	}
}

// P15.1: at a threshold of 0 any key is kept, at 65536 none.
func TestKeepAtEnds(t *testing.T) {
	l := [][]int{{0, 0, 65536}, {0, 65536, 65536}}
	for _, key := range append(someKeys(), keysOfParts()...) {
		wantKept(t, l, 0, 0, key, true)
		wantKept(t, l, 0, 1, key, true)
		wantKept(t, l, 0, 2, key, false)
		wantKept(t, l, 1, 0, key, true)
		wantKept(t, l, 1, 1, key, false)
		wantKept(t, l, 1, 2, key, false)
	}
}

// P15.1: each class and each level has its own threshold: beside it the keys of all others' thresholds are held.
func TestKeepOfEachPlace(t *testing.T) {
	keys := keysOfParts()
	eachShape(func(classes, levels int) {
		l := good(classes, levels)
		eachPlace(l, func(class, level int) {
			x := l[class][level]
			eachPlace(l, func(other, v int) {
				beside := l[other][v]
				wantKept(t, l, class, level, keys[beside], beside >= x)
				if beside > 0 {
					wantKept(t, l, class, level, keys[beside-1], beside > x)
				}
			})
		})
	})
	// One place alone keeps nothing; the others keep all.
	eachShape(func(classes, levels int) {
		if levels > 1 {
			for class := range classes {
				l := slices.Repeat([][]int{make([]int, levels)}, classes)
				l = with(l, class, levels-1, mostParts)
				eachPlace(l, func(other, v int) {
					wantKept(t, l, other, v, "2jum", other != class || v != levels-1)
					wantKept(t, l, other, v, "14ki", other != class || v != levels-1)
				})
			}
		}
	})
}

// P15.1: classes may share one list in memory.
func TestClassesOfOneList(t *testing.T) {
	l := slices.Repeat([][]int{{0, 10540, 10541}}, 4)
	wantMay(t, l, true)
	for class := range 4 {
		wantKept(t, l, class, 0, "a", true)
		wantKept(t, l, class, 1, "a", true)
		wantKept(t, l, class, 2, "a", false)
		wantLost(t, l, class, 2, []string{"a", "b"}, 1)
	}
	wantMay(t, slices.Repeat([][]int{{0, 2, 1}}, 4), false)
}

// P15.1: keys that are far longer than a line, and differ in one byte alone.
func TestKeepOfLong(t *testing.T) {
	for _, bytes := range []int{299, 4096, 1 << 16, 1<<20 + 1} {
		for _, last := range []string{"", "a", "b", "\x00", "\xff"} {
			key := strings.Repeat("cpu,", bytes/4) + last
			part := partByWords(key)
			l := [][]int{{0, part, part + 1}}
			wantKept(t, l, 0, 1, key, true)
			wantKept(t, l, 0, 2, key, false)
			wantLost(t, l, 0, 2, []string{key, "2jum", key}, 2)
		}
	}
}

// P15.1, R3, P1: of what aren't thresholds Lost tells ErrArg, itself, and 0, also where there are no keys.
func TestLostOfWrongThresholds(t *testing.T) {
	keys := someKeys()
	for i, l := range wrong() {
		for class := -1; class <= min(len(l), 6); class++ {
			for level := -1; level <= 9; level++ {
				wantLostTold(t, l, class, level, keys[:(i+class+level+2)%len(keys)], 0, api.ErrArg)
			}
		}
		for _, some := range [][]string{nil, {}, {""}, {"a"}, {"14ki", "14ki"}, keys} {
			wantLostTold(t, l, 0, 0, some, 0, api.ErrArg)
		}
		wantLostTold(t, l, math.MaxInt, math.MinInt, nil, 0, api.ErrArg)
	}
}

// P15.1, R3, P1: of a class, or a level, that there isn't, Lost tells ErrArg, itself, and 0; of all others not.
func TestLostOfNoSuchPlace(t *testing.T) {
	eachShape(func(classes, levels int) {
		l := good(classes, levels)
		for _, class := range append(edges(), classes, levels) {
			for _, level := range append(edges(), classes, levels) {
				if class >= 0 && class < classes && level >= 0 && level < levels {
					wantLost(t, l, class, level, nil, 0)
					wantLost(t, l, class, level, []string{"14ki", "2jum", "14ki"}, 2*min(level, 1))
				} else {
					wantLostTold(t, l, class, level, nil, 0, api.ErrArg)
					wantLostTold(t, l, class, level, []string{}, 0, api.ErrArg)
					wantLostTold(t, l, class, level, []string{"14ki", "2jum"}, 0, api.ErrArg)
				}
			}
		}
	})
}

// P15.1: of no keys, nil or empty, none is lost, at any threshold.
func TestLostOfNoKeys(t *testing.T) {
	for _, x := range []int{0, 1, 40389, 65535, 65536} {
		l := [][]int{{0, x}, {0, 65536}}
		for _, keys := range [][]string{nil, {}, []string{"a", "b"}[:0]} {
			for class := range 2 {
				for level := range 2 {
					wantLost(t, l, class, level, keys, 0)
				}
			}
		}
	}
}

// P15.1: of some keys; one that is there more than once counts each time, and one that is kept counts not at all.
func TestLostOfKeys(t *testing.T) {
	l := [][]int{{0, 10540, 10541}, {0, 11750, 65536}, {0, 0, 40390}}
	for _, x := range []struct {
		class, level int
		keys         string
		want         int
	}{
		// The parts: a 10540, b 11749, and of no bytes 40389.
		{0, 0, "a b", 0}, {0, 1, "a", 0}, {0, 1, "a b", 0}, {0, 2, "a", 1}, {0, 2, "b", 0}, {0, 2, "a b", 1},
		{0, 2, "b a", 1}, {0, 2, "a a", 2}, {0, 2, "a b a b a", 3}, {0, 2, "b b b", 0}, {0, 2, "b b b a", 1}, {1, 0, "a", 0},
		{1, 1, "a b", 2}, {1, 1, "a b cpu", 2}, {1, 1, "cpu a cpu b cpu", 2}, {1, 1, "cpu", 0}, {1, 2, "cpu", 1},
		{1, 2, "cpu a b", 3}, {1, 2, "cpu cpu cpu cpu", 4}, {2, 1, "a b", 0}, {2, 2, "a b", 2}, {2, 2, "a  b", 3},
		{2, 2, "  ", 3}, {2, 1, "  ", 0}, {2, 2, "26et cpu", 1}, {2, 2, "\xff \xc3 é", 2}, {1, 1, "\xff \xc3 é", 0},
	} {
		wantLost(t, l, x.class, x.level, strings.Split(x.keys, " "), x.want)
	}
	for _, many := range []int{1, 2, 3, 255, 256, 257, 65536, 1 << 18} {
		wantLost(t, l, 0, 2, slices.Repeat([]string{"a"}, many), many)
		wantLost(t, l, 0, 1, slices.Repeat([]string{"a"}, many), 0)
	}
}

// P15.1: of one key of each part as many are lost as the threshold tells, whatever their order.
func TestLostOfEachPart(t *testing.T) {
	keys := slices.Clone(keysOfParts())
	for _, x := range []int{0, 1, 2, 255, 256, 257, 10540, 32767, 32768, 32769, 65534, 65535, 65536} {
		wantLost(t, [][]int{{0, 0}, {0, x}}, 1, 1, keys, x)
		wantLost(t, [][]int{{0, x}, {0, 65536}}, 0, 1, keys, x)
		slices.Reverse(keys)
		// Of those behind the list's end none is counted, and of those ahead of its beginning neither.
		wantLost(t, [][]int{{0, x}}, 0, 1, keysOfParts()[:10000], min(x, 10000))
		wantLost(t, [][]int{{0, x}}, 0, 1, keysOfParts()[10000:], max(x-10000, 0))
	}
	eachPlace(good(4, 8), func(class, level int) {
		wantLost(t, good(4, 8), class, level, keys, good(4, 8)[class][level])
	})
}

// P15.1: as many are lost as Keep doesn't keep, of each beginning of the keys.
func TestLostIsWhatKeepDoesNot(t *testing.T) {
	keys := append(someKeys(), "a", "", "a", "2jum")
	eachShape(func(classes, levels int) {
		l := good(classes, levels)
		eachPlace(l, func(class, level int) {
			want := 0
			for i, key := range keys {
				wantLost(t, l, class, level, keys[:i], want)
				if kept, err := Keep(l, class, level, key); !kept && err == nil {
					want++
				}
			}
			wantLost(t, l, class, level, keys, want)
		})
	})
}

// P15.1: all thresholds of a few numbers, in 1 and 2 classes of 1 to 3 levels, and in all places, and beside them,
// against the chapter's words.
func TestAllOfAFew(t *testing.T) {
	keys := []string{"", "a", "b", "a", "14ki", "2jum"}
	lists := listsOf([]int{0, 10540, 10541, 65536, 65537}, 3)
	ask := func(l [][]int) {
		for class := -1; class <= len(l); class++ {
			for level := -1; level <= 3; level++ {
				wantByWords(t, l, class, level, keys)
			}
		}
	}
	for i, a := range lists {
		ask([][]int{a})
		for k, b := range lists {
			if may := mayByWords([][]int{a, b}); may || (i+k)%20 == 0 {
				ask([][]int{a, b})
			}
		}
	}
}

// room is a copy of thresholds with others, that may not be, behind each list and behind all lists in memory.
func room(l [][]int) [][]int {
	wide := make([][]int, 0, len(l)+3)
	for _, list := range l {
		wide = append(wide, append(append(make([]int, 0, len(list)+2), list...), 70000, -1)[:len(list)])
	}
	return append(wide, []int{9}, nil, []int{0, 5})[:len(l)]
}

// P15.2, R2: of lists with room behind them, each call leaves the thresholds, each of their lists, what lies behind
// them, and the keys as they were, also where an error is told.
func TestHandedInStays(t *testing.T) {
	all := wrong()
	eachShape(func(classes, levels int) { all = append(all, good(classes, levels)) })
	for i, l := range all {
		l = room(l)
		wantMay(t, l, mayByWords(l))
		keys := append(slices.Grow(someKeys(), 4), "z", "y")
		keys = keys[:len(keys)-1-i%5]
		for _, place := range [][2]int{{0, 0}, {0, len(l) % 8}, {len(l) - 1, 0}, {len(l) - 1, 7}, {len(l), 0}, {-1, -1}} {
			kept, err := keepByWords(l, place[0], place[1], "cpu")
			wantTold(t, l, place[0], place[1], "cpu", kept, err)
			lost, err := lostByWords(l, place[0], place[1], keys)
			wantLostTold(t, l, place[0], place[1], keys, lost, err)
		}
	}
}

// P15.1, R2: nothing of what was handed in is kept: what is changed afterward tells at the next call, and nothing else.
func TestNothingIsKept(t *testing.T) {
	l, keys := [][]int{{0, 10540}, {0, 65536}}, []string{"a", "b"}
	wantMay(t, l, true)
	wantKept(t, l, 0, 1, "a", true)
	wantLost(t, l, 0, 1, keys, 0)
	l[0][1] = 10541
	wantKept(t, l, 0, 1, "a", false)
	wantLost(t, l, 0, 1, keys, 1)
	keys[1] = "a"
	wantLost(t, l, 0, 1, keys, 2)
	l[0][1] = 65537
	wantMay(t, l, false)
	wantTold(t, l, 1, 1, "a", false, api.ErrArg)
	wantLostTold(t, l, 1, 0, keys, 0, api.ErrArg)
	l[0] = []int{0, 65535}
	wantMay(t, l, true)
	wantKept(t, l, 0, 1, "2jum", true)
	l[0], l[1] = l[1], l[0]
	wantKept(t, l, 0, 1, "2jum", false)
	wantKept(t, l, 1, 1, "2jum", true)
	l = append(l, []int{0, 0})
	wantKept(t, l, 2, 1, "14ki", true)
	wantTold(t, l[:2], 2, 1, "14ki", false, api.ErrArg)
}

// P15.1: calls at once, of other thresholds, make no difference to each other.
func TestAtOnce(t *testing.T) {
	var all sync.WaitGroup
	for x := range 8 {
		all.Go(func() {
			l := [][]int{{0, 10537 + x}, {0, 65530 + x}}
			for range 500 {
				may, want := May(l), x <= 6
				kept, err := Keep(l, 0, 1, "a")
				if may != want || kept != (x <= 3) || want != (err == nil) {
					t.Errorf("%v: May = %v, Keep = %v, %v", l, may, kept, err)
				}
			}
		})
	}
	all.Wait()
}

// randomThresholds are thresholds of a few numbers, or of any, and of some keys' parts, and beside them.
func randomThresholds(r *rand.Rand, keys []string) [][]int {
	classes, levels := 1+r.Intn(mostClasses), 1+r.Intn(mostLevels)
	l := [][]int{}
	for range classes {
		list := []int{0}
		for len(list) < levels {
			switch r.Intn(4) {
			case 0:
				list = append(list, r.Intn(2)*mostParts)
			case 1:
				list = append(list, r.Intn(mostParts+1))
			default:
				list = append(list, max(partByWords(keys[r.Intn(len(keys))])+r.Intn(3)-1, 0))
			}
		}
		slices.Sort(list)
		l = append(l, list)
	}
	return l
}

// randomFault is a copy of thresholds with something that may be amiss.
func randomFault(r *rand.Rand, l [][]int) [][]int {
	l = copyOf(l)
	class := r.Intn(len(l))
	list := l[class]
	level := r.Intn(len(list))
	switch r.Intn(6) {
	case 0:
		list[level] = edges()[r.Intn(len(edges()))]
	case 1:
		l[class] = list[:level]
	case 2:
		l[class] = append(list, mostParts)
	case 3:
		list[0], list[level] = list[level], list[0]
	case 4:
		list[level] += r.Intn(5) - 2
	default:
		for range r.Intn(5) {
			l = append(l, list)
		}
	}
	return l
}

// randomKeys are keys of bytes at random, some of them more than once.
func randomKeys(r *rand.Rand) []string {
	l := []string{"a"}
	for range r.Intn(8) {
		switch r.Intn(4) {
		case 0:
			l = append(l, l[r.Intn(len(l))])
		case 1:
			l = append(l, someKeys()[r.Intn(len(partsOfKeys()))])
		default:
			b := make([]byte, r.Intn(20))
			r.Read(b)
			l = append(l, string(b))
		}
	}
	return l
}

// P15.1: over thresholds, classes, levels and keys at random each call tells what the chapter's words tell.
func TestAtRandom(t *testing.T) {
	r := rand.New(rand.NewSource(15))
	right, amiss := 0, 0
	for range 20000 {
		keys := randomKeys(r)
		l := randomThresholds(r, keys)
		if r.Intn(3) == 0 {
			l = randomFault(r, l)
		}
		if mayByWords(l) {
			right++
		} else {
			amiss++
		}
		for range 4 {
			class, level := r.Intn(len(l)+2)-1, r.Intn(len(l[0])+2)-1
			if r.Intn(10) == 0 {
				class, level = edges()[r.Intn(len(edges()))], edges()[r.Intn(len(edges()))]
			}
			wantByWords(t, l, class, level, keys)
		}
	}
	if right < 10000 || amiss < 2000 {
		t.Errorf("%d are thresholds, %d aren't", right, amiss)
	}
}

// P15.3: at level 0 all are kept, whatever the thresholds, the class and the key.
func TestAtLevelZeroAllAreKept(t *testing.T) {
	keys := append(someKeys(), keysOfParts()[:500]...)
	r := rand.New(rand.NewSource(16))
	ask := func(l [][]int) {
		for class := range l {
			wantKept(t, l, class, 0, keys[r.Intn(len(keys))], true)
			wantKept(t, l, class, 0, "14ki", true)
			wantLost(t, l, class, 0, keys, 0)
		}
	}
	eachShape(func(classes, levels int) {
		ask(good(classes, levels))
		most := slices.Repeat([]int{mostParts}, levels)
		most[0] = 0
		ask(slices.Repeat([][]int{most}, classes))
	})
	for range 300 {
		ask(randomThresholds(r, keys))
	}
}

// wantShedAbove holds that a key shed at a level is shed at each higher one, and tells how many levels shed it.
func wantShedAbove(t *testing.T, l [][]int, class int, key string) int {
	t.Helper()
	many := 0
	for level := range l[class] {
		kept, err := Keep(l, class, level, key)
		if err != nil {
			t.Fatalf("%v: Keep of %d, %d, %q = %v, %v", l, class, level, key, kept, err)
		}
		if kept && many > 0 {
			t.Fatalf("%v: %q is shed at %d levels of class %d, and kept at %d", l, key, many, class, level)
		}
		if !kept {
			many++
		}
	}
	return many
}

// P15.3: what is shed at a level is shed at each higher one: a key of each part, at thresholds beside those of others.
func TestShedAtEachHigherLevel(t *testing.T) {
	l := [][]int{
		{0, 1, 2, 3, 65533, 65534, 65535, 65536},
		{0, 0, 0, 32767, 32767, 32768, 32769, 65536},
		{0, 1000, 2000, 4000, 8000, 16000, 32000, 64000},
		{0, 0, 0, 0, 0, 0, 0, 0},
	}
	for part, key := range keysOfParts() {
		for class, list := range l {
			want := 0
			for _, x := range list {
				if x > part {
					want++
				}
			}
			if many := wantShedAbove(t, l, class, key); many != want {
				t.Fatalf("%q of part %d is shed at %d levels of class %d, want %d", key, part, many, class, want)
			}
		}
	}
}

// P15.3: the same over thresholds and keys at random; and no fewer of some keys are lost at a higher level.
func TestShedAtRandom(t *testing.T) {
	r := rand.New(rand.NewSource(17))
	shed := 0
	for range 20000 {
		keys := randomKeys(r)
		l := randomThresholds(r, keys)
		for class := range l {
			for _, key := range keys {
				shed += min(wantShedAbove(t, l, class, key), 1)
			}
			ahead := 0
			for level := range l[class] {
				lost, err := Lost(l, class, level, keys)
				if lost < ahead || err != nil {
					t.Fatalf("%v: Lost of %d, %d, %q = %d, %v, a level below %d", l, class, level, keys, lost, err, ahead)
				}
				ahead = lost
			}
		}
	}
	if shed < 50000 {
		t.Errorf("%d were shed", shed)
	}
}
