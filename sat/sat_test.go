package sat

import (
	"math"
	"math/big"
	"math/rand"
	"slices"
	"testing"
)

const (
	most  = math.MaxInt64
	least = math.MinInt64
	top   = math.MaxUint64
)

// wholes lie at both ends, about 0 and about the halves, where two just reach an end.
func wholes() []int64 {
	l := []int64{
		least, least + 1, least + 2, -1<<62 - 1, -1 << 62, -1<<62 + 1, -1 << 32, -7, -2, -1,
		0, 1, 2, 5, 1 << 32, 1<<62 - 1, 1 << 62, 1<<62 + 1, most - 2, most - 1, most,
	}
	r := rand.New(rand.NewSource(1))
	for range 40 {
		l = append(l, int64(r.Uint64()))
	}
	return l
}

func counts() []uint64 {
	l := []uint64{
		0, 1, 2, 5, 1 << 32, 1<<63 - 1, 1 << 63, 1<<63 + 1, top - 2, top - 1, top,
	}
	r := rand.New(rand.NewSource(2))
	for range 40 {
		l = append(l, r.Uint64())
	}
	return l
}

// within is n, or the nearer end and true.
func within(n, low, high *big.Int) (*big.Int, bool) {
	if n.Cmp(low) < 0 {
		return low, true
	}
	if n.Cmp(high) > 0 {
		return high, true
	}
	return n, false
}

// P1.1: Add, at ordinary numbers and at the ends.
func TestAdd(t *testing.T) {
	for _, c := range []struct {
		a, b, sum int64
		beyond    bool
	}{
		{0, 0, 0, false},
		{2, 3, 5, false},
		{5, -7, -2, false},
		{-5, -7, -12, false},
		{most, 0, most, false},
		{most - 1, 1, most, false},
		{most, 1, most, true},
		{most - 1, 2, most, true},
		{most, most, most, true},
		{1 << 62, 1<<62 - 1, most, false},
		{1 << 62, 1 << 62, most, true},
		{least, 0, least, false},
		{least + 1, -1, least, false},
		{least, -1, least, true},
		{least + 1, -2, least, true},
		{least, least, least, true},
		{-1 << 62, -1 << 62, least, false},
		{-1 << 62, -1<<62 - 1, least, true},
		{most, least, -1, false},
		{most, -most, 0, false},
	} {
		sum, beyond := Add(c.a, c.b)
		if sum != c.sum || beyond != c.beyond {
			t.Errorf("Add(%d, %d) = %d, %v; want %d, %v", c.a, c.b, sum, beyond, c.sum, c.beyond)
		}
	}
}

// P1.1: Add, held against numbers that have no ends.
func TestAddIsTheSum(t *testing.T) {
	low, high := big.NewInt(least), big.NewInt(most)
	for _, a := range wholes() {
		for _, b := range wholes() {
			want, over := within(new(big.Int).Add(big.NewInt(a), big.NewInt(b)), low, high)
			sum, beyond := Add(a, b)
			if big.NewInt(sum).Cmp(want) != 0 || beyond != over {
				t.Errorf("Add(%d, %d) = %d, %v; want %v, %v", a, b, sum, beyond, want, over)
			}
		}
	}
}

// P1.1: Sum, of lists of none, of one and of many; a step that is beyond stays told, and the end
// stands for it in what comes after.
func TestSum(t *testing.T) {
	for _, c := range []struct {
		list   []int64
		sum    int64
		beyond bool
	}{
		{nil, 0, false},
		{[]int64{}, 0, false},
		{[]int64{7}, 7, false},
		{[]int64{most}, most, false},
		{[]int64{least}, least, false},
		{[]int64{1, -2, 3, -4}, -2, false},
		{[]int64{most, -1, 1}, most, false},
		{[]int64{most - 3, 1, 2}, most, false},
		{[]int64{most - 3, 1, 3}, most, true},
		{[]int64{least + 3, -1, -2}, least, false},
		{[]int64{least + 3, -1, -3}, least, true},
		{[]int64{most, 5, -1}, most - 1, true},
		{[]int64{most, 1, least}, -1, true},
		{[]int64{least, -5, 1}, least + 1, true},
		{[]int64{least, -1, most, 1}, 0, true},
		{[]int64{most, 1, least, least}, least, true},
		{[]int64{5, most, -5}, most - 5, true},
		{[]int64{5, -5, most}, most, false},
	} {
		sum, beyond := Sum(c.list)
		if sum != c.sum || beyond != c.beyond {
			t.Errorf("Sum(%d) = %d, %v; want %d, %v", c.list, sum, beyond, c.sum, c.beyond)
		}
	}
}

// P1.1: Sum, held against steps in numbers that have no ends.
func TestSumIsStepByStep(t *testing.T) {
	low, high := big.NewInt(least), big.NewInt(most)
	r := rand.New(rand.NewSource(3))
	from := wholes()
	for range 2000 {
		list := make([]int64, r.Intn(8))
		want, over := big.NewInt(0), false
		for i := range list {
			list[i] = from[r.Intn(len(from))]
			next, past := within(new(big.Int).Add(want, big.NewInt(list[i])), low, high)
			want, over = next, over || past
		}
		sum, beyond := Sum(list)
		if big.NewInt(sum).Cmp(want) != 0 || beyond != over {
			t.Errorf("Sum(%d) = %d, %v; want %v, %v", list, sum, beyond, want, over)
		}
	}
}

// P1.1: Count, at ordinary counts and at the top.
func TestCount(t *testing.T) {
	for _, c := range []struct {
		a, b, sum uint64
		beyond    bool
	}{
		{0, 0, 0, false},
		{2, 3, 5, false},
		{1<<63 - 1, 1, 1 << 63, false},
		{1 << 63, 1<<63 - 1, top, false},
		{1 << 63, 1 << 63, top, true},
		{top, 0, top, false},
		{top - 1, 1, top, false},
		{top - 1, 2, top, true},
		{top, 1, top, true},
		{top, top, top, true},
	} {
		sum, beyond := Count(c.a, c.b)
		if sum != c.sum || beyond != c.beyond {
			t.Errorf("Count(%d, %d) = %d, %v; want %d, %v", c.a, c.b, sum, beyond, c.sum, c.beyond)
		}
	}
}

// P1.1: Count, held against numbers that have no ends.
func TestCountIsTheSum(t *testing.T) {
	low, high := big.NewInt(0), new(big.Int).SetUint64(top)
	for _, a := range counts() {
		for _, b := range counts() {
			exact := new(big.Int).Add(new(big.Int).SetUint64(a), new(big.Int).SetUint64(b))
			want, over := within(exact, low, high)
			sum, beyond := Count(a, b)
			if new(big.Int).SetUint64(sum).Cmp(want) != 0 || beyond != over {
				t.Errorf("Count(%d, %d) = %d, %v; want %v, %v", a, b, sum, beyond, want, over)
			}
		}
	}
}

// P1.2: the list stays as it is, also behind its length; and nothing of it is kept.
func TestSumLeavesTheList(t *testing.T) {
	all := []int64{most, 1, -3, least, 8, 9}
	before := slices.Clone(all)
	first, over := Sum(all[:4])
	if !slices.Equal(all, before) {
		t.Errorf("the list is %d; it was %d", all, before)
	}
	all[0] = 0
	Sum(all)
	again, still := Sum(before[:4])
	if first != again || over != still {
		t.Errorf("Sum answered %d, %v and then %d, %v", first, over, again, still)
	}
}

// P1.3: the order of two makes no difference.
func TestOrderOfTwo(t *testing.T) {
	for _, a := range wholes() {
		for _, b := range wholes() {
			x, xOver := Add(a, b)
			y, yOver := Add(b, a)
			if x != y || xOver != yOver {
				t.Errorf("Add(%d, %d) = %d, %v; the other way %d, %v", a, b, x, xOver, y, yOver)
			}
			x, xOver = Sum([]int64{a, b})
			if x != y || xOver != yOver {
				t.Errorf("Sum of %d and %d = %d, %v; Add has %d, %v", a, b, x, xOver, y, yOver)
			}
		}
	}
	for _, a := range counts() {
		for _, b := range counts() {
			x, xOver := Count(a, b)
			y, yOver := Count(b, a)
			if x != y || xOver != yOver {
				t.Errorf("Count(%d, %d) = %d, %v; the other way %d, %v", a, b, x, xOver, y, yOver)
			}
		}
	}
}

// P1.3: what isn't beyond is taken away again.
func TestTakenAwayAgain(t *testing.T) {
	for _, a := range wholes() {
		for _, b := range wholes() {
			sum, beyond := Add(a, b)
			if beyond {
				continue
			}
			if sum-b != a || sum-a != b {
				t.Errorf("Add(%d, %d) = %d, less one of both isn't the other", a, b, sum)
			}
			// The least number has no other sign.
			if b == least {
				continue
			}
			if back, over := Add(sum, -b); back != a || over {
				t.Errorf("Add(%d, %d) = %d, %v; want %d, false", sum, -b, back, over, a)
			}
		}
	}
	for _, a := range counts() {
		for _, b := range counts() {
			sum, beyond := Count(a, b)
			if !beyond && (sum < b || sum-b != a) {
				t.Errorf("Count(%d, %d) = %d, less %d isn't %d", a, b, sum, b, a)
			}
		}
	}
}
