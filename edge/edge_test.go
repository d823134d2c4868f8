package edge

import (
	"math"
	"math/big"
	"math/rand"
	"slices"
	"testing"
)

var (
	minusZero = math.Copysign(0, -1)
	minusInf  = math.Inf(-1)
	plusInf   = math.Inf(1)
	nan       = math.NaN()
)

// nans have both signs, least and greatest bits, quiet and not.
func nans() []float64 {
	var l []float64
	for _, bits := range []uint64{
		0x7ff8000000000001, 0x7ff0000000000001, 0x7fffffffffffffff,
		0xfff8000000000001, 0xfff0000000000001, 0xffffffffffffffff, 0xfff8000000000000,
	} {
		l = append(l, math.Float64frombits(bits))
	}
	return l
}

// ladder has numbers only, each ahead of the next one.
func ladder() []float64 {
	tiny, small := math.SmallestNonzeroFloat64, math.Float64frombits(0x0010000000000000)
	up := []float64{
		0, tiny, 2 * tiny, small - tiny, small, 1e-300, 0.1, math.Nextafter(1, 0), 1,
		math.Nextafter(1, 2), 1.5, 2, 10, 1 << 53, 1<<53 + 2, 1e300,
		math.Nextafter(math.MaxFloat64, 0), math.MaxFloat64, plusInf,
	}
	l := make([]float64, 0, 2*len(up))
	for _, x := range slices.Backward(up) {
		l = append(l, math.Copysign(x, -1))
	}
	return append(l, up...)
}

// samples are the ladder, the NaNs and floats of any bits.
func samples() []float64 {
	l := append(ladder(), nans()...)
	r := rand.New(rand.NewSource(1))
	for range 40 {
		l = append(l, math.Float64frombits(r.Uint64()))
	}
	return l
}

// ahead tells the order by the chapter's words, with numbers compared as exact ones.
func ahead(a, b float64) bool {
	switch {
	case math.IsNaN(a):
		return false
	case math.IsNaN(b):
		return true
	case a == 0 && b == 0:
		return math.Signbit(a) && !math.Signbit(b)
	}
	return big.NewFloat(a).Cmp(big.NewFloat(b)) < 0
}

func same(a, b float64) bool { return math.Float64bits(a) == math.Float64bits(b) }

// bitsOf makes lists fit to be held against each other, NaNs and zeros too.
func bitsOf(l []float64) []uint64 {
	b := make([]uint64, len(l))
	for i, x := range l {
		b[i] = math.Float64bits(x)
	}
	return b
}

// someList is a list of up to 11 samples, some of them more than once.
func someList(r *rand.Rand, from []float64) []float64 {
	l := make([]float64, r.Intn(12))
	for i := range l {
		l[i] = from[r.Intn(len(from))]
	}
	return l
}

// P2.1: Less and Alike, at ordinary numbers and at the edges.
func TestLessAndAlike(t *testing.T) {
	for _, c := range []struct {
		a, b              float64
		less, more, alike bool
	}{
		{1, 2, true, false, false},
		{-2, -1, true, false, false},
		{-1, 1, true, false, false},
		{1.5, 1.5, false, false, true},
		{-1.5, -1.5, false, false, true},
		{minusZero, 0, true, false, false},
		{0, 0, false, false, true},
		{minusZero, minusZero, false, false, true},
		{-math.SmallestNonzeroFloat64, minusZero, true, false, false},
		{0, math.SmallestNonzeroFloat64, true, false, false},
		{minusInf, -math.MaxFloat64, true, false, false},
		{math.MaxFloat64, plusInf, true, false, false},
		{minusInf, plusInf, true, false, false},
		{minusInf, minusInf, false, false, true},
		{plusInf, plusInf, false, false, true},
		{plusInf, nan, true, false, false},
		{minusInf, nan, true, false, false},
		{0, nan, true, false, false},
		{nan, nan, false, false, true},
	} {
		less, more := Less(c.a, c.b), Less(c.b, c.a)
		if less != c.less || more != c.more {
			t.Errorf("Less(%v, %v) = %v, the other way %v; want %v, %v", c.a, c.b, less, more, c.less, c.more)
		}
		there, back := Alike(c.a, c.b), Alike(c.b, c.a)
		if there != c.alike || back != c.alike {
			t.Errorf("Alike(%v, %v) = %v, the other way %v; want %v", c.a, c.b, there, back, c.alike)
		}
	}
}

// P2.1: each of the ladder is ahead of all later ones.
func TestLadder(t *testing.T) {
	l := ladder()
	for i, a := range l {
		for j, b := range l {
			if Less(a, b) != (i < j) || Alike(a, b) != (i == j) {
				t.Errorf("%v and %v: Less %v, Alike %v", a, b, Less(a, b), Alike(a, b))
			}
		}
	}
}

// P2.1: NaNs of several bits, some with a minus, are behind all numbers and alike.
func TestNaNsAreBehind(t *testing.T) {
	for _, n := range nans() {
		for _, x := range ladder() {
			if !Less(x, n) || Less(n, x) || Alike(x, n) || Alike(n, x) {
				t.Errorf("%v isn't ahead of NaN %x", x, math.Float64bits(n))
			}
		}
		for _, m := range nans() {
			if Less(n, m) || !Alike(n, m) {
				t.Errorf("NaN %x and NaN %x aren't alike", math.Float64bits(n), math.Float64bits(m))
			}
		}
	}
}

// P2.1: Less and Alike, held against the chapter's words.
func TestOrderIsTheChapters(t *testing.T) {
	for _, a := range samples() {
		for _, b := range samples() {
			if Less(a, b) != ahead(a, b) {
				t.Errorf("Less(%v, %v) = %v", a, b, Less(a, b))
			}
			if Alike(a, b) != (!ahead(a, b) && !ahead(b, a)) {
				t.Errorf("Alike(%v, %v) = %v", a, b, Alike(a, b))
			}
		}
	}
}

// P2.2: Least and Most, at ordinary lists, at edges, and at lists without a number.
func TestLeastAndMost(t *testing.T) {
	for _, c := range []struct {
		list        []float64
		least, most float64
		is          bool
	}{
		{nil, 0, 0, false},
		{[]float64{}, 0, 0, false},
		{[]float64{nan}, 0, 0, false},
		{nans(), 0, 0, false},
		{[]float64{7}, 7, 7, true},
		{[]float64{3, -1, 2.5}, -1, 3, true},
		{[]float64{-3, -1, -2}, -3, -1, true},
		{[]float64{5, 6, 7}, 5, 7, true},
		{[]float64{7, 6, 5}, 5, 7, true},
		{[]float64{0}, 0, 0, true},
		{[]float64{minusZero}, minusZero, minusZero, true},
		{[]float64{0, minusZero}, minusZero, 0, true},
		{[]float64{minusZero, 0}, minusZero, 0, true},
		{[]float64{nan, 0, minusZero}, minusZero, 0, true},
		{[]float64{minusInf}, minusInf, minusInf, true},
		{[]float64{plusInf}, plusInf, plusInf, true},
		{[]float64{plusInf, 1, minusInf}, minusInf, plusInf, true},
		{[]float64{minusInf, nan}, minusInf, minusInf, true},
		{[]float64{nan, plusInf}, plusInf, plusInf, true},
		{[]float64{nan, 4, nan, 9, nan}, 4, 9, true},
		{[]float64{math.MaxFloat64, -math.MaxFloat64}, -math.MaxFloat64, math.MaxFloat64, true},
	} {
		if x, is := Least(c.list); !same(x, c.least) || is != c.is {
			t.Errorf("Least(%v) = %v, %v; want %v, %v", c.list, x, is, c.least, c.is)
		}
		if x, is := Most(c.list); !same(x, c.most) || is != c.is {
			t.Errorf("Most(%v) = %v, %v; want %v, %v", c.list, x, is, c.most, c.is)
		}
	}
}

// P2.2: no number of the list is ahead of the least or behind the most.
func TestLeastAndMostOfSome(t *testing.T) {
	r := rand.New(rand.NewSource(2))
	from := samples()
	for range 3000 {
		l := someList(r, from)
		numbers := slices.DeleteFunc(slices.Clone(l), math.IsNaN)
		var low, high float64
		for i, x := range numbers {
			if i == 0 || ahead(x, low) {
				low = x
			}
			if i == 0 || ahead(high, x) {
				high = x
			}
		}
		if x, is := Least(l); !same(x, low) || is != (len(numbers) > 0) {
			t.Errorf("Least(%v) = %v, %v; want %v", l, x, is, low)
		}
		if x, is := Most(l); !same(x, high) || is != (len(numbers) > 0) {
			t.Errorf("Most(%v) = %v, %v; want %v", l, x, is, high)
		}
	}
}

// P2.2: Sort, with the chapter's example and lists of none.
func TestSort(t *testing.T) {
	for _, c := range []struct{ list, sorted []float64 }{
		{nil, nil},
		{[]float64{}, nil},
		{[]float64{nan}, []float64{nan}},
		{[]float64{2}, []float64{2}},
		{[]float64{0, minusZero, nan, minusInf}, []float64{minusInf, minusZero, 0, nan}},
		{[]float64{3, -1, 2, -1}, []float64{-1, -1, 2, 3}},
		{[]float64{0, minusZero, 0, minusZero}, []float64{minusZero, minusZero, 0, 0}},
		{[]float64{nan, plusInf, 1, minusInf, nan}, []float64{minusInf, 1, plusInf, nan, nan}},
	} {
		if got := Sort(c.list); !slices.Equal(bitsOf(got), bitsOf(c.sorted)) {
			t.Errorf("Sort(%v) = %v; want %v", c.list, got, c.sorted)
		}
	}
}

// P2.2: what is sorted has all of the list, each as often and with its own bits, in the order.
func TestSortHasAll(t *testing.T) {
	r := rand.New(rand.NewSource(3))
	from := samples()
	lists := [][]float64{from, slices.Repeat(from, 20)}
	for range 3000 {
		lists = append(lists, someList(r, from))
	}
	for _, l := range lists {
		r.Shuffle(len(l), func(i, j int) { l[i], l[j] = l[j], l[i] })
		got := Sort(l)
		for i := 1; i < len(got); i++ {
			if ahead(got[i], got[i-1]) {
				t.Errorf("Sort(%v) has %v ahead of %v", l, got[i-1], got[i])
			}
		}
		was, is := bitsOf(l), bitsOf(got)
		slices.Sort(was)
		slices.Sort(is)
		if !slices.Equal(was, is) {
			t.Errorf("Sort(%v) = %v, which has others", l, got)
		}
	}
}

// P2.3: the list stays as it is, also behind its length.
func TestListStays(t *testing.T) {
	all := []float64{nan, 2, 0, minusZero, plusInf, -3, minusInf, 8, -9}
	before := bitsOf(all)
	Sort(all[:7])
	Least(all[:7])
	Most(all[:7])
	if !slices.Equal(bitsOf(all), before) {
		t.Errorf("the list is %v", all)
	}
}

// P2.3: what is sorted is new memory, also where there is nothing to move, or nothing at all.
func TestSortedIsNew(t *testing.T) {
	for _, l := range [][]float64{{1, 2, 3}, {3, 2, 1}, {5}} {
		before := bitsOf(l)
		first, second := Sort(l), Sort(l)
		want := bitsOf(second)
		for i := range first {
			first[i] = -77
		}
		if !slices.Equal(bitsOf(l), before) || !slices.Equal(bitsOf(second), want) {
			t.Errorf("what is sorted shares memory: %v, %v", l, second)
		}
		for i := range l {
			l[i] = 99
		}
		if !slices.Equal(bitsOf(second), want) {
			t.Errorf("what is sorted shares memory with the list: %v", second)
		}
	}
	room := []float64{4, 5}
	_ = append(Sort(room[:0]), 6)
	if room[0] != 4 {
		t.Error("what is sorted of none has the list's room")
	}
}

// P2.4: two are alike just if both are NaN, or they have the same bits.
func TestAlikeIsSameBits(t *testing.T) {
	for _, a := range samples() {
		for _, b := range samples() {
			want := same(a, b) || math.IsNaN(a) && math.IsNaN(b)
			if Alike(a, b) != want {
				t.Errorf("Alike(%v, %v) = %v; the bits are %x, %x", a, b, !want, math.Float64bits(a), math.Float64bits(b))
			}
		}
	}
}

// P2.4: Less is an order: of two just one is ahead or they are alike, and it goes on from one to the next.
func TestLessIsAnOrder(t *testing.T) {
	l := samples()
	for _, a := range l {
		if Less(a, a) || !Alike(a, a) {
			t.Errorf("%v isn't alike to itself", a)
		}
		for _, b := range l {
			ways := 0
			for _, is := range []bool{Less(a, b), Less(b, a), Alike(a, b)} {
				if is {
					ways++
				}
			}
			if ways != 1 {
				t.Errorf("%v and %v stand in %d ways", a, b, ways)
			}
			for _, c := range l {
				if Less(a, b) && Less(b, c) && !Less(a, c) {
					t.Errorf("%v, %v, %v: the first isn't ahead of the last", a, b, c)
				}
				if Alike(a, b) && Alike(b, c) && !Alike(a, c) {
					t.Errorf("%v, %v, %v: the first isn't alike to the last", a, b, c)
				}
			}
		}
	}
}
