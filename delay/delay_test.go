package delay

import (
	"math"
	"math/bits"
	"math/rand"
	"strconv"
	"testing"

	"noggin/api"
)

// greatest is the chapter's greatest target, interval and number of drops.
const greatest = 1000000

// firstTick and lastTick are the chapter's ends of the ticks that may be asked at.
const (
	firstTick = 0
	lastTick  = 1 << 40
)

// byWordsPause is a pause by the chapter's words. Its root is that of a float64, which has enough bits for it.
func byWordsPause(interval, count int) int {
	return interval * 1024 / int(math.Sqrt(float64(1048576*count)))
}

// byWords is a control by the chapter's words.
type byWords struct {
	target, interval      int
	is                    string
	asked, till, next, of int
	// lowest is the least that a dropping began above the next one of the last.
	lowest int
}

func newByWords(target, interval int) byWords {
	return byWords{target: target, interval: interval, is: "calm", lowest: math.MaxInt}
}

func (w *byWords) ask(now, waited int) bool {
	if now < firstTick || now > lastTick || now < w.asked || waited < 0 {
		return false
	}
	w.asked = now
	if waited < w.target {
		w.is = "calm"
		return false
	}
	if w.is == "calm" {
		w.is = "wary"
		w.till = now + w.interval
		return false
	}
	if w.is == "wary" {
		if now < w.till {
			return false
		}
		w.is = "drops"
		above := now - w.next
		w.lowest = min(w.lowest, above)
		if w.of > 2 && above < 16*w.interval {
			w.of = w.of - 2
		} else {
			w.of = 1
		}
		w.next = now + byWordsPause(w.interval, w.of)
		return true
	}
	if now < w.next {
		return false
	}
	if w.of < greatest {
		w.of = w.of + 1
	}
	w.next = w.next + byWordsPause(w.interval, w.of)
	return true
}

func newControl(t *testing.T, target, interval int) *Control {
	t.Helper()
	c, err := New(target, interval)
	if err != nil || c == nil {
		t.Fatalf("New(%d, %d) = %v, %v", target, interval, c, err)
	}
	return c
}

// asked is one question, what is answered, and how many drops are counted then.
type asked struct {
	now, waited int
	drops       bool
	count       int
}

func wantAsked(t *testing.T, name string, c *Control, l ...asked) {
	t.Helper()
	for i, a := range l {
		if drops := c.Ask(a.now, a.waited); drops != a.drops {
			t.Errorf("%s: row %d: Ask(%d, %d) = %v", name, i, a.now, a.waited, drops)
		}
		for range 2 {
			if count := c.Count(); count != a.count {
				t.Errorf("%s: row %d: behind Ask(%d, %d) Count() = %d, want %d", name, i, a.now, a.waited, count, a.count)
			}
		}
	}
}

// wantAlike asks both, and holds that both tell the same.
func wantAlike(t *testing.T, c *Control, w *byWords, now, waited int) bool {
	t.Helper()
	was := w.is
	drops, want := c.Ask(now, waited), w.ask(now, waited)
	if drops != want || c.Count() != w.of {
		t.Fatalf("target %d, interval %d, %s: Ask(%d, %d) = %v, Count() = %d; want %v, %d",
			w.target, w.interval, was, now, waited, drops, c.Count(), want, w.of)
	}
	if drops && waited < w.target {
		t.Fatalf("target %d: Ask(%d, %d) = true", w.target, now, waited)
	}
	return drops
}

// wantDue holds that the next drop of one that drops is at that tick.
func wantDue(t *testing.T, name string, c *Control, waited, next int) {
	t.Helper()
	count := c.Count()
	wantAsked(t, name, c, asked{next - 1, waited, false, count}, asked{next, waited, true, count + 1})
}

// dropped is a control of target 1 that dropped so many, each one when it was due, with the tick of the last one and
// that of the next.
func dropped(t *testing.T, interval, many int) (c *Control, last, next int) {
	t.Helper()
	c = newControl(t, 1, interval)
	wantAsked(t, "ahead", c, asked{0, 1, false, 0})
	next = interval
	for n := 1; n <= many; n++ {
		last = next
		if !c.Ask(last, 1) || c.Count() != n {
			t.Fatalf("interval %d: drop %d isn't at %d, or Count() = %d", interval, n, last, c.Count())
		}
		next += byWordsPause(interval, n)
	}
	return c, last, next
}

// wantRoot holds the root against the chapter's words: its square is no greater, the next one's is.
func wantRoot(t *testing.T, n uint64) {
	t.Helper()
	root := Root(n)
	if over, square := bits.Mul64(root, root); over != 0 || square > n {
		t.Errorf("Root(%d) = %d: its square is greater", n, root)
	}
	if over, square := bits.Mul64(root+1, root+1); over == 0 && square <= n {
		t.Errorf("Root(%d) = %d: the next one's square is no greater", n, root)
	}
}

// P11.1, P11.3: 0 and each number up to some thousands.
func TestRootOfSmall(t *testing.T) {
	var root uint64
	for n := range uint64(10000) {
		if (root+1)*(root+1) == n {
			root++
		}
		if got := Root(n); got != root {
			t.Errorf("Root(%d) = %d, want %d", n, got, root)
		}
		wantRoot(t, n)
	}
	for n, want := range map[uint64]uint64{0: 0, 1: 1, 2: 1, 3: 1, 4: 2, 8: 2, 9: 3, 99: 9, 100: 10, 9801: 99, 9999: 99} {
		if got := Root(n); got != want {
			t.Errorf("Root(%d) = %d, want %d", n, got, want)
		}
	}
}

// wantSquare holds the roots of r's square, of those beside it, and of the last one below the next square.
func wantSquare(t *testing.T, r uint64) {
	t.Helper()
	square := r * r
	rows := []struct{ n, want uint64 }{{square, r}, {square - 1, r - 1}, {square + 1, r}, {square + 2*r, r}}
	for _, row := range rows {
		if got := Root(row.n); got != row.want {
			t.Errorf("Root(%d) = %d, want %d", row.n, got, row.want)
		}
		wantRoot(t, row.n)
	}
}

// P11.1, P11.3: squares, one below and one above each, from 1 up to the greatest square there is.
func TestRootOfSquares(t *testing.T) {
	for r := uint64(1); r <= 3000; r++ {
		wantSquare(t, r)
		wantSquare(t, 1<<32-r)
	}
	for bit := range 32 {
		for _, r := range []uint64{1<<bit - 1, 1 << bit, 1<<bit + 1} {
			if r > 0 {
				wantSquare(t, r)
			}
		}
	}
	rnd := rand.New(rand.NewSource(11))
	for range 20000 {
		wantSquare(t, 1+uint64(rnd.Int63n(1<<32-1)))
	}
}

// P11.1, P11.3: great numbers, and the greatest one.
func TestRootOfGreat(t *testing.T) {
	const square = (1<<32 - 1) * (1<<32 - 1)
	rows := []struct{ n, want uint64 }{
		{1<<62 - 1, 1<<31 - 1}, {1 << 62, 1 << 31}, {1<<62 + 1, 1 << 31},
		{1<<63 - 1, 3037000499}, {1 << 63, 3037000499}, {1<<63 + 1, 3037000499},
		{square - 1, 1<<32 - 2}, {square, 1<<32 - 1}, {square + 1, 1<<32 - 1},
		{math.MaxUint64 - 1, 1<<32 - 1}, {math.MaxUint64, 1<<32 - 1},
	}
	for _, row := range rows {
		if got := Root(row.n); got != row.want {
			t.Errorf("Root(%d) = %d, want %d", row.n, got, row.want)
		}
		wantRoot(t, row.n)
	}
	rnd := rand.New(rand.NewSource(12))
	for n := range 100000 {
		wantRoot(t, rnd.Uint64()>>(n%64))
	}
}

// P11.1: the chapter's example, others worked out by hand, and where it is cut off: at the very end, and nowhere else.
func TestPause(t *testing.T) {
	rows := []struct{ interval, count, want int }{
		{100, 4, 50}, {100, 1, 100}, {100, 2, 70}, {100, 3, 57}, {100, 5, 44}, {100, 9, 33}, {100, 16, 25},
		{100, 10000, 1}, {100, 10020, 0}, {100, greatest, 0},
		{1, 1, 1}, {1, 2, 0}, {1, greatest, 0}, {2, 2, 1}, {2, 3, 1}, {2, 4, 1}, {2, 5, 0},
		{greatest, 1, greatest}, {greatest, 4, 500000}, {greatest, greatest, 1000}, {greatest - 1, greatest, 999},
		// 1024000000 / 1448, where 1000000 / 1.41421.. is 707106, and 1000000 * (1024 / 1448) is 0.
		{greatest, 2, 707182},
		// 1024000000 / 1773, where 1000000 / 1773 * 1024 is 577536.
		{greatest, 3, 577552},
		// 1024000000 / 1023999, just above 1000: 1000.0009.
		{greatest, 999999, 1000},
		// 3 * 1024 / 2896, just above 1; 28 * 1024 / 2896 = 9.9006, which isn't rounded up.
		{3, 8, 1}, {28, 8, 9},
	}
	for _, row := range rows {
		if got := Pause(row.interval, row.count); got != row.want {
			t.Errorf("Pause(%d, %d) = %d, want %d", row.interval, row.count, got, row.want)
		}
	}
}

// P11.1: the pause, held against the chapter's words; that of one drop is the interval.
func TestPauseByWords(t *testing.T) {
	for interval := 1; interval <= 1000; interval++ {
		for count := 1; count <= 200; count++ {
			if got, want := Pause(interval, count), byWordsPause(interval, count); got != want {
				t.Errorf("Pause(%d, %d) = %d, want %d", interval, count, got, want)
			}
		}
	}
	rnd := rand.New(rand.NewSource(13))
	for range 200000 {
		interval, count := 1+rnd.Intn(greatest), 1+rnd.Intn(greatest)>>rnd.Intn(20)
		if got, want := Pause(interval, count), byWordsPause(interval, count); got != want {
			t.Errorf("Pause(%d, %d) = %d, want %d", interval, count, got, want)
		}
		if got := Pause(interval, 1); got != interval {
			t.Errorf("Pause(%d, 1) = %d", interval, got)
		}
	}
}

// numbers are those at the ends of what targets, intervals and numbers of drops may be, and far beyond them.
func numbers() []int {
	return []int{
		math.MinInt, math.MinInt + 1, math.MinInt32, -greatest - 1, -greatest, -100, -1, 0, 1, 2, 4, 100, greatest - 1,
		greatest, greatest + 1, 2 * greatest, math.MaxInt32, 1 << 32, 1<<32 + 1, 1 << 44, 1<<44 + 1, 1 << 54, 1<<54 + 1,
		math.MaxInt - 1, math.MaxInt,
	}
}

func mayBe(n int) bool { return n > 0 && n < greatest+1 }

// P11.1, P1: a pause of what may not be, one of both or both, is 0.
func TestPauseOfWrong(t *testing.T) {
	for _, interval := range numbers() {
		for _, count := range numbers() {
			want := 0
			if mayBe(interval) && mayBe(count) {
				want = byWordsPause(interval, count)
			}
			if got := Pause(interval, count); got != want {
				t.Errorf("Pause(%d, %d) = %d, want %d", interval, count, got, want)
			}
		}
	}
}

// P11.3: with more drops no pause grows, up to the greatest number of them.
func TestPausesFall(t *testing.T) {
	for _, interval := range []int{1, 7, 100, 999, 12345, greatest - 1, greatest} {
		last := interval
		for count := 1; count <= greatest; count++ {
			pause := Pause(interval, count)
			if pause > last || pause < 0 {
				t.Fatalf("Pause(%d, %d) = %d, and with one less it is %d", interval, count, pause, last)
			}
			last = pause
		}
		if last != interval/1000 {
			t.Errorf("Pause(%d, %d) = %d", interval, greatest, last)
		}
	}
}

// P11.2, R3: which targets and intervals may be, and the error itself; a new one is calm, counts none, and goes by
// both.
func TestNew(t *testing.T) {
	for _, target := range numbers() {
		for _, interval := range numbers() {
			c, err := New(target, interval)
			if !mayBe(target) || !mayBe(interval) {
				if c != nil || err != api.ErrArg {
					t.Errorf("New(%d, %d) = %v, %v, want nil, %v", target, interval, c, err, api.ErrArg)
				}
				continue
			}
			if c == nil || err != nil || c.Count() != 0 {
				t.Fatalf("New(%d, %d) = %v, %v", target, interval, c, err)
			}
			name := "target " + strconv.Itoa(target) + ", interval " + strconv.Itoa(interval)
			wantAsked(t, name, c,
				asked{0, target, false, 0}, asked{0, target - 1, false, 0},
				asked{1, target, false, 0}, asked{interval, target, false, 0}, asked{interval + 1, target, true, 1})
		}
	}
}

// P11.2: one dropping, as the chapter's words tell it: a target of 5, an interval of 100.
func TestOneDropping(t *testing.T) {
	wantAsked(t, "target 5, interval 100", newControl(t, 5, 100),
		asked{0, 4, false, 0}, asked{7, 5, false, 0}, asked{7, 5, false, 0}, asked{106, 900, false, 0},
		asked{107, 5, true, 1}, asked{107, 5, false, 1}, asked{206, 5, false, 1},
		asked{207, 5, true, 2}, asked{207, 5, false, 2}, asked{276, 5, false, 2},
		asked{277, 5, true, 3}, asked{333, 5, false, 3},
		asked{334, 5, true, 4}, asked{383, 5, false, 4}, asked{384, 5, true, 5}, asked{384, 5, false, 5})
}

// P11.2: what waited for less than the target makes it calm, wherever it was; Count stays.
func TestCalmAgain(t *testing.T) {
	wantAsked(t, "from wary", newControl(t, 5, 100),
		asked{0, 5, false, 0}, asked{99, 5, false, 0}, asked{99, 4, false, 0}, asked{100, 5, false, 0},
		asked{199, 5, false, 0}, asked{200, 5, true, 1})
	wantAsked(t, "from wary, at its very end", newControl(t, 5, 100),
		asked{0, 5, false, 0}, asked{100, 4, false, 0}, asked{100, 5, false, 0}, asked{199, 5, false, 0},
		asked{200, 5, true, 1})
	wantAsked(t, "from wary, behind its end", newControl(t, 5, 100),
		asked{0, 5, false, 0}, asked{500, 0, false, 0}, asked{501, 5, false, 0}, asked{600, 5, false, 0},
		asked{601, 5, true, 1})
	wantAsked(t, "from dropping", newControl(t, 5, 100),
		asked{0, 5, false, 0}, asked{100, 5, true, 1}, asked{150, 0, false, 1}, asked{200, 5, false, 1},
		asked{299, 5, false, 1}, asked{300, 5, true, 1}, asked{399, 5, false, 1}, asked{400, 5, true, 2})
	wantAsked(t, "from dropping, when the next one is due", newControl(t, 5, 100),
		asked{0, 5, false, 0}, asked{100, 5, true, 1}, asked{200, 4, false, 1}, asked{200, 5, false, 1},
		asked{299, 5, false, 1}, asked{300, 5, true, 1})
	wantAsked(t, "from calm", newControl(t, 5, 100),
		asked{0, 4, false, 0}, asked{50, 4, false, 0}, asked{1000, 4, false, 0}, asked{1000, 5, false, 0},
		asked{1099, 5, false, 0}, asked{1100, 5, true, 1})
}

// P11.2: first drops at the end of where it was wary, and far behind it; the very first dropping counts 1, below and
// above 16 intervals.
func TestFirstDrop(t *testing.T) {
	for _, interval := range []int{1, 2, 10, 1000, greatest} {
		for _, start := range []int{0, 1, 2, interval, 15*interval - 1, 15 * interval, 15*interval + 1, 40 * interval} {
			for _, late := range []int{0, 1, interval, 14 * interval, 15 * interval, 17 * interval, 1 << 35} {
				name := "interval " + strconv.Itoa(interval) + ", wary at " + strconv.Itoa(start)
				c, first := newControl(t, 3, interval), start+interval+late
				wantAsked(t, name, c, asked{start, 3, false, 0}, asked{start + interval - 1, 3, false, 0},
					asked{first, 3, true, 1}, asked{first, 3, false, 1})
				wantDue(t, name, c, 3, first+interval)
			}
		}
	}
}

// P11.2: several drops are due where it is asked late: one for each Ask, and the next one is at itself and the pause.
func TestLateDrops(t *testing.T) {
	wantAsked(t, "late", newControl(t, 1, 100),
		asked{0, 1, false, 0}, asked{100, 1, true, 1},
		// Due at 200, 270, 327 and 377; the next one is at 421.
		asked{400, 1, true, 2}, asked{400, 1, true, 3}, asked{400, 1, true, 4}, asked{400, 1, true, 5},
		asked{400, 1, false, 5}, asked{420, 1, false, 5}, asked{421, 1, true, 6}, asked{421, 1, false, 6})
	for _, interval := range []int{1, 2, 5, 100, 1000} {
		for _, late := range []int{1, interval, 3 * interval, 20 * interval} {
			c, last, next := dropped(t, interval, 3)
			now := last + interval + late
			for n := 3; next <= now && n < 1000; n++ {
				wantAsked(t, "late", c, asked{now, 1, true, n + 1})
				next += byWordsPause(interval, n+1)
			}
			if next > now {
				wantAsked(t, "late", c, asked{now, 1, false, c.Count()})
				wantDue(t, "late", c, 1, next)
			}
		}
	}
}

// wantAgain holds what a dropping behind another one of so many drops counts first, if it begins so far above its next
// one, and that its own next one is at the tick and that pause.
func wantAgain(t *testing.T, interval, many, above, count int) {
	t.Helper()
	c, last, next := dropped(t, interval, many)
	name := "interval " + strconv.Itoa(interval) + ", " + strconv.Itoa(many) + " drops, again " + strconv.Itoa(above) + " above"
	again := next + above
	if many == 0 {
		// Nothing was dropped: the next one is 0, and what it was wary of is given up.
		again = above
	}
	wantAsked(t, name, c, asked{last, 0, false, many}, asked{again - interval, 1, false, many},
		asked{again - 1, 1, false, many}, asked{again, 1, true, count})
	if pause := byWordsPause(interval, count); pause > 0 {
		wantAsked(t, name, c, asked{again, 1, false, count})
		wantDue(t, name, c, 1, again+pause)
	} else {
		wantAsked(t, name, c, asked{again, 1, true, count + 1})
	}
}

// P11.2: drops that come again, soon or not: less than 16 intervals above the next one of the last dropping, or just
// that, or more.
func TestAgain(t *testing.T) {
	for _, interval := range []int{1, 2, 3, 100, 1000, greatest} {
		for _, many := range []int{0, 1, 2, 3, 4, 5, 6, 7, 20, 100} {
			soonest := interval
			if many > 0 {
				// It is wary again at the tick of the last drop itself.
				soonest = interval - byWordsPause(interval, many)
			}
			count := 1
			if many > 2 {
				count = many - 2
			}
			wantAgain(t, interval, many, soonest, count)
			wantAgain(t, interval, many, interval+1, count)
			wantAgain(t, interval, many, 8*interval, count)
			wantAgain(t, interval, many, 16*interval-1, count)
			wantAgain(t, interval, many, 16*interval, 1)
			wantAgain(t, interval, many, 16*interval+1, 1)
			wantAgain(t, interval, many, 1000*interval, 1)
		}
	}
}

// P11.2: what is 16 intervals above is the tick of the drop, not that at which it was wary; the next one is meant, not
// the last drop, which may be far above it.
func TestAgainIsOfTheNextOne(t *testing.T) {
	c, _, next := dropped(t, 100, 6)
	wantAsked(t, "wary soon, dropping late", c, asked{next, 0, false, 6}, asked{next + 1, 1, false, 6},
		asked{next + 1600, 1, true, 1})
	c, _, next = dropped(t, 100, 6)
	wantAsked(t, "the last one late, the next one far below", c, asked{next + 2000, 1, true, 7},
		asked{next + 2000, 0, false, 7}, asked{next + 2000, 1, false, 7}, asked{next + 2100, 1, true, 1})
	c, _, next = dropped(t, 100, 6)
	next += byWordsPause(100, 7)
	wantAsked(t, "the last one late, the next one near enough", c, asked{next + 1499, 1, true, 7},
		asked{next + 1499, 0, false, 7}, asked{next + 1499, 1, false, 7}, asked{next + 1599, 1, true, 5})
	c, _, next = dropped(t, 100, 6)
	wantAsked(t, "calm and wary in between", c, asked{next - 1, 0, false, 6}, asked{next + 1, 1, false, 6},
		asked{next + 50, 0, false, 6}, asked{next + 1000, 1, false, 6}, asked{next + 1050, 0, false, 6},
		asked{next + 1499, 1, false, 6}, asked{next + 1599, 1, true, 4})
}

// P11.2: drops that come again and again: by two less each time, and by one more for each drop.
func TestAgainAndAgain(t *testing.T) {
	c, last, _ := dropped(t, 100, 9)
	for _, count := range []int{7, 5, 3, 1, 1} {
		wantAsked(t, "down", c, asked{last, 0, false, c.Count()}, asked{last, 1, false, c.Count()})
		last += 100
		wantAsked(t, "down", c, asked{last - 1, 1, false, c.Count()}, asked{last, 1, true, count})
	}
	wantDue(t, "down", c, 1, last+100)
	wantDue(t, "down", c, 1, last+170)
	wantDue(t, "down", c, 1, last+227)
	wantDue(t, "down", c, 1, last+277)
	wantAsked(t, "up again", c, asked{last + 300, 0, false, 5}, asked{last + 300, 1, false, 5}, asked{last + 400, 1, true, 3})
	wantDue(t, "up again", c, 1, last+457)
}

// wrong are questions that aren't answered by a control that was asked at that tick.
func wrong(tick int) []asked {
	l := []asked{}
	for _, now := range []int{math.MinInt, -lastTick, -1, tick - 1, lastTick + 1, 1 << 41, math.MaxInt} {
		for _, waited := range []int{math.MinInt, -1, 0, 1, 5, math.MaxInt} {
			l = append(l, asked{now: now, waited: waited})
		}
	}
	for _, now := range []int{tick, tick + 1, tick + 100, lastTick} {
		for _, waited := range []int{math.MinInt, -lastTick, -5, -1} {
			l = append(l, asked{now: now, waited: waited})
		}
	}
	return l
}

// P11.2, P1: a question that may not be is answered by false, and by nothing else: the tick isn't asked at, it is as
// calm as it was, Count stays, and at the next ticks all is as if nobody had asked so.
func TestWrongQuestions(t *testing.T) {
	rows := []asked{
		{0, 0, false, 0}, {0, 5, false, 0}, {50, 4, false, 0}, {50, 5, false, 0}, {149, 5, false, 0}, {150, 5, true, 1},
		{249, 5, false, 1}, {250, 5, true, 2}, {320, 5, true, 3}, {377, 5, true, 4}, {377, 5, false, 4}, {378, 0, false, 4},
		{378, 6, false, 4}, {477, 7, false, 4}, {478, 5, true, 2}, {547, 5, false, 2}, {548, 5, true, 3}, {549, 1, false, 3},
		{9000, 5, false, 3}, {9100, 5, true, 1}, {lastTick, 0, false, 1}, {lastTick, math.MaxInt, false, 1},
	}
	c := newControl(t, 5, 100)
	tick := 0
	for i, row := range rows {
		for _, x := range wrong(tick) {
			was := *c
			x.count = was.Count()
			wantAsked(t, "wrong ahead of row "+strconv.Itoa(i), c, x)
			if *c != was {
				t.Errorf("ahead of row %d: behind Ask(%d, %d) it is %v, and was %v", i, x.now, x.waited, *c, was)
			}
		}
		wantAsked(t, "row "+strconv.Itoa(i), c, row)
		tick = row.now
	}
}

// P11.2: a wrong question by itself, and what is answered then: of the tick that it was asked at, of the mood, of the
// wary one's end.
func TestBehindOneWrongQuestion(t *testing.T) {
	for _, x := range []asked{{now: 500, waited: -1}, {now: lastTick, waited: math.MinInt}, {now: lastTick + 1, waited: 5},
		{now: math.MaxInt, waited: 0}, {now: -1, waited: 0}, {now: -1, waited: 5}, {now: math.MinInt, waited: 5}} {
		wantAsked(t, "calm", newControl(t, 5, 100), x, asked{0, 5, false, 0}, asked{100, 5, true, 1})
		wantAsked(t, "wary", newControl(t, 5, 100), asked{0, 5, false, 0}, x, asked{99, 5, false, 0}, asked{100, 5, true, 1})
		x.count = 1
		wantAsked(t, "dropping", newControl(t, 5, 100), asked{0, 5, false, 0}, asked{100, 5, true, 1}, x,
			asked{199, 5, false, 1}, asked{200, 5, true, 2})
	}
	wantAsked(t, "below the last tick", newControl(t, 5, 100), asked{10, 5, false, 0}, asked{9, 0, false, 0},
		asked{110, 5, true, 1}, asked{109, 0, false, 1}, asked{210, 5, true, 2}, asked{209, 5, false, 2}, asked{280, 5, true, 3})
	wantAsked(t, "below a tick that wasn't its last but one", newControl(t, 5, 100), asked{10, 0, false, 0},
		asked{5, 5, false, 0}, asked{7, 5, false, 0}, asked{10, 5, false, 0}, asked{107, 5, false, 0}, asked{110, 5, true, 1})
}

// P11.2: the ticks at both ends, and waits at their ends.
func TestEnds(t *testing.T) {
	wantAsked(t, "MaxTime", newControl(t, greatest, greatest), asked{api.MaxTime - greatest, greatest, false, 0},
		asked{api.MaxTime - 1, math.MaxInt, false, 0}, asked{api.MaxTime, greatest, true, 1},
		asked{api.MaxTime, greatest, false, 1}, asked{api.MaxTime + 1, greatest, false, 1},
		asked{api.MaxTime + greatest, greatest, false, 1}, asked{api.MaxTime, greatest - 1, false, 1},
		asked{api.MaxTime, greatest, false, 1}, asked{api.MaxTime, math.MaxInt, false, 1})
	wantAsked(t, "all of time", newControl(t, 1, 1), asked{0, math.MaxInt, false, 0}, asked{api.MaxTime, math.MaxInt, true, 1},
		asked{api.MaxTime, 1, false, 1})
	wantAsked(t, "all that is due", newControl(t, 1, 2), asked{0, 1, false, 0}, asked{2, 1, true, 1},
		asked{api.MaxTime, 1, true, 2}, asked{api.MaxTime, 1, true, 3}, asked{api.MaxTime, 1, true, 4})
	wantAsked(t, "waits", newControl(t, 1, 10), asked{0, 0, false, 0}, asked{5, 0, false, 0}, asked{5, 1, false, 0},
		asked{15, math.MaxInt, true, 1}, asked{25, 1, true, 2}, asked{25, 0, false, 2}, asked{26, math.MaxInt, false, 2},
		asked{36, math.MaxInt, true, 1})
}

// P11.2: it counts up to the greatest number, and stays there; by then it drops at each pause still.
func TestCountsToTheMost(t *testing.T) {
	c, w := newControl(t, 2, 1000), newByWords(2, 1000)
	wantAlike(t, c, &w, 0, 2)
	now, next := 0, 1000
	for n := 1; n <= greatest+10; n++ {
		now = next
		if wantAlike(t, c, &w, now-1, 2); !wantAlike(t, c, &w, now, 2) {
			t.Fatalf("drop %d isn't at %d", n, now)
		}
		count := min(n, greatest)
		if c.Count() != count {
			t.Fatalf("behind drop %d Count() = %d", n, c.Count())
		}
		next += byWordsPause(1000, count)
	}
	wantAsked(t, "again, soon", c, asked{now, 1, false, greatest}, asked{now, 2, false, greatest},
		asked{now + 1000, 2, true, greatest - 2}, asked{now + 1000, 2, false, greatest - 2},
		asked{now + 1001, 2, true, greatest - 1}, asked{now + 1002, 2, true, greatest}, asked{now + 1003, 2, true, greatest})
}

// P11.2, P1: with an interval of 1 pauses are 0 from the second drop on: each Ask drops, even at one tick.
func TestCountsAtOneTick(t *testing.T) {
	c := newControl(t, 1, 1)
	wantAsked(t, "first", c, asked{0, 1, false, 0}, asked{1, 1, true, 1}, asked{1, 1, false, 1})
	for n := 2; n <= greatest+10; n++ {
		if !c.Ask(2, 1) || c.Count() != min(n, greatest) {
			t.Fatalf("drop %d isn't at 2, or Count() = %d", n, c.Count())
		}
	}
	// The next one is at 2 still, so that 17 is less than 16 intervals above it.
	wantAsked(t, "again, soon", c, asked{16, 0, false, greatest}, asked{16, 1, false, greatest},
		asked{17, 1, true, greatest - 2}, asked{17, 1, true, greatest - 1})
	wantAsked(t, "again, late", c, asked{32, 0, false, greatest - 1}, asked{32, 1, false, greatest - 1},
		asked{33, 1, true, 1}, asked{33, 1, false, 1}, asked{34, 1, true, 2})
}

// deeds are steps of the clock, with waits, that a walk is made of.
func deeds(target, interval int) []asked {
	l := []asked{{now: -1, waited: target}, {now: -1}, {now: 1, waited: -1}}
	for _, step := range []int{0, 1, interval - 1, interval, 16*interval - 1, 16 * interval} {
		l = append(l, asked{now: step, waited: target}, asked{now: step, waited: target - 1})
	}
	return l
}

// walk holds all rows of so many deeds behind what both were asked, and tells the least that a dropping began above
// the next one of the last.
func walk(t *testing.T, c Control, w byWords, l []asked, many int) int {
	t.Helper()
	lowest := w.lowest
	if many == 0 {
		return lowest
	}
	for _, x := range l {
		c, w := c, w
		wantAlike(t, &c, &w, w.asked+x.now, x.waited)
		lowest = min(lowest, walk(t, c, w, l, many-1))
	}
	return lowest
}

// P11.2, P11.3, P1: all rows of five deeds, behind droppings of several drops. No dropping begins below the next one of
// the last, for it is wary for an interval, and no pause is greater: by asking, none comes there.
func TestAllRowsOfDeeds(t *testing.T) {
	for _, interval := range []int{1, 3, 10} {
		for _, many := range []int{0, 3, 4, 6} {
			c, w := newControl(t, 2, interval), newByWords(2, interval)
			wantAlike(t, c, &w, 0, 2)
			for w.of < many {
				wantAlike(t, c, &w, w.asked+1, 2)
			}
			if lowest := walk(t, *c, w, deeds(2, interval), 5); lowest < 0 {
				t.Errorf("interval %d: a dropping began %d above the next one of the last", interval, lowest)
			}
		}
	}
}

// run asks both at random for so many times, and tells how many drops there were, how many of them were again and
// soon, and the most that was counted.
func run(t *testing.T, rnd *rand.Rand, c *Control, w *byWords, times, bad int) (drops, again, counted int) {
	t.Helper()
	for range times {
		step, waited := 0, w.target+rnd.Intn(3)
		switch x := rnd.Intn(100); {
		case x < bad:
			waited = rnd.Intn(w.target)
		case x < 97:
			step = rnd.Intn(w.interval/2 + 2)
		case x < 98:
			step = rnd.Intn(20 * w.interval)
		case x < 99:
			step = -rnd.Intn(3)
		default:
			waited = -rnd.Intn(2)
		}
		was, before := w.is, w.of
		if wantAlike(t, c, w, w.asked+step, waited) {
			drops++
			if was == "wary" && w.of > 1 && w.of == before-2 {
				again++
			}
		}
		counted = max(counted, w.of)
	}
	return drops, again, counted
}

// P11.2, P11.3, P1: very many questions, of droppings that are long, and short, and come again; what waited for less
// than the target is never dropped.
func TestAtRandom(t *testing.T) {
	rnd := rand.New(rand.NewSource(14))
	for _, target := range []int{1, 2, 50, greatest} {
		for _, interval := range []int{1, 2, 3, 7, 100, 5000, greatest} {
			for _, bad := range []int{1, 5, 20} {
				c, w := newControl(t, target, interval), newByWords(target, interval)
				drops, again, counted := run(t, rnd, c, &w, 5000, bad)
				if w.lowest < 0 {
					t.Errorf("interval %d: a dropping began %d above the next one of the last", interval, w.lowest)
				}
				if bad == 5 && (drops < 100 || again == 0 || counted < 10) {
					t.Errorf("target %d, interval %d: %d drops, %d again, up to %d", target, interval, drops, again, counted)
				}
			}
		}
	}
}

// P11.3: one that never waited for long enough is never dropped, nor one of which each other one didn't.
func TestNeverBelowTheTarget(t *testing.T) {
	for _, target := range []int{1, 2, 100, greatest} {
		c, d := newControl(t, target, 1), newControl(t, target, 1)
		for now := range 5000 {
			if c.Ask(now*now, target-1) || d.Ask(now*now, target-(now+1)%2) && now%2 == 0 || c.Count() != 0 {
				t.Fatalf("target %d: dropped at %d", target, now*now)
			}
		}
		if d.Count() != 0 {
			t.Errorf("target %d: each other one waited for less, and Count() = %d", target, d.Count())
		}
	}
}

// P11.2: two controls side by side, of one kind and of several: each keeps its own.
func TestSideBySide(t *testing.T) {
	rnd := rand.New(rand.NewSource(15))
	kinds := []struct{ target, interval int }{{3, 10}, {3, 10}, {4, 10}, {3, 11}, {1, 1}}
	controls, words := []*Control{}, []byWords{}
	for _, k := range kinds {
		controls, words = append(controls, newControl(t, k.target, k.interval)), append(words, newByWords(k.target, k.interval))
	}
	for range 20000 {
		i := rnd.Intn(len(kinds))
		wantAlike(t, controls[i], &words[i], words[i].asked+rnd.Intn(8), rnd.Intn(60))
		for j := range kinds {
			if controls[j].Count() != words[j].of {
				t.Fatalf("behind an Ask of control %d Count() of control %d = %d, want %d", i, j, controls[j].Count(), words[j].of)
			}
		}
	}
	one, other := newControl(t, 5, 100), newControl(t, 5, 100)
	wantAsked(t, "one", one, asked{1000, 5, false, 0}, asked{1100, 5, true, 1})
	wantAsked(t, "the other", other, asked{0, 5, false, 0}, asked{100, 5, true, 1}, asked{200, 5, true, 2})
	wantAsked(t, "one again", one, asked{1199, 5, false, 1}, asked{1200, 4, false, 1})
	wantAsked(t, "the other again", other, asked{269, 5, false, 2}, asked{270, 5, true, 3})
}
