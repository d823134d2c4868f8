package line

import (
	"errors"
	"math"
	"math/big"
	"math/rand"
	"reflect"
	"regexp"
	"slices"
	"strings"
	"testing"
	"unsafe"

	"noggin/api"
)

const (
	word16 = "abcdefghij_z.019"
	word17 = word16 + "a"
	ends64 = "-9223372036854775808 9223372036854775807"
)

func tagsOf(pairs ...string) []api.Tag {
	var l []api.Tag
	for i := 0; i < len(pairs); i += 2 {
		l = append(l, api.Tag{Key: pairs[i], Value: pairs[i+1]})
	}
	return l
}

func manyTags(n int) []api.Tag { return slices.Repeat(tagsOf("k", "v"), n) }

func manyTagsText(n int) string { return strings.Repeat(",k=v", n) }

// pairs are events and their lines, the edges of what may be among them.
func pairs() map[string]api.Event {
	widest := slices.Repeat(tagsOf(word16, word16), 6)
	return map[string]api.Event{
		"cpu,host=a c 5 100": {Name: "cpu", Tags: tagsOf("host", "a"), Kind: api.Count, Value: 5, Time: 100},
		"a c 0 0":            {Name: "a", Kind: api.Count},
		"_ g -1 1":           {Name: "_", Kind: api.Gauge, Value: -1, Time: 1},
		". h 10 10":          {Name: ".", Kind: api.Histo, Value: 10, Time: 10},
		"0 c -10 9":          {Name: "0", Kind: api.Count, Value: -10, Time: 9},
		"c,g=h h 1 1":        {Name: "c", Tags: tagsOf("g", "h"), Kind: api.Histo, Value: 1, Time: 1},
		"a,z=1,b=2,z=1 g 7 8": {
			Name: "a", Tags: tagsOf("z", "1", "b", "2", "z", "1"), Kind: api.Gauge, Value: 7, Time: 8,
		},
		"007,00=0 c 1 1":                 {Name: "007", Tags: tagsOf("00", "0"), Kind: api.Count, Value: 1, Time: 1},
		"a c 9223372036854775807 5":      {Name: "a", Kind: api.Count, Value: math.MaxInt64, Time: 5},
		"a g -9223372036854775808 5":     {Name: "a", Kind: api.Gauge, Value: math.MinInt64, Time: 5},
		"a h 1 1099511627775":            {Name: "a", Kind: api.Histo, Value: 1, Time: api.MaxTime - 1},
		"a h 1 1099511627776":            {Name: "a", Kind: api.Histo, Value: 1, Time: api.MaxTime},
		word16 + " c 1 1":                {Name: word16, Kind: api.Count, Value: 1, Time: 1},
		"a," + word16 + "=b c 1 1":       {Name: "a", Tags: tagsOf(word16, "b"), Kind: api.Count, Value: 1, Time: 1},
		"a,b=" + word16 + " c 1 1":       {Name: "a", Tags: tagsOf("b", word16), Kind: api.Count, Value: 1, Time: 1},
		"a" + manyTagsText(5) + " c 1 1": {Name: "a", Tags: manyTags(5), Kind: api.Count, Value: 1, Time: 1},
		"a" + manyTagsText(6) + " c 1 1": {Name: "a", Tags: manyTags(6), Kind: api.Count, Value: 1, Time: 1},
		word16 + strings.Repeat(","+word16+"="+word16, 6) + " h -9223372036854775808 1099511627776": {
			Name: word16, Tags: widest, Kind: api.Histo, Value: math.MinInt64, Time: api.MaxTime,
		},
	}
}

// wrongs are events that may not be: each is one that may be, but for one thing.
func wrongs() []api.Event {
	right := api.Event{Name: "a", Tags: tagsOf("k", "v", "l", "w"), Kind: api.Count, Value: 1, Time: 1}
	var l []api.Event
	add := func(change func(e *api.Event)) {
		e := right
		e.Tags = slices.Clone(right.Tags)
		change(&e)
		l = append(l, e)
	}
	for _, w := range []string{"", word17, strings.Repeat("a", 300), "A", "Z", "a b", " a", "a ", "a,b", "a=b", "-", "a-1", "é", "a\x00", "\xff", "`", "{", "/", ":", "a\n"} {
		add(func(e *api.Event) { e.Name = w })
		for i := range right.Tags {
			add(func(e *api.Event) { e.Tags[i].Key = w })
			add(func(e *api.Event) { e.Tags[i].Value = w })
		}
	}
	for _, n := range []int{7, 8, 100} {
		add(func(e *api.Event) { e.Tags = manyTags(n) })
	}
	for _, k := range []int{math.MinInt, -1, 0, 4, 256 + 1, 1<<32 + 1, math.MaxInt} {
		add(func(e *api.Event) { e.Kind = k })
	}
	for _, at := range []int64{math.MinInt64, -api.MaxTime, -1, api.MaxTime + 1, math.MaxInt64} {
		add(func(e *api.Event) { e.Time = at })
	}
	return append(l, api.Event{})
}

func sameEvent(a, b api.Event) bool {
	return a.Name == b.Name && slices.Equal(a.Tags, b.Tags) && a.Kind == b.Kind && a.Value == b.Value && a.Time == b.Time
}

// wantFault holds that Parse can't go on at that byte, and answers nothing beside the error.
func wantFault(t *testing.T, s string, at int) {
	t.Helper()
	e, err := Parse(s)
	spot, is := err.(*api.Spot)
	if !is || spot.Err != api.ErrForm || spot.At != at {
		t.Errorf("Parse(%q) = %v, %v; want ErrForm at %d", s, e, err, at)
		return
	}
	if !errors.Is(err, api.ErrForm) {
		t.Errorf("Parse(%q): the error isn't ErrForm", s)
	}
	if !reflect.ValueOf(e).IsZero() {
		t.Errorf("Parse(%q) = %v beside an error", s, e)
	}
}

// P4.1: May, at ordinary events and at the edges.
func TestMay(t *testing.T) {
	for s, e := range pairs() {
		if !May(e) {
			t.Errorf("the event of %q may not be", s)
		}
	}
	for _, e := range wrongs() {
		if May(e) {
			t.Errorf("%v may be", e)
		}
	}
}

// P4.1: a list of tags that is empty, but there, is one of no tags.
func TestMayEmptyTags(t *testing.T) {
	e := api.Event{Name: "a", Tags: []api.Tag{}, Kind: api.Count}
	if !May(e) {
		t.Error("it may not be")
	}
	if s, err := Print(e); s != "a c 0 0" || err != nil {
		t.Errorf("Print = %q, %v", s, err)
	}
}

// P4.1: each byte is one of a word or isn't, wherever it stands.
func TestMayEachByte(t *testing.T) {
	const all = "abcdefghijklmnopqrstuvwxyz0123456789_."
	for x := range 256 {
		b := string([]byte{byte(x)})
		want := strings.Contains(all, b)
		for _, w := range []string{b, b + "a", "a" + b, "a" + b + "a"} {
			for _, e := range []api.Event{
				{Name: w, Kind: api.Count},
				{Name: "a", Tags: tagsOf(w, "v"), Kind: api.Count},
				{Name: "a", Tags: tagsOf("k", w), Kind: api.Count},
				{Name: "a", Tags: append(manyTags(5), api.Tag{Key: w, Value: w}), Kind: api.Count},
			} {
				if May(e) != want {
					t.Errorf("May(%+v) = %v", e, !want)
				}
			}
		}
	}
}

// P4.1: words of each length.
func TestMayEachLength(t *testing.T) {
	for n := range 40 {
		w := strings.Repeat("a", n)
		want := n >= 1 && n <= 16
		for _, e := range []api.Event{
			{Name: w, Kind: api.Count},
			{Name: "a", Tags: tagsOf(w, "v"), Kind: api.Count},
			{Name: "a", Tags: tagsOf("k", w), Kind: api.Count},
		} {
			if May(e) != want {
				t.Errorf("May(%+v) = %v", e, !want)
			}
		}
	}
}

// P4.1: Print, at ordinary events and at the edges.
func TestPrint(t *testing.T) {
	for want, e := range pairs() {
		if s, err := Print(e); s != want || err != nil {
			t.Errorf("Print(%v) = %q, %v; want %q", e, s, err, want)
		}
	}
}

// P4.1 and R3: Print, at what may not be: ErrArg itself, and nothing beside it.
func TestPrintWrong(t *testing.T) {
	for _, e := range wrongs() {
		if s, err := Print(e); s != "" || err != api.ErrArg {
			t.Errorf("Print(%v) = %q, %v; want ErrArg", e, s, err)
		}
	}
}

// P4.2: Parse, at the chapter's example, ordinary lines and the edges.
func TestParse(t *testing.T) {
	for s, want := range pairs() {
		if e, err := Parse(s); !sameEvent(e, want) || err != nil {
			t.Errorf("Parse(%q) = %v, %v; want %v", s, e, err, want)
		}
	}
}

// P4.2: more than MaxLine bytes are ErrLarge itself, whatever they are; so many aren't.
func TestParseLarge(t *testing.T) {
	for _, s := range []string{"a", "A", " ", "\x00", "a c 1 1 ", "a,b=c", "é", "a c 1 000"} {
		long := strings.Repeat(s, 1000)
		for _, n := range []int{301, 302, 600, 1000} {
			if e, err := Parse(long[:n]); err != api.ErrLarge || !reflect.ValueOf(e).IsZero() {
				t.Errorf("Parse of %d bytes %q.. = %v, %v; want ErrLarge", n, s, e, err)
			}
		}
	}
	wantFault(t, strings.Repeat("a", 300), 0)
	wantFault(t, strings.Repeat("a", 299), 0)
	wantFault(t, strings.Repeat("A", 300), 0)
	wantFault(t, "a c 1 1"+strings.Repeat(" ", 293), 7)
	if _, err := Parse("a c 1 1" + strings.Repeat(" ", 294)); err != api.ErrLarge {
		t.Errorf("a line with 301 bytes: %v", err)
	}
}

// P4.2: a name that is too long, isn't there, or has what no word has.
func TestParseName(t *testing.T) {
	wantFault(t, "", 0)
	wantFault(t, " ", 0)
	wantFault(t, " a c 1 1", 0)
	wantFault(t, ",k=v c 1 1", 0)
	wantFault(t, "=", 0)
	wantFault(t, "A c 1 1", 0)
	wantFault(t, "\x00", 0)
	wantFault(t, "é c 1 1", 0)
	wantFault(t, "\xff", 0)
	wantFault(t, "- c 1 1", 0)
	wantFault(t, "aA c 1 1", 1)
	wantFault(t, "a\x00 c 1 1", 1)
	wantFault(t, "abé c 1 1", 2)
	wantFault(t, "a-b c 1 1", 1)
	wantFault(t, "a=b c 1 1", 1)
	wantFault(t, "a\tc 1 1", 1)
	wantFault(t, "a", 1)
	wantFault(t, word16, 16)
	wantFault(t, word16+"A", 16)
	wantFault(t, word17, 0)
	wantFault(t, word17+" c 1 1", 0)
	wantFault(t, word17+"A c 1 1", 0)
	wantFault(t, word17+",k=v c 1 1", 0)
}

// P4.2: a tag whose key or value is too long, isn't there, or has what no word has; one without its =.
func TestParseTag(t *testing.T) {
	wantFault(t, "a,", 2)
	wantFault(t, "a, c 1 1", 2)
	wantFault(t, "a,,", 2)
	wantFault(t, "a,=v c 1 1", 2)
	wantFault(t, "a,K=v c 1 1", 2)
	wantFault(t, "a,kK=v c 1 1", 3)
	wantFault(t, "a,k", 3)
	wantFault(t, "a,k c 1 1", 3)
	wantFault(t, "a,k,l=v c 1 1", 3)
	wantFault(t, "a,k=", 4)
	wantFault(t, "a,k= c 1 1", 4)
	wantFault(t, "a,k=,l=v c 1 1", 4)
	wantFault(t, "a,k==v c 1 1", 4)
	wantFault(t, "a,k=V c 1 1", 4)
	wantFault(t, "a,k=vV c 1 1", 5)
	wantFault(t, "a,k=v=w c 1 1", 5)
	wantFault(t, "a,k=v", 5)
	wantFault(t, "a,k=v, c 1 1", 6)
	wantFault(t, "a,k=v,l c 1 1", 7)
	wantFault(t, "a,k=v,l= c 1 1", 8)
	wantFault(t, "a,"+word16+"A=v c 1 1", 18)
	wantFault(t, "a,"+word17+"=v c 1 1", 2)
	wantFault(t, "a,"+word17, 2)
	wantFault(t, "a,k="+word16+"A c 1 1", 20)
	wantFault(t, "a,k="+word17+" c 1 1", 4)
	wantFault(t, "a,k="+word17, 4)
	wantFault(t, "a,k=v,"+word17+"=v c 1 1", 6)
	wantFault(t, "a, k=v c 1 1", 2)
	wantFault(t, "a ,k=v c 1 1", 2)
}

// P4.2: of tags more than may be, the first one's comma, whatever is behind it.
func TestParseTagsTooMany(t *testing.T) {
	for _, behind := range []string{" c 1 1", "", ",k=v c 1 1", ",", "=", "K"} {
		wantFault(t, "a"+manyTagsText(7)+behind, 25)
	}
	wantFault(t, "a"+manyTagsText(6)+",", 25)
	wantFault(t, "a"+manyTagsText(6)+",=", 25)
	wantFault(t, "a"+manyTagsText(6)+","+word17, 25)
	wantFault(t, "a"+manyTagsText(6), 25)
	wantFault(t, "a"+manyTagsText(5)+", c 1 1", 22)
	wantFault(t, "a,K=v"+manyTagsText(6)+" c 1 1", 2)
	wide := strings.Repeat(","+word16+"="+word16, 6)
	wantFault(t, word16+wide+",k=v c 1 1", 220)
}

// P4.2: a kind that isn't there, or isn't one.
func TestParseKind(t *testing.T) {
	wantFault(t, "a ", 2)
	wantFault(t, "a  c 1 1", 2)
	wantFault(t, "a x 1 1", 2)
	wantFault(t, "a C 1 1", 2)
	wantFault(t, "a 1 1 1", 2)
	wantFault(t, "a \x00 1 1", 2)
	wantFault(t, "a c", 3)
	wantFault(t, "a cc 1 1", 3)
	wantFault(t, "a ch 1 1", 3)
	wantFault(t, "a c1 1", 3)
	wantFault(t, "a,k=v x 1 1", 6)
	for x := range 256 {
		if b := byte(x); b != 'c' && b != 'g' && b != 'h' {
			wantFault(t, "a "+string([]byte{b})+" 1 1", 2)
		}
	}
}

// P4.2: a value that isn't there, has a 0 ahead of others, is -0, a - without digits, or beyond an end.
func TestParseValue(t *testing.T) {
	wantFault(t, "a c ", 4)
	wantFault(t, "a c  1", 4)
	for _, v := range []string{
		"", "x", "+1", ".5", "\x00", "00", "01", "000", "0123", "-", "--1", "-0", "-00", "-01", "- 1", "-x", "-+1", "_1",
		"9223372036854775808", "9223372036854775810", "18446744073709551616", "18446744073709551617", "99999999999999999999",
		"-9223372036854775809", "-9223372036854775810", "-18446744073709551615", "-99999999999999999999",
		"00000000000000000000001", strings.Repeat("9", 250), "-" + strings.Repeat("1", 250), "0" + strings.Repeat("0", 250),
	} {
		wantFault(t, "a c "+v, 4)
		wantFault(t, "a c "+v+" 1", 4)
		wantFault(t, "a c "+v+"x 1", 4)
		wantFault(t, "a,k=v h "+v+" 1", 8)
	}
	wantFault(t, "a c 1", 5)
	wantFault(t, "a c 0", 5)
	wantFault(t, "a c 1x 1", 5)
	wantFault(t, "a c 0x 1", 5)
	wantFault(t, "a c 0-1 1", 5)
	wantFault(t, "a c 1_0 1", 5)
	wantFault(t, "a c 1.5 1", 5)
	wantFault(t, "a c 1e5 1", 5)
	wantFault(t, "a c -1", 6)
	wantFault(t, "a c -1- 1", 6)
	wantFault(t, "a c 12\x00 1", 6)
	wantFault(t, "a c 9223372036854775807", 23)
	wantFault(t, "a c 9223372036854775807x 1", 23)
	wantFault(t, "a c -9223372036854775808x 1", 24)
}

// P4.2: a time that isn't there, isn't a number, is below 0 or more than MaxTime.
func TestParseTime(t *testing.T) {
	wantFault(t, "a c 1 ", 6)
	wantFault(t, "a c 1  1", 6)
	for _, v := range []string{
		"", "x", "+1", "-", "-0", "-1", "-01", "-x", "00", "01", "000",
		"1099511627777", "1099511627780", "2199023255552", "9223372036854775807", "9223372036854775808", "18446744073709551617",
		"-1099511627776", "-9223372036854775808", "01099511627776", strings.Repeat("9", 250),
	} {
		wantFault(t, "a c 1 "+v, 6)
		wantFault(t, "a c 1 "+v+"x", 6)
		wantFault(t, "a c 1 "+v+" ", 6)
	}
	wantFault(t, "a c -1 -1", 7)
	wantFault(t, "a c "+ends64, 25)
}

// P4.2: something behind all.
func TestParseBehind(t *testing.T) {
	for x := range 256 {
		b := string([]byte{byte(x)})
		if !strings.Contains("0123456789", b) {
			wantFault(t, "a c 1 1"+b, 7)
		}
		wantFault(t, "a c 1 0 "+b, 7)
		wantFault(t, "a c 1 1099511627776 "+b, 19)
	}
	wantFault(t, "a c 1 1\n", 7)
	wantFault(t, "a c 1 1 1", 7)
	wantFault(t, "a c 1 0x", 7)
	wantFault(t, "a c 1 1-", 7)
}

// whole are lines, but for how great their numbers are.
func whole() *regexp.Regexp {
	const word = `[a-z0-9_.]{1,16}`
	return regexp.MustCompile(`\A` + word + `(,` + word + `=` + word + `){0,6} [cgh] (0|-?[1-9][0-9]*) (0|[1-9][0-9]*)\z`)
}

func between(n, least, most string) bool {
	x, ok := new(big.Int).SetString(n, 10)
	low, _ := new(big.Int).SetString(least, 10)
	high, _ := new(big.Int).SetString(most, 10)
	return ok && x.Cmp(low) >= 0 && x.Cmp(high) <= 0
}

func isLine(lines *regexp.Regexp, s string) bool {
	m := lines.FindStringSubmatch(s)
	return m != nil && between(m[2], "-9223372036854775808", "9223372036854775807") && between(m[3], "0", "1099511627776")
}

// step is one piece of a line: what is run through, and which of that may be.
type step struct {
	run *regexp.Regexp
	may func(piece string) bool
}

func stepsOf(tags int) []step {
	short := func(p string) bool { return len(p) >= 1 && len(p) <= 16 }
	there := func(p string) bool { return p != "" }
	one := func(p string) bool { return regexp.MustCompile(`\A(0|-?[1-9][0-9]*)\z`).MatchString(p) }
	value := func(p string) bool { return one(p) && between(p, "-9223372036854775808", "9223372036854775807") }
	time := func(p string) bool { return one(p) && between(p, "0", "1099511627776") }
	of := func(run string, may func(string) bool) step {
		return step{regexp.MustCompile(`\A(?s:` + run + `)`), may}
	}
	word, space, number := `[a-z0-9_.]*`, of(` ?`, there), `-?[0-9]*`
	l := []step{of(word, short)}
	for range tags {
		l = append(l, of(`,?`, there), of(word, short), of(`=?`, there), of(word, short))
	}
	return append(l, space, of(`[cgh]?`, there), space, of(number, value), space, of(number, time), of(`.*`, func(p string) bool { return p == "" }))
}

// faultOf goes through the pieces of a line with so many tags: -1, if it is one.
func faultOf(steps []step, s string) int {
	at := 0
	for _, p := range steps {
		piece := p.run.FindString(s[at:])
		if !p.may(piece) {
			return at
		}
		at += len(piece)
	}
	return -1
}

// oracle tells the fault of a line: that of the number of tags with which it goes furthest.
type oracle [7][]step

func newOracle() *oracle {
	var o oracle
	for n := range o {
		o[n] = stepsOf(n)
	}
	return &o
}

func (o *oracle) faultOf(s string) int {
	furthest := 0
	for _, steps := range o {
		at := faultOf(steps, s)
		if at < 0 {
			return -1
		}
		furthest = max(furthest, at)
	}
	return furthest
}

// goesOn tells whether a line may begin so.
func goesOn(lines *regexp.Regexp, s string) bool {
	for _, more := range []string{"", "1", " 1", "1 1", " 1 1", "c 1 1", " c 1 1", "a c 1 1", "=a c 1 1", "a=a c 1 1"} {
		if isLine(lines, s+more) {
			return true
		}
	}
	return false
}

// holdParse holds one line against the words of the chapter.
func holdParse(t *testing.T, o *oracle, lines *regexp.Regexp, s string) {
	t.Helper()
	at := o.faultOf(s)
	if (at < 0) != isLine(lines, s) {
		t.Fatalf("the test is at odds with itself: %q", s)
	}
	if at >= 0 {
		wantFault(t, s, at)
		if !goesOn(lines, s[:at]) {
			t.Errorf("%q can't go on ahead of byte %d already", s, at)
		}
		return
	}
	e, err := Parse(s)
	if err != nil || !May(e) {
		t.Errorf("Parse(%q) = %v, %v", s, e, err)
	}
	if back, err := Print(e); back != s || err != nil {
		t.Errorf("%q is printed as %q, %v", s, back, err)
	}
}

// P4.2: each piece of a line, from its start on, and each with one byte dropped, doubled, changed or put in.
func TestParseBesideLines(t *testing.T) {
	o, lines := newOracle(), whole()
	for s := range pairs() {
		for i := range len(s) + 1 {
			holdParse(t, o, lines, s[:i])
			for _, b := range []string{"a", "Z", "0", "9", "-", ",", "=", " ", "c", "\x00", "\xff"} {
				holdParse(t, o, lines, s[:i]+b+s[i:])
				if i < len(s) {
					holdParse(t, o, lines, s[:i]+b+s[i+1:])
				}
			}
			if i < len(s) {
				holdParse(t, o, lines, s[:i]+s[i+1:])
				holdParse(t, o, lines, s[:i]+s[i:i+1]+s[i:])
			}
		}
	}
}

// P4.2 and P1: texts at random, of the pieces that lines have.
func TestParseAtRandom(t *testing.T) {
	o, lines := newOracle(), whole()
	r := rand.New(rand.NewSource(4))
	pieces := []string{"a", "b1", word16, ",", ",k=v", "=", " ", " c ", " g ", " h ", "c", "0", "1", "-", "-7", "9223372036854775807", "1099511627776", "1099511627777", " 1 1", "A", "\x00", "é"}
	for range 20000 {
		s := ""
		for range r.Intn(12) {
			s += pieces[r.Intn(len(pieces))]
		}
		if len(s) <= api.MaxLine {
			holdParse(t, o, lines, s)
		}
	}
	for range 2000 {
		b := make([]byte, r.Intn(20))
		r.Read(b)
		holdParse(t, o, lines, string(b))
	}
}

// P4.2: numbers about each power of 2, and those of each length.
func TestParseNumbers(t *testing.T) {
	o, lines := newOracle(), whole()
	for bits := range 80 {
		for off := int64(-2); off <= 2; off++ {
			n := new(big.Int).Lsh(big.NewInt(1), uint(bits))
			n.Add(n, big.NewInt(off))
			for _, text := range []string{n.String(), "-" + n.String(), "0" + n.String()} {
				holdParse(t, o, lines, "a g "+text+" 1")
				holdParse(t, o, lines, "a g 1 "+text)
			}
		}
	}
	for n := 1; n < 100; n++ {
		for _, d := range []string{"0", "1", "9"} {
			holdParse(t, o, lines, "a g "+strings.Repeat(d, n)+" 1")
			holdParse(t, o, lines, "a g 1 "+strings.Repeat(d, n))
		}
	}
}

// P4.3: an event's tags stay as they are, also behind their length.
func TestTagsStay(t *testing.T) {
	for _, events := range [][]api.Event{wrongs(), {{Name: "a", Tags: tagsOf("z", "1", "b", "2", "a", "3"), Kind: api.Gauge, Value: 1, Time: 1}}} {
		for _, e := range events {
			all := append(slices.Clone(e.Tags), tagsOf("behind", "it")...)
			before := slices.Clone(all)
			e.Tags = all[:len(e.Tags)]
			May(e)
			Print(e)
			if !slices.Equal(all, before) {
				t.Errorf("the tags are %v; they were %v", all, before)
			}
		}
	}
}

func overlap(a, b string) bool {
	if a == "" || b == "" {
		return false
	}
	from, other := uintptr(unsafe.Pointer(unsafe.StringData(a))), uintptr(unsafe.Pointer(unsafe.StringData(b)))
	return from < other+uintptr(len(b)) && other < from+uintptr(len(a))
}

// P4.3: what is told shares no memory with what was handed in.
func TestToldIsNew(t *testing.T) {
	bytes := []byte("name,key=value,other=thing h 5 100")
	s := unsafe.String(&bytes[0], len(bytes))
	e, err := Parse(s)
	if err != nil {
		t.Fatal(err)
	}
	words := []string{e.Name}
	for _, tag := range e.Tags {
		words = append(words, tag.Key, tag.Value)
	}
	for _, w := range words {
		if overlap(w, s) {
			t.Errorf("%q lies in the line", w)
		}
	}
	line, err := Print(e)
	if err != nil {
		t.Fatal(err)
	}
	for _, w := range words {
		if overlap(w, line) {
			t.Errorf("the line lies where %q does", w)
		}
	}
	clear(bytes)
	if e.Name != "name" || !slices.Equal(e.Tags, tagsOf("key", "value", "other", "thing")) || line != "name,key=value,other=thing h 5 100" {
		t.Errorf("what was told is %v, %q now", e, line)
	}
}

// P4.3 and R2: two answers share no tags, and no error's place.
func TestAnswersApart(t *testing.T) {
	const s = "a,k=v,l=w c 1 1"
	one, _ := Parse(s)
	two, _ := Parse(s)
	one.Tags[0] = api.Tag{Key: "x", Value: "y"}
	_ = append(one.Tags, api.Tag{Key: "z", Value: "z"})
	three, _ := Parse(s)
	for _, e := range []api.Event{two, three} {
		if !slices.Equal(e.Tags, tagsOf("k", "v", "l", "w")) {
			t.Errorf("another answer's tags are %v", e.Tags)
		}
	}
	_, err := Parse("A")
	err.(*api.Spot).At = 9
	wantFault(t, "A", 0)
	wantFault(t, "a", 1)
}

func someWord(r *rand.Rand) string {
	const all = "abcdefghijklmnopqrstuvwxyz0123456789_."
	b := make([]byte, 1+r.Intn(16))
	for i := range b {
		b[i] = all[r.Intn(len(all))]
	}
	return string(b)
}

func someEvent(r *rand.Rand) api.Event {
	e := api.Event{Name: someWord(r), Kind: 1 + r.Intn(3), Time: r.Int63n(api.MaxTime+1) >> r.Intn(41)}
	e.Value = int64(r.Uint64()) >> r.Intn(64)
	for range r.Intn(7) {
		e.Tags = append(e.Tags, api.Tag{Key: someWord(r), Value: someWord(r)})
	}
	return e
}

// P4.4: what was printed parses as it was, and is a line by the chapter's words.
func TestPrintedParses(t *testing.T) {
	lines := whole()
	r := rand.New(rand.NewSource(44))
	for range 20000 {
		e := someEvent(r)
		s, err := Print(e)
		if err != nil || !isLine(lines, s) {
			t.Fatalf("Print(%v) = %q, %v", e, s, err)
		}
		if back, err := Parse(s); err != nil || !sameEvent(back, e) {
			t.Fatalf("Parse(%q) = %v, %v; want %v", s, back, err, e)
		}
	}
}

// P4.4: what parses is printed as that line; no two lines are one event's.
func TestParsedPrints(t *testing.T) {
	for s := range pairs() {
		e, err := Parse(s)
		if err != nil {
			t.Errorf("Parse(%q): %v", s, err)
		}
		if back, err := Print(e); back != s || err != nil {
			t.Errorf("%q is printed as %q, %v", s, back, err)
		}
	}
}

// R2: nothing is kept: the same is answered whatever was asked between.
func TestNothingIsKept(t *testing.T) {
	for range 3 {
		for s, want := range pairs() {
			wantFault(t, "a,k=v,K", 6)
			if e, err := Parse(s); err != nil || !sameEvent(e, want) {
				t.Errorf("Parse(%q) = %v, %v", s, e, err)
			}
		}
	}
}
