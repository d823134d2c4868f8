package rule

import (
	"math"
	"math/rand"
	"slices"
	"strconv"
	"strings"
	"testing"

	"noggin/api"
	"noggin/series"
)

// The chapter's greatest numbers of rules, of a Prefix's bytes, and of classes.
const (
	mostRules   = 10
	mostBytes   = 300
	mostClasses = 4
)

// mayByWords tells whether rules may be, by the chapter's words: what is amiss is counted.
func mayByWords(l []api.Rule, classes int) bool {
	amiss := max(0, len(l)-mostRules)
	switch classes {
	case 1, 2, 3, 4:
	default:
		amiss++
	}
	for _, r := range l {
		if !(0 <= r.Class && r.Class < classes) || !(len(r.Prefix) <= mostBytes) {
			amiss++
		}
	}
	return amiss == 0
}

// begins tells whether a key begins with a prefix, byte by byte.
func begins(key, prefix string) bool {
	for i := range len(prefix) {
		if i == len(key) || key[i] != prefix[i] {
			return false
		}
	}
	return true
}

// classByWords is a key's class by the chapter's words: from the last rule on, so that the first one stands in the end.
func classByWords(l []api.Rule, classes int, key string) (int, error) {
	if !mayByWords(l, classes) {
		return 0, api.ErrArg
	}
	class := classes - 1
	for i := len(l) - 1; i >= 0; i-- {
		if begins(key, l[i].Prefix) {
			class = l[i].Class
		}
	}
	return class, nil
}

// keyed is an event that may be, and its key.
type keyed struct {
	event api.Event
	key   string
}

// tagsOf are tags written as in a key, "b=1", in that order.
func tagsOf(pairs ...string) []api.Tag {
	var l []api.Tag
	for _, p := range pairs {
		key, value, _ := strings.Cut(p, "=")
		l = append(l, api.Tag{Key: key, Value: value})
	}
	return l
}

// eventOf is an event with tags written as in a key, in that order.
func eventOf(name string, pairs ...string) api.Event {
	return api.Event{Name: name, Tags: tagsOf(pairs...), Kind: api.Count, Value: 5, Time: 100}
}

// rulesOf are rules written as "cpu 0": the Prefix ahead of the last space, the Class behind it.
func rulesOf(texts ...string) []api.Rule {
	var l []api.Rule
	for _, s := range texts {
		space := strings.LastIndex(s, " ")
		class, err := strconv.Atoi(s[space+1:])
		if err != nil {
			panic(s)
		}
		l = append(l, api.Rule{Prefix: s[:space], Class: class})
	}
	return l
}

func text(l []api.Rule, classes int) string {
	s := "rules"
	for _, r := range l {
		prefix := r.Prefix
		if len(prefix) > 40 {
			prefix = prefix[:40] + ".. of " + strconv.Itoa(len(r.Prefix)) + " bytes"
		}
		s += " " + strconv.Quote(prefix) + ": " + strconv.Itoa(r.Class) + ","
	}
	return s + " of " + strconv.Itoa(classes) + " classes"
}

func eventText(e api.Event) string {
	s := strconv.Quote(e.Name)
	for _, tag := range e.Tags {
		s += "," + strconv.Quote(tag.Key) + "=" + strconv.Quote(tag.Value)
	}
	return s + " of kind " + strconv.Itoa(e.Kind) + " at " + strconv.FormatInt(e.Time, 10)
}

// edges are numbers at the ends of those there are, and at the ends of classes that may be.
func edges() []int {
	return []int{math.MinInt, math.MinInt + 1, math.MinInt32, -256, -5, -4, -2, -1, 0, 1, 2, 3, 4, 5, 6, 9, 10, 11,
		256, 257, math.MaxInt32, math.MaxInt - 1, math.MaxInt}
}

// wantStay tells, behind a call, whether the rules are as they were, with those that lie behind them in memory.
func wantStay(t *testing.T, call string, l, was []api.Rule) {
	t.Helper()
	if !slices.Equal(l[:cap(l)], was) {
		t.Errorf("%s changed %s to %s", call, text(was, 0), text(l[:cap(l)], 0))
	}
}

// wantMay holds whether rules may be, which asking doesn't change.
func wantMay(t *testing.T, l []api.Rule, classes int, want bool) {
	t.Helper()
	was := slices.Clone(l[:cap(l)])
	for range 2 {
		if may := May(l, classes); may != want {
			t.Errorf("May of %s = %v", text(l, classes), may)
		}
		wantStay(t, "May", l, was)
	}
}

// wantTold holds what Class tells of a key, which asking doesn't change.
func wantTold(t *testing.T, l []api.Rule, classes int, key string, want int, wantErr error) {
	t.Helper()
	was := slices.Clone(l[:cap(l)])
	for range 2 {
		if class, err := Class(l, classes, key); class != want || err != wantErr {
			t.Errorf("%s: Class of %.60q = %d, %v, want %d, %v", text(l, classes), key, class, err, want, wantErr)
		}
		wantStay(t, "Class", l, was)
	}
}

// wantClass holds the class of a key.
func wantClass(t *testing.T, l []api.Rule, classes int, key string, want int) {
	t.Helper()
	wantTold(t, l, classes, key, want, nil)
}

// wantOfTold holds what Of tells of an event, which asking doesn't change.
func wantOfTold(t *testing.T, l []api.Rule, classes int, e api.Event, want int, wantErr error) {
	t.Helper()
	was, tags := slices.Clone(l[:cap(l)]), slices.Clone(e.Tags[:cap(e.Tags)])
	for range 2 {
		if class, err := Of(l, classes, e); class != want || err != wantErr {
			t.Errorf("%s: Of %s = %d, %v, want %d, %v", text(l, classes), eventText(e), class, err, want, wantErr)
		}
		wantStay(t, "Of", l, was)
		if !slices.Equal(e.Tags[:cap(e.Tags)], tags) {
			t.Errorf("Of changed tags %q to %q", tags, e.Tags[:cap(e.Tags)])
		}
	}
}

// wantByWords holds that rules, and the class of a key, are what the chapter's words tell.
func wantByWords(t *testing.T, l []api.Rule, classes int, key string) {
	t.Helper()
	want, wantErr := classByWords(l, classes, key)
	if may := May(l, classes); may != (wantErr == nil) {
		t.Fatalf("May of %s = %v", text(l, classes), may)
	}
	if class, err := Class(l, classes, key); class != want || err != wantErr {
		t.Fatalf("%s: Class of %q = %d, %v, want %d, %v", text(l, classes), key, class, err, want, wantErr)
	}
}

// good are so many rules that may be, of any number of classes.
func good(many int) []api.Rule {
	l := []api.Rule{}
	for i := range many {
		l = append(l, api.Rule{Prefix: "p" + strconv.Itoa(i)})
	}
	return l
}

// with is a copy of rules of which the one at a place is another.
func with(l []api.Rule, place int, r api.Rule) []api.Rule {
	l = slices.Clone(l)
	l[place] = r
	return l
}

// faults are rules that may not be, of so many classes.
func faults(classes int) []api.Rule {
	l := []api.Rule{}
	for _, class := range []int{math.MinInt, math.MinInt + 1, -256, -1, classes, classes + 1, 256, math.MaxInt} {
		l = append(l, api.Rule{Prefix: "cpu", Class: class}, api.Rule{Class: class})
	}
	for _, bytes := range []int{301, 302, 512, 600, 1 << 16, 1<<16 + 1} {
		l = append(l, api.Rule{Prefix: strings.Repeat("a", bytes)})
	}
	l = append(l, api.Rule{Prefix: strings.Repeat("é", 151)})
	return append(l, api.Rule{Prefix: strings.Repeat("a", 301), Class: classes})
}

// asked are rules, and of how many classes they are.
type asked struct {
	rules   []api.Rule
	classes int
}

// wrongRules are rules that may not be: by how many they are, by how many classes there are, and by a fault in the
// first one, in the last one, and between.
func wrongRules() []asked {
	l := []asked{{good(11), 1}, {good(11), 4}, {good(12), 2}, {good(300), 3}, {good(11), 0}, {good(11), 5}}
	for _, classes := range edges() {
		if classes < 1 || classes > mostClasses {
			l = append(l, asked{nil, classes}, asked{[]api.Rule{}, classes}, asked{good(1), classes})
			l = append(l, asked{good(10), classes}, asked{rulesOf(" 0", "cpu 0"), classes})
			l = append(l, asked{rulesOf("cpu 3", " -1"), classes})
		}
	}
	for classes := 1; classes <= mostClasses; classes++ {
		for _, fault := range faults(classes) {
			for _, many := range []int{1, 2, 3, 10} {
				for place := range many {
					l = append(l, asked{with(good(many), place, fault), classes})
				}
			}
			// Here the class of each key is told by the rule ahead of the fault, or of the fault.
			l = append(l, asked{append(rulesOf(" 0"), fault), classes})
			l = append(l, asked{append([]api.Rule{fault}, rulesOf(" 0")...), classes})
		}
	}
	return l
}

// someKeys are keys, and texts that are none.
func someKeys() []string {
	return []string{"", "a", "cpu", "cpu.x", "cpu,h=1", "mem", "p0", "p1", "p10", "p9,a=1", "CPU", " ", ",", "=", "\x00",
		"é", "\xff", "a\xc3", strings.Repeat("a", 299), strings.Repeat("a", 300), strings.Repeat("a", 301),
		strings.Repeat("é", 151)}
}

// P14.1: the chapter's example.
func TestExample(t *testing.T) {
	l := rulesOf("cpu 0")
	wantMay(t, l, 2, true)
	wantClass(t, l, 2, "cpu.x", 0)
	wantClass(t, l, 2, "mem", 1)
	wantOfTold(t, l, 2, eventOf("cpu.x"), 0, nil)
	wantOfTold(t, l, 2, eventOf("mem"), 1, nil)
}

// P14.1, P1: no rules, nil or empty, and so many as may be; one more, and many more.
func TestMayOfHowMany(t *testing.T) {
	for classes := 1; classes <= mostClasses; classes++ {
		wantMay(t, nil, classes, true)
		for many := range 10 {
			wantMay(t, good(many), classes, true)
		}
		wantMay(t, good(10), classes, true)
		for _, many := range []int{11, 12, 20, 256, 266, 5000} {
			wantMay(t, good(many), classes, false)
		}
		// What lies behind them in memory is not among them.
		for many := range 11 {
			wantMay(t, good(20)[:many], classes, true)
		}
		wantMay(t, good(20)[:11], classes, false)
		wantMay(t, append(good(2), api.Rule{Class: -1})[:2], classes, true)
	}
}

// P14.1: a Prefix of no bytes, and of so many as may be; one more, and many more: in each place.
func TestMayOfPrefix(t *testing.T) {
	for _, x := range []struct {
		prefix string
		want   bool
	}{
		{"", true}, {"a", true}, {"cpu,h=1", true}, {strings.Repeat("a", 16), true}, {strings.Repeat("a", 256), true},
		{strings.Repeat("a", 299), true}, {strings.Repeat("a", 300), true}, {strings.Repeat("a", 301), false},
		{strings.Repeat("a", 302), false}, {strings.Repeat("a", 512), false}, {strings.Repeat("a", 1<<16), false},
		{strings.Repeat("a", 1<<20+1), false},
		// Bytes are counted, not letters, and they may be any.
		{strings.Repeat("é", 150), true}, {strings.Repeat("é", 150) + "a", false}, {strings.Repeat("é", 151), false},
		{strings.Repeat("\u20ac", 100), true}, {strings.Repeat("\u20ac", 101), false}, {strings.Repeat("\xff", 300), true},
		{strings.Repeat("\xff", 301), false}, {strings.Repeat("\x00", 300), true}, {strings.Repeat("\x00", 301), false},
		{" ", true}, {"A-Z", true}, {"\n", true}, {"\xc3", true}, {"a b c 5 100", true},
	} {
		for many := 1; many <= mostRules; many++ {
			for place := range many {
				wantMay(t, with(good(many), place, api.Rule{Prefix: x.prefix}), 1+many%4, x.want)
			}
		}
	}
	// All of them as long as they may be.
	wantMay(t, slices.Repeat([]api.Rule{{Prefix: strings.Repeat("a", 300), Class: 3}}, 10), 4, true)
}

// P14.1, P1: each Class from 0 on, below how many classes there are, and no other: in each place.
func TestMayOfClass(t *testing.T) {
	for classes := 1; classes <= mostClasses; classes++ {
		for _, class := range append(edges(), classes-1, classes, classes+1) {
			want := slices.Contains([]int{0, 1, 2, 3}[:classes], class)
			for many := 1; many <= mostRules; many++ {
				for place := range many {
					wantMay(t, with(good(many), place, api.Rule{Prefix: "cpu", Class: class}), classes, want)
					wantMay(t, with(good(many), place, api.Rule{Class: class}), classes, want)
				}
			}
		}
	}
	wantMay(t, rulesOf("a 3", "b 2", "c 1", "d 0", "e 3"), 4, true)
	wantMay(t, rulesOf("a 3", "b 2", "c 1", "d 0", "e 3"), 3, false)
	wantMay(t, rulesOf("a 0", "b 1", "c 2", "d 1"), 3, true)
	wantMay(t, rulesOf("a 0", "b 1", "c 2", "d 1"), 2, false)
}

// P14.1, P1: 1 to 4 classes, and no other number of them, with rules and with none.
func TestMayOfClasses(t *testing.T) {
	for _, classes := range edges() {
		want := classes == 1 || classes == 2 || classes == 3 || classes == 4
		wantMay(t, nil, classes, want)
		for many := range 11 {
			wantMay(t, good(many), classes, want)
		}
		wantMay(t, good(11), classes, false)
		for _, class := range edges() {
			r := api.Rule{Prefix: "cpu", Class: class}
			wantMay(t, []api.Rule{r}, classes, want && class >= 0 && class < classes)
		}
	}
}

// P14.1: a fault in any place, alone or with others, whatever the rules ahead of it and behind it.
func TestMayOfFaults(t *testing.T) {
	for classes := 1; classes <= mostClasses; classes++ {
		all := faults(classes)
		for many := 1; many <= mostRules; many++ {
			for i, fault := range all {
				for place := range many {
					one := with(good(many), place, fault)
					wantMay(t, one, classes, false)
					wantMay(t, with(one, (place+i)%many, all[(i+1)%len(all)]), classes, false)
				}
				wantMay(t, slices.Repeat([]api.Rule{fault}, many), classes, false)
			}
		}
	}
	for _, x := range wrongRules() {
		wantMay(t, x.rules, x.classes, false)
	}
}

// P14.1: rules that are alike may be, and so may those that make no difference.
func TestMayOfAlike(t *testing.T) {
	wantMay(t, make([]api.Rule, 10), 1, true)
	wantMay(t, slices.Repeat(rulesOf("cpu 1"), 10), 2, true)
	wantMay(t, rulesOf("cpu 0", "cpu 1", "cpu 2", "cpu 0"), 3, true)
	wantMay(t, rulesOf(" 0", "cpu 1", " 1"), 2, true)
	wantMay(t, rulesOf("z 0", "a 0", "m 0"), 4, true)
}

// P14.1, R3, P1: of rules that may not be each key's class is ErrArg, itself, also where a rule that may be tells it.
func TestClassOfWrongRules(t *testing.T) {
	for i, x := range wrongRules() {
		for k, key := range someKeys() {
			// Each key with some of them is enough, and each of them with some keys.
			if (i+k)%3 == 0 || i < 60 {
				wantTold(t, x.rules, x.classes, key, 0, api.ErrArg)
			}
		}
	}
	for _, key := range []string{"cpu", "cpu.x", "mem", "disk", "", "a"} {
		wantTold(t, rulesOf("cpu 0", "mem 1", "disk 2"), 2, key, 0, api.ErrArg)
		wantTold(t, rulesOf("cpu 0", "mem -1", "disk 1"), 2, key, 0, api.ErrArg)
		wantTold(t, rulesOf("cpu 4", "mem 3", "disk 1"), 4, key, 0, api.ErrArg)
		wantTold(t, append(rulesOf("cpu 1", "mem 1"), good(9)...), 4, key, 0, api.ErrArg)
	}
}

// P14.1: of no rules, nil or empty, each key is of the last class.
func TestClassOfNoRules(t *testing.T) {
	for classes := 1; classes <= mostClasses; classes++ {
		for _, key := range someKeys() {
			wantClass(t, nil, classes, key, classes-1)
			wantClass(t, []api.Rule{}, classes, key, classes-1)
			wantClass(t, rulesOf(" 0", "cpu 0")[:0], classes, key, classes-1)
		}
	}
}

// P14.1: a key that begins with no Prefix is of the last class, be there a rule of that class or not.
func TestClassOfNone(t *testing.T) {
	for classes := 1; classes <= mostClasses; classes++ {
		for class := range classes {
			l := []api.Rule{{Prefix: "cpu", Class: class}, {Prefix: "mem.", Class: 0}, {Prefix: "a,h=1", Class: class / 2}}
			for _, key := range []string{"", "c", "cp", "Cpu", "CPU", "cpU", "xcpu", ",cpu", " cpu", "pu", "u", "mem", "mem,",
				"em.", "mem_", "a", "a,", "a,h", "a,h=", "a,h=2", "a,g=1", "a,h=\x001", "disk", "disk,cpu=cpu", "\x00cpu",
				"c\x00pu", "\xff"} {
				wantClass(t, l, classes, key, classes-1)
			}
		}
	}
}

// P14.1: of one rule, of each class there is: the keys that begin with its Prefix are of its class.
func TestClassOfOne(t *testing.T) {
	for classes := 1; classes <= mostClasses; classes++ {
		for class := range classes {
			for _, key := range []string{"cpu", "cpu.x", "cpu,h=1", "cpu0", "cpu ", "cpucpu", "cpu\x00", "cpu\xff", "cpué",
				"cpu" + strings.Repeat("a", 1<<20)} {
				wantClass(t, []api.Rule{{Prefix: "cpu", Class: class}}, classes, key, class)
				wantClass(t, []api.Rule{{Prefix: "c", Class: class}}, classes, key, class)
			}
			for _, key := range append(someKeys(), strings.Repeat("x", 1<<20)) {
				wantClass(t, []api.Rule{{Prefix: "", Class: class}}, classes, key, class)
				if key != "" && len(key) <= mostBytes {
					wantClass(t, []api.Rule{{Prefix: key, Class: class}}, classes, key, class)
					wantClass(t, []api.Rule{{Prefix: key[:1], Class: class}}, classes, key, class)
				}
			}
		}
	}
}

// P14.1: of several Prefixes with which a key begins the first one's rule tells, be it the shorter or the longer one.
func TestClassOfSeveral(t *testing.T) {
	for _, x := range []struct {
		rules string
		key   string
		want  int
	}{
		{"cpu 0;cpu.x 1", "cpu.x", 0}, {"cpu.x 1;cpu 0", "cpu.x", 1}, {"cpu.x 1;cpu 0", "cpu.y", 0},
		{"cpu.x 1;cpu 0", "cpu", 0}, {"cpu 1;cpu 0", "cpu", 1}, {"cpu 0;cpu 1", "cpu", 0}, {"cpu 2;cpu 2", "cpu.x", 2},
		{"cpu 0;cpu 1;cpu 2", "cpu", 0}, {" 1;cpu 0", "cpu", 1}, {"cpu 0; 1", "cpu", 0}, {"cpu 0; 1", "mem", 1},
		{"cpu 0; 1;mem 2", "mem", 1}, {" 0; 1; 2", "mem", 0}, {"mem 0;cpu 1", "cpu", 1}, {"mem 0;cpu 1", "mem", 0},
		{"mem 0;cpu 1;c 2", "cpu", 1}, {"mem 0;c 2;cpu 1", "cpu", 2}, {"a 0;ab 1;abc 2", "abc", 0},
		{"abc 2;ab 1;a 0", "abc", 2}, {"abc 2;ab 1;a 0", "abd", 1}, {"abc 2;ab 1;a 0", "ac", 0},
		{"abc 2;ab 1;a 0", "b", 3}, {"ab 1;abc 2;a 0", "abc", 1}, {"ab 1;abc 2;a 0", "acb", 0}, {"b 2;ab 1;b 0", "b", 2},
		{"cpu,h=1 2;cpu 0;mem 1", "cpu,h=1", 2}, {"cpu,h=1 2;cpu 0;mem 1", "cpu,h=2", 0},
		{"cpu,h=1 2;cpu 0;mem 1", "cpu,h=12", 2}, {"cpu,h=1 2;cpu 0;mem 1", "cpu,h=1,i=1", 2},
		{"cpu,h=1 2;cpu 0;mem 1", "cpu,g=1,h=1", 0}, {"cpu,h=1 2;cpu 0;mem 1", "mem.x", 1},
		{"cpu,h=1 2;cpu 0;mem 1", "me", 3},
	} {
		wantClass(t, rulesOf(strings.Split(x.rules, ";")...), 4, x.key, x.want)
	}
}

// eachOrder asks with each order of rules.
func eachOrder(l []api.Rule, ask func(l []api.Rule)) {
	if len(l) == 0 {
		ask(nil)
		return
	}
	for i, last := range l {
		others := slices.Delete(slices.Clone(l), i, i+1)
		eachOrder(others, func(ahead []api.Rule) { ask(append(slices.Clip(ahead), last)) })
	}
}

// P14.1: each order of rules whose Prefixes are beginnings of one key: the class is that of the first one.
func TestClassOfEachOrder(t *testing.T) {
	orders := 0
	eachOrder(rulesOf(" 0", "c 1", "cpu 2", "cpu.x 0", "cpu.x,h=1 1"), func(l []api.Rule) {
		orders++
		wantClass(t, l, 4, "cpu.x,h=1", l[0].Class)
		wantClass(t, l, 4, "cpu.x,h=1,i=1", l[0].Class)
		for _, key := range []string{"", "c", "cp", "cpu", "cpu.y", "cpu.x", "cpu.x,h=", "cpu.x,h=2", "mem"} {
			first := slices.IndexFunc(l, func(r api.Rule) bool { return begins(key, r.Prefix) })
			wantClass(t, l, 4, key, l[first].Class)
		}
	})
	if orders != 120 {
		t.Errorf("%d orders of 5 rules", orders)
	}
}

// P14.1: ten rules, of which one alone is the key's, in each place; and the first one of those that are.
func TestClassOfEachPlace(t *testing.T) {
	for place := range mostRules {
		l := with(good(10), place, api.Rule{Prefix: "cpu", Class: 1})
		wantClass(t, l, 4, "cpu", 1)
		wantClass(t, l, 4, "mem", 3)
		wantClass(t, l, 4, "p"+strconv.Itoa((place+1)%10), 0)
		wantClass(t, l, 4, "p"+strconv.Itoa(place), 3)
		for behind := place + 1; behind < mostRules; behind++ {
			wantClass(t, with(l, behind, api.Rule{Prefix: "cpu", Class: 2}), 4, "cpu", 1)
			wantClass(t, with(l, behind, api.Rule{Prefix: "c", Class: 2}), 4, "cpu", 1)
			wantClass(t, with(l, behind, api.Rule{Prefix: "c", Class: 2}), 4, "cp", 2)
		}
	}
}

// P14.1: a Prefix that is the whole key, one that is longer, and one that differs in one byte alone, in each place.
func TestClassOfBytes(t *testing.T) {
	for _, key := range []string{"a", "cpu", "cpu.x,h=1", strings.Repeat("a", 299), strings.Repeat("ab", 150), "é",
		"\x00\x00", "a\xff\xfe", "\xc3\x28", "", "a b\tc\n"} {
		wantClass(t, []api.Rule{{Prefix: key, Class: 1}}, 4, key, 1)
		for _, behind := range []string{"a", "0", ".", ",", "=", " ", "\x00", "\xff", "é", key + "x"} {
			if longer := key + behind; len(longer) <= mostBytes {
				wantClass(t, []api.Rule{{Prefix: longer, Class: 1}}, 4, key, 3)
				wantClass(t, []api.Rule{{Prefix: longer}, {Prefix: key, Class: 1}}, 4, key, 1)
			}
			wantClass(t, []api.Rule{{Prefix: key, Class: 1}}, 4, key+behind, 1)
		}
		for i := range len(key) {
			for _, bit := range []byte{1, 32, 128} {
				other := []byte(key)
				other[i] ^= bit
				wantClass(t, []api.Rule{{Prefix: string(other), Class: 1}}, 4, key, 3)
				wantClass(t, []api.Rule{{Prefix: string(other), Class: 1}, {Prefix: key, Class: 2}}, 4, key, 2)
			}
			wantClass(t, []api.Rule{{Prefix: key[:i], Class: 1}}, 4, key, 1)
		}
	}
}

// P14.1: a key of no bytes begins with a Prefix of no bytes, and with no other.
func TestClassOfNoBytes(t *testing.T) {
	for _, prefix := range []string{"a", ".", ",", " ", "\x00", "\xff", "cpu", strings.Repeat("a", 300)} {
		wantClass(t, []api.Rule{{Prefix: prefix, Class: 0}}, 3, "", 2)
		wantClass(t, []api.Rule{{Prefix: prefix, Class: 0}, {Class: 1}}, 3, "", 1)
		wantClass(t, []api.Rule{{Class: 1}, {Prefix: prefix, Class: 0}}, 3, "", 1)
	}
	wantClass(t, rulesOf(" 0"), 3, "", 0)
	wantClass(t, make([]api.Rule, 10), 4, "", 0)
}

// P14.1: Prefixes and keys of bytes that are no text are held against each other by their bytes.
func TestClassOfNoText(t *testing.T) {
	// The first byte of two that are a letter is a beginning; two bytes that are no letter aren't alike.
	for _, x := range []struct {
		prefix, key string
		want        int
	}{
		{"\xc3", "é", 0}, {"\xc3\xa9", "é", 0}, {"\xc3", "\xc3", 0}, {"\xc3", "\xc4", 3}, {"\xff", "\xfe", 3},
		{"\xff", "\xff\xfe", 0}, {"\xff", "\ufffd", 3}, {"\ufffd", "\xff", 3}, {"\xef", "\ufffd", 0},
		{"\xff\xff", "\xff\xfe", 3}, {"a\xff", "a\xfe", 3}, {"e\u0301", "é", 3}, {"é", "e\u0301", 3}, {"\x00", "\x00a", 0},
		{"\x00", "a", 3}, {"a\x00", "a", 3}, {"a", "a\x00", 0}, {"K", "k", 3}, {"k", "\u212a", 3}, {"a", "A", 3},
		{"\xed\xa0\x80", "\xed\xa0\x80z", 0}, {"\xed\xa0", "\xed\xa0\x81", 0},
	} {
		l := []api.Rule{{Prefix: "zz", Class: 1}, {Prefix: x.prefix, Class: 0}, {Prefix: "yy", Class: 2}}
		wantClass(t, l[1:2], 4, x.key, x.want)
		wantClass(t, l, 4, x.key, x.want)
	}
}

// P14.1: a Prefix of as many bytes as may be, and keys about as long, and far longer.
func TestClassOfLong(t *testing.T) {
	long := strings.Repeat("a", 300)
	l := []api.Rule{{Prefix: long, Class: 0}, {Prefix: long[:299] + "b", Class: 1}}
	for _, x := range []struct {
		key  string
		want int
	}{
		{long[:298], 3}, {long[:299], 3}, {long, 0}, {long + "a", 0}, {long + "b", 0}, {strings.Repeat(long, 4000), 0},
		{long[:299] + "b", 1}, {long[:299] + "b" + long, 1}, {long[:299] + "c", 3}, {long[:298] + "ba", 3}, {"b" + long, 3},
		{strings.Repeat("b", 1<<20), 3},
	} {
		wantClass(t, l, 4, x.key, x.want)
	}
}

// someEvents are events that may be, with their keys, the edges among them.
func someEvents() []keyed {
	const word16 = "abcdefghij_z.019"
	wide, key := eventOf(word16), word16
	for _, last := range "012345" {
		tag := api.Tag{Key: "aaaaaaaaaaaaaaa" + string(last), Value: word16}
		wide.Tags = append([]api.Tag{tag}, wide.Tags...)
		key += "," + tag.Key + "=" + tag.Value
	}
	return []keyed{
		{eventOf("a"), "a"}, {eventOf("cpu"), "cpu"}, {eventOf("."), "."}, {eventOf("cpu.x"), "cpu.x"},
		{eventOf(word16), word16}, {eventOf("cpu", "h=1"), "cpu,h=1"}, {eventOf("cpu", "b=1", "a=2"), "cpu,a=2,b=1"},
		{eventOf("cpu", "a=2", "b=1"), "cpu,a=2,b=1"}, {eventOf("cpu", "i=1", "h=1"), "cpu,h=1,i=1"},
		{eventOf("m", "c=1", "b=2", "a=3"), "m,a=3,b=2,c=1"}, {eventOf("m", "b=3", "c=2", "a=1"), "m,a=1,b=3,c=2"},
		// By Keys alone: "a.=1" as a text is ahead of "a=2".
		{eventOf("m", "a.=1", "a=2"), "m,a=2,a.=1"}, {eventOf("m", "k9=2", "k10=1", "k1=3"), "m,k1=3,k10=1,k9=2"},
		{api.Event{Name: "a", Tags: []api.Tag{}, Kind: api.Gauge}, "a"},
		{api.Event{Name: "a", Tags: tagsOf("c=g", "b=h"), Kind: api.Histo, Value: -1, Time: api.MaxTime}, "a,b=h,c=g"},
		{wide, key},
	}
}

// P14.1: the class of an event's key, also where a Prefix reaches into its tags.
func TestOf(t *testing.T) {
	l := rulesOf("cpu,h=1 2", "cpu,a=2,b 1", "m,a=1 2", "m,a=2,a. 0", "cpu 0", "m 1")
	for _, x := range []struct {
		event api.Event
		want  int
	}{
		{eventOf("cpu"), 0}, {eventOf("cpu.x"), 0}, {eventOf("m"), 1}, {eventOf("mem"), 1}, {eventOf("a"), 3},
		{eventOf("a", "cpu=cpu"), 3}, {eventOf("cpu", "h=1"), 2}, {eventOf("cpu", "h=12"), 2}, {eventOf("cpu", "h=2"), 0},
		{eventOf("cpu", "h1=1"), 0}, {eventOf("cpu", "i=1", "h=1"), 2}, {eventOf("cpu", "h=1", "i=1"), 2},
		{eventOf("cpu", "h=1", "g=1"), 0}, {eventOf("cp", "h=1"), 3}, {eventOf("cpu.h"), 0}, {eventOf("cpu.h", "h=1"), 0},
		{eventOf("cpu", "b=1", "a=2"), 1}, {eventOf("cpu", "a=2", "b=7"), 1}, {eventOf("cpu", "a=2"), 0},
		{eventOf("cpu", "a=2", "c=1"), 0}, {eventOf("cpu", "bb=1", "a=2"), 1}, {eventOf("cpu", "b=1", "aa=1", "a=2"), 0},
		{eventOf("m", "a.=1", "a=2"), 0}, {eventOf("m", "a.=1", "a=1"), 2}, {eventOf("m", "a=3", "a.=1"), 1},
		{eventOf("m", "z=1", "a=1"), 2}, {eventOf("m", "z=1", "0=1", "a=1"), 1},
	} {
		wantOfTold(t, l, 4, x.event, x.want, nil)
	}
}

// P14.1: of each event, and of each beginning of its key, and of what is no beginning of it.
func TestOfEachBeginning(t *testing.T) {
	for _, x := range someEvents() {
		for i := range len(x.key) + 1 {
			wantOfTold(t, []api.Rule{{Prefix: x.key[:i], Class: 1}}, 4, x.event, 1, nil)
			wantOfTold(t, []api.Rule{{Prefix: x.key[:i] + "-", Class: 1}, {Prefix: x.key[:i], Class: 0}}, 4, x.event, 0, nil)
		}
		// Behind the key nothing of its line stands.
		for _, behind := range []string{" ", " c", " c 5 100", ",", "=", "\x00", "a"} {
			wantOfTold(t, []api.Rule{{Prefix: x.key + behind, Class: 1}}, 4, x.event, 3, nil)
		}
		for classes := 1; classes <= mostClasses; classes++ {
			wantOfTold(t, nil, classes, x.event, classes-1, nil)
			wantOfTold(t, []api.Rule{}, classes, x.event, classes-1, nil)
			wantOfTold(t, rulesOf(" 0"), classes, x.event, 0, nil)
			wantOfTold(t, good(10), classes, x.event, classes-1, nil)
		}
	}
}

// P14.1: whatever the order of an event's tags.
func TestOfEachOrderOfTags(t *testing.T) {
	tags := tagsOf("a=2", "a.=1", "b=1", "h=1", "z=9")
	key, orders := "cpu,a=2,a.=1,b=1,h=1,z=9", 0
	var each func(ahead, left []api.Tag)
	each = func(ahead, left []api.Tag) {
		if len(left) == 0 {
			orders++
			e := api.Event{Name: "cpu", Tags: slices.Clone(ahead), Kind: api.Gauge}
			for i := range len(key) {
				l := []api.Rule{{Prefix: key[:i] + "!"}, {Prefix: key[:i+1], Class: 1}, {Class: 2}}
				if class, err := Of(l, 4, e); class != 1 || err != nil {
					t.Fatalf("%s: Of %s = %d, %v", text(l, 4), eventText(e), class, err)
				}
			}
			wantOfTold(t, rulesOf("cpu,a.=1 0", "cpu,b 0", "cpu,h 0", "cpu,z 0", key+" 1", "cpu 2"), 4, e, 1, nil)
		}
		for i, tag := range left {
			each(append(slices.Clip(ahead), tag), slices.Delete(slices.Clone(left), i, i+1))
		}
	}
	each([]api.Tag{}, tags)
	if orders != 120 {
		t.Errorf("%d orders of 5 tags", orders)
	}
}

// P14.1: kind, value and time make no difference.
func TestOfEachKind(t *testing.T) {
	l := rulesOf("cpu,h=1 1", "cpu 0")
	for kind := api.Count; kind <= api.Histo; kind++ {
		for _, value := range []int64{math.MinInt64, -1, 0, 1, math.MaxInt64} {
			for _, time := range []int64{0, 1, api.MaxTime - 1, api.MaxTime} {
				for _, x := range []struct {
					name, tag string
					want      int
				}{{"cpu", "h=1", 1}, {"cpu", "g=1", 0}, {"mem", "h=1", 2}} {
					e := api.Event{Name: x.name, Tags: tagsOf(x.tag), Kind: kind, Value: value, Time: time}
					wantOfTold(t, l, 3, e, x.want, nil)
				}
			}
		}
	}
}

// amiss is an event that has no key, and the error of that.
type amiss struct {
	event api.Event
	err   api.Code
}

// someAmiss are events that have no key, each by one thing, and some by more.
func someAmiss() []amiss {
	l := []amiss{{api.Event{}, api.ErrArg}, {api.Event{Name: "a"}, api.ErrArg}, {api.Event{Kind: api.Count}, api.ErrArg}}
	for _, w := range []string{"", "abcdefghij_z.019a", strings.Repeat("a", 300), "A", "a b", "a,b", "a=b", "-", "é",
		"a\x00", "\xff"} {
		l = append(l, amiss{eventOf(w), api.ErrArg}, amiss{eventOf(w, "k=v"), api.ErrArg})
		l = append(l, amiss{eventOf(w, "k=v", "k=v"), api.ErrArg})
		key, value := eventOf("cpu", "a=1", "b=2", "c=3"), eventOf("cpu", "a=1", "b=2", "c=3")
		for i := range 3 {
			// The faults gather: the first one, and later ones too.
			key.Tags, value.Tags = slices.Clone(key.Tags), slices.Clone(value.Tags)
			key.Tags[i].Key, value.Tags[2-i].Value = w, w
			l = append(l, amiss{key, api.ErrArg}, amiss{value, api.ErrArg})
		}
	}
	for _, kind := range []int{math.MinInt, -1, 0, 4, 257, math.MaxInt} {
		l = append(l, amiss{api.Event{Name: "cpu", Kind: kind}, api.ErrArg})
		l = append(l, amiss{api.Event{Name: "cpu", Tags: tagsOf("k=v", "k=v"), Kind: kind}, api.ErrArg})
	}
	for _, time := range []int64{math.MinInt64, -1, api.MaxTime + 1, math.MaxInt64} {
		l = append(l, amiss{api.Event{Name: "cpu", Kind: api.Count, Time: time}, api.ErrArg})
		l = append(l, amiss{api.Event{Name: "cpu", Tags: tagsOf("k=v", "k=v"), Kind: api.Histo, Time: time}, api.ErrArg})
	}
	seven := tagsOf("a=1", "b=1", "c=1", "d=1", "e=1", "f=1", "g=1")
	l = append(l, amiss{api.Event{Name: "cpu", Tags: seven, Kind: api.Count}, api.ErrArg})
	l = append(l, amiss{api.Event{Name: "cpu", Tags: slices.Repeat(seven[:1], 7), Kind: api.Count}, api.ErrArg})
	l = append(l, amiss{api.Event{Name: "cpu", Tags: slices.Repeat(seven[:1], 6), Kind: api.Count}, api.ErrTwice})
	for _, pairs := range []string{"k=v k=v", "k=v k=w", "k=w k=v", "a=1 k=v k=w", "k=v a=1 k=v", "k=v z=1 k=w",
		"k=w a=1 z=2 k=v", "f=1 e=1 d=1 c=1 b=1 f=2"} {
		l = append(l, amiss{eventOf("cpu", strings.Split(pairs, " ")...), api.ErrTwice})
	}
	return l
}

// P14.1, R3, P1: an event that has no key: what series.Key tells of it, itself, and no class, whatever the rules.
func TestOfNoKey(t *testing.T) {
	for _, x := range someAmiss() {
		if key, err := series.Key(x.event); key != "" || err != x.err {
			t.Errorf("series.Key of %s = %q, %v", eventText(x.event), key, err)
		}
		for classes := 1; classes <= mostClasses; classes++ {
			last := classes - 1
			for _, l := range [][]api.Rule{nil, {}, {{Class: last}}, {{Prefix: "cpu", Class: last}},
				{{Prefix: "a", Class: last}, {Class: 0}}, {{Prefix: "k", Class: 0}}, good(10)} {
				wantOfTold(t, l, classes, x.event, 0, x.err)
			}
		}
	}
}

// P14.1, R1, R3, P1: rules that may not be are told ahead of what is amiss with the event.
func TestOfWrongRules(t *testing.T) {
	events, none := someEvents(), someAmiss()
	for i, x := range wrongRules() {
		wantOfTold(t, x.rules, x.classes, events[i%len(events)].event, 0, api.ErrArg)
		wantOfTold(t, x.rules, x.classes, none[i%len(none)].event, 0, api.ErrArg)
		wantOfTold(t, x.rules, x.classes, eventOf("cpu", "k=v", "k=w"), 0, api.ErrArg)
		wantOfTold(t, x.rules, x.classes, eventOf("cpu"), 0, api.ErrArg)
	}
	for _, x := range none {
		wantOfTold(t, rulesOf("cpu 0", "mem 2"), 2, x.event, 0, api.ErrArg)
		wantOfTold(t, good(11), 2, x.event, 0, api.ErrArg)
		wantOfTold(t, nil, 0, x.event, 0, api.ErrArg)
		wantOfTold(t, nil, 5, x.event, 0, api.ErrArg)
	}
}

// P14.2, R2: of lists with room behind them, each call leaves the rules, and what lies there, and the event, and its
// tags, as they were, also where an error is told.
func TestHandedInStays(t *testing.T) {
	rules := append(make([]api.Rule, 0, 30), rulesOf("z 1", "cpu,h 2", "cpu 0", " 1", "a 3", "b 0")...)
	tags := append(make([]api.Tag, 0, 20), tagsOf("z=1", "h=1", "b=2", "a=3", "z=4", "h=5")...)
	ruleMemory, tagMemory := rules[:cap(rules)], tags[:cap(tags)]
	for i := len(rules); i < len(ruleMemory); i++ {
		ruleMemory[i] = api.Rule{Prefix: "behind" + strconv.Itoa(i), Class: -i}
	}
	for i := len(tags); i < len(tagMemory); i++ {
		tagMemory[i] = api.Tag{Key: "behind" + strconv.Itoa(i), Value: "-"}
	}
	wasRules, wasTags := slices.Clone(ruleMemory), slices.Clone(tagMemory)
	errors := 0
	for _, l := range [][]api.Rule{rules[:0], rules[:3], rules[2:6], rules, ruleMemory[:9], ruleMemory[:11], ruleMemory} {
		for _, some := range [][]api.Tag{tags[:0], tags[:1], tags[:4], tags[1:5], tags, tagMemory[:7], tagMemory} {
			for classes := -1; classes <= 5; classes++ {
				e := api.Event{Name: "cpu", Tags: some, Kind: api.Histo, Value: 7, Time: 8}
				May(l, classes)
				_, classErr := Class(l, classes, "cpu,h=1")
				_, ofErr := Of(l, classes, e)
				if !slices.Equal(ruleMemory, wasRules) || !slices.Equal(tagMemory, wasTags) {
					t.Fatalf("%s became %s, and the tags %q", text(l, classes), text(ruleMemory, classes), tagMemory)
				}
				if e.Name != "cpu" || e.Kind != api.Histo || e.Value != 7 || e.Time != 8 || len(e.Tags) != len(some) {
					t.Fatalf("the event became %s", eventText(e))
				}
				if classErr != nil || ofErr != nil {
					errors++
				}
			}
		}
	}
	if errors == 0 || errors == 7*7*7 {
		t.Errorf("%d errors", errors)
	}
}

// P14.2, R2: nothing is kept: what is told hangs on what is handed in by that call alone.
func TestNothingIsKept(t *testing.T) {
	l, e := rulesOf("cpu 0", "mem 1"), eventOf("cpu", "h=1")
	for range 3 {
		wantClass(t, l, 3, "cpu", 0)
		wantOfTold(t, l, 3, e, 0, nil)
		l[0].Class = 1
		wantClass(t, l, 3, "cpu", 1)
		wantOfTold(t, l, 3, e, 1, nil)
		l[0].Prefix = "disk"
		wantClass(t, l, 3, "cpu", 2)
		wantOfTold(t, l, 3, e, 2, nil)
		l[1].Prefix = "cpu,h=2"
		wantOfTold(t, l, 3, e, 2, nil)
		e.Tags[0].Value = "2"
		wantOfTold(t, l, 3, e, 1, nil)
		l[1].Class = 3
		wantMay(t, l, 3, false)
		wantTold(t, l, 3, "cpu", 0, api.ErrArg)
		wantOfTold(t, l, 3, e, 0, api.ErrArg)
		wantOfTold(t, l, 4, e, 3, nil)
		e.Tags[0].Key = "H"
		wantOfTold(t, l, 4, e, 0, api.ErrArg)
		copy(l, rulesOf("cpu 0", "mem 1"))
		e.Tags[0] = api.Tag{Key: "h", Value: "1"}
	}
}

// P14.1, P1: all rows of up to three rules of a few Prefixes and Classes, of a few classes, at all keys of a few bytes.
func TestAllRows(t *testing.T) {
	rules := []api.Rule{}
	for _, prefix := range []string{"", "a", "b", "ab", "aba"} {
		for class := -1; class <= 2; class++ {
			rules = append(rules, api.Rule{Prefix: prefix, Class: class})
		}
	}
	keys := []string{"", "a", "b", "aa", "ab", "ba", "aba", "abb", "abab"}
	ask := func(l []api.Rule) {
		for classes := range 4 {
			for _, key := range keys {
				wantByWords(t, l, classes, key)
			}
		}
	}
	ask(nil)
	for _, one := range rules {
		ask([]api.Rule{one})
		for _, two := range rules {
			ask([]api.Rule{one, two})
			for _, three := range rules {
				ask([]api.Rule{one, two, three})
			}
		}
	}
}

// chance makes rules, keys and events at random, of few letters, so that they begin with each other.
type chance struct{ *rand.Rand }

func (c chance) word(most int) string {
	b := make([]byte, 1+c.Intn(most))
	for i := range b {
		b[i] = "ab."[c.Intn(3)]
	}
	return string(b)
}

// keyed is an event at random, its tags in any order, with its key.
func (c chance) keyed() keyed {
	tags := make([]api.Tag, c.Intn(api.MaxTags+1))
	for i := range tags {
		tags[i] = api.Tag{Key: c.word(2), Value: c.word(1)}
	}
	slices.SortFunc(tags, func(a, b api.Tag) int { return strings.Compare(a.Key, b.Key) })
	tags = slices.CompactFunc(tags, func(a, b api.Tag) bool { return a.Key == b.Key })
	x := keyed{event: api.Event{Name: c.word(2), Kind: 1 + c.Intn(3), Value: c.Int63(), Time: c.Int63n(api.MaxTime)}}
	x.key = x.event.Name
	for _, tag := range tags {
		x.key += "," + tag.Key + "=" + tag.Value
	}
	c.Shuffle(len(tags), func(i, k int) { tags[i], tags[k] = tags[k], tags[i] })
	x.event.Tags = tags
	return x
}

// prefix is one at random: often a beginning of the key, or nearly one.
func (c chance) prefix(key string) string {
	p := key[:c.Intn(len(key)+1)]
	switch c.Intn(4) {
	case 0:
		return p + c.word(2)
	case 1:
		return c.word(3)
	}
	return p
}

// rules are so many at random, of so many classes, that may be.
func (c chance) rules(many, classes int, key string) []api.Rule {
	l := []api.Rule{}
	for range many {
		l = append(l, api.Rule{Prefix: c.prefix(key), Class: c.Intn(classes)})
	}
	return l
}

// P14.1, P14.2: rules, keys and events at random, of which each rule may be amiss.
func TestAtRandom(t *testing.T) {
	c, faulty, told := chance{rand.New(rand.NewSource(1))}, 0, [mostClasses]int{}
	for range 40000 {
		x, classes := c.keyed(), 1+c.Intn(mostClasses)
		l := c.rules(c.Intn(mostRules+1), classes, x.key)
		switch {
		case c.Intn(20) == 0:
			l = append(l, c.rules(11-len(l), classes, x.key)...)
		case c.Intn(20) == 0:
			classes = edges()[c.Intn(len(edges()))]
		case len(l) > 0 && c.Intn(10) == 0:
			all := faults(classes)
			l[c.Intn(len(l))] = all[c.Intn(len(all))]
		}
		wantByWords(t, l, classes, x.key)
		want, err := classByWords(l, classes, x.key)
		wantOfTold(t, l, classes, x.event, want, err)
		if err != nil {
			faulty++
		} else {
			told[want]++
		}
	}
	if faulty < 4000 || slices.Min(told[:]) < 2000 {
		t.Errorf("%d were amiss, and of each class so many: %v", faulty, told)
	}
}

// P14.3: a rule behind one whose Prefix is a beginning of its own, or its own, whichever classes both have, and
// whatever stands between them: without it each key has the class that it has with it.
func TestBehindABeginning(t *testing.T) {
	for _, x := range []struct{ ahead, behind string }{
		{"", ""}, {"", "a"}, {"a", "a"}, {"a", "ab"}, {"a", "aba"}, {"ab", "ab"}, {"ab", "abb"}, {"b", "ba"}, {"aba", "abab"},
		{"", "\xff"}, {"\xc3", "é"}, {"cpu", "cpu,h=1"},
	} {
		for row := range 4 * 4 * 4 {
			ahead, behind := api.Rule{Prefix: x.ahead, Class: row % 4}, api.Rule{Prefix: x.behind, Class: row / 4 % 4}
			between := api.Rule{Prefix: []string{"", "ab", "abab", "b"}[row/16], Class: (row + 1) % 4}
			for _, key := range append(someKeys(), "ab", "aba", "abab", "abb", "b", "ba", "bab", "cpu,h=12") {
				for _, without := range [][]api.Rule{{ahead}, {ahead, between}, {between, ahead}, {between, ahead, between}} {
					class, err := Class(without, 4, key)
					wantTold(t, append(slices.Clip(without), behind), 4, key, class, err)
				}
			}
		}
	}
}

// P14.3: at random, to any rules one more behind a beginning of it, and one with which the key doesn't begin, anywhere:
// no key's class, and no event's, is another one by that.
func TestMakesNoDifference(t *testing.T) {
	c, behinds, others := chance{rand.New(rand.NewSource(2))}, 0, 0
	for range 15000 {
		x, classes := c.keyed(), 1+c.Intn(mostClasses)
		l := c.rules(1+c.Intn(mostRules-1), classes, x.key)
		want, err := Of(l, classes, x.event)
		// One behind a beginning of it makes no difference to this key, nor to others.
		place := c.Intn(len(l))
		more := api.Rule{Prefix: l[place].Prefix, Class: c.Intn(classes)}
		if strings.HasPrefix(x.key, more.Prefix) && c.Intn(2) == 0 {
			more.Prefix = x.key[:len(more.Prefix)+c.Intn(len(x.key)-len(more.Prefix)+1)]
		} else if c.Intn(2) == 0 {
			more.Prefix += c.word(3)
		}
		behind := slices.Insert(slices.Clone(l), place+1+c.Intn(len(l)-place), more)
		wantOfTold(t, behind, classes, x.event, want, err)
		for range 4 {
			key := c.prefix(x.key)
			same, err := Class(l, classes, key)
			wantTold(t, behind, classes, key, same, err)
		}
		behinds++
		// One with which this key doesn't begin makes no difference to it.
		if !begins(x.key, more.Prefix) {
			anywhere := slices.Insert(slices.Clone(l), c.Intn(len(l)+1), more)
			wantOfTold(t, anywhere, classes, x.event, want, err)
			wantClass(t, anywhere, classes, x.key, want)
			others++
		}
	}
	if behinds < 10000 || others < 2000 {
		t.Errorf("%d behind a beginning, %d with which the key doesn't begin", behinds, others)
	}
}

// lean are the rules of which none stands behind a beginning of its own.
func lean(l []api.Rule) []api.Rule {
	left := []api.Rule{}
	for _, r := range l {
		if !slices.ContainsFunc(left, func(ahead api.Rule) bool { return begins(r.Prefix, ahead.Prefix) }) {
			left = append(left, r)
		}
	}
	return left
}

// P14.3: at random, all the rules that make no difference taken away at once, those with which the key doesn't begin
// too: of what is left the first one tells.
func TestWithoutThoseBehind(t *testing.T) {
	c, fewer := chance{rand.New(rand.NewSource(3))}, 0
	for range 15000 {
		x, classes := c.keyed(), 1+c.Intn(mostClasses)
		l := c.rules(c.Intn(mostRules+1), classes, x.key)
		want, err := Of(l, classes, x.event)
		left := lean(l)
		wantOfTold(t, left, classes, x.event, want, err)
		wantTold(t, left, classes, x.key, want, err)
		if len(left) < len(l) {
			fewer++
		}
		mine := slices.DeleteFunc(slices.Clone(l), func(r api.Rule) bool { return !begins(x.key, r.Prefix) })
		wantOfTold(t, mine, classes, x.event, want, err)
		if len(mine) > 0 && want != mine[0].Class || len(mine) == 0 && want != classes-1 {
			t.Fatalf("%s: Of %s = %d, %v", text(l, classes), eventText(x.event), want, err)
		}
	}
	if fewer < 5000 {
		t.Errorf("of %d some were taken away", fewer)
	}
}
