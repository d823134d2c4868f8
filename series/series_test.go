package series

import (
	"math"
	"math/rand"
	"reflect"
	"regexp"
	"slices"
	"strings"
	"testing"
	"unsafe"

	"noggin/api"
)

const (
	word16 = "abcdefghij_z.019"
	word17 = word16 + "a"
	// rising6 are six tags as a key has them: the Keys' bytes rise, those of "key=value" don't.
	rising6 = ",a=6,a.=5,a0=4,a_=3,aa=2,b=1"
	// longest is a key of as many bytes as there may be.
	longest = word16 +
		",aaaaaaaaaaaaaaa0=" + word16 + ",aaaaaaaaaaaaaaa1=" + word16 + ",aaaaaaaaaaaaaaa2=" + word16 +
		",aaaaaaaaaaaaaaa3=" + word16 + ",aaaaaaaaaaaaaaa4=" + word16 + ",aaaaaaaaaaaaaaa5=" + word16
)

func tagsOf(pairs ...string) []api.Tag {
	var l []api.Tag
	for i := 0; i < len(pairs); i += 2 {
		l = append(l, api.Tag{Key: pairs[i], Value: pairs[i+1]})
	}
	return l
}

func eventOf(name string, pairs ...string) api.Event {
	return api.Event{Name: name, Tags: tagsOf(pairs...), Kind: api.Count, Value: 5, Time: 100}
}

// one is an event, its key, and its tags as they rise.
type one struct {
	event  api.Event
	key    string
	rising []api.Tag
}

// some are events that have keys, the edges among them.
func some() []one {
	wide, wideRising := widest()
	return []one{
		{eventOf("cpu", "b", "1", "a", "2"), "cpu,a=2,b=1", tagsOf("a", "2", "b", "1")},
		{eventOf("cpu", "a", "2", "b", "1"), "cpu,a=2,b=1", tagsOf("a", "2", "b", "1")},
		{eventOf("a"), "a", nil},
		{eventOf(word16), word16, nil},
		{eventOf("."), ".", nil},
		{eventOf("0"), "0", nil},
		{eventOf("_"), "_", nil},
		{eventOf("cpu", "host", "a"), "cpu,host=a", tagsOf("host", "a")},
		{eventOf("z", "z", "z"), "z,z=z", tagsOf("z", "z")},
		{eventOf("z", "y", "x", "x", "y"), "z,x=y,y=x", tagsOf("x", "y", "y", "x")},
		{eventOf("m", "a", "1", "b", "1", "c", "1"), "m,a=1,b=1,c=1", tagsOf("a", "1", "b", "1", "c", "1")},
		{eventOf("m", "c", "1", "b", "2", "a", "3"), "m,a=3,b=2,c=1", tagsOf("a", "3", "b", "2", "c", "1")},
		{eventOf("m", "b", "3", "c", "2", "a", "1"), "m,a=1,b=3,c=2", tagsOf("a", "1", "b", "3", "c", "2")},
		{eventOf("m", "k10", "1", "k9", "2", "k1", "3"), "m,k1=3,k10=1,k9=2", tagsOf("k1", "3", "k10", "1", "k9", "2")},
		{eventOf("m", "a.", "1", "a", "2"), "m,a=2,a.=1", tagsOf("a", "2", "a.", "1")},
		{eventOf("m", "a0", "1", "a", "2"), "m,a=2,a0=1", tagsOf("a", "2", "a0", "1")},
		{eventOf("m", "aa", "1", "a", "2"), "m,a=2,aa=1", tagsOf("a", "2", "aa", "1")},
		{eventOf("m", word16, "1", word16[:15], "2"), "m," + word16[:15] + "=2," + word16 + "=1", tagsOf(word16[:15], "2", word16, "1")},
		{eventOf("m", "a", "1", "_", "2", "9", "3", "0", "4", ".", "5"), "m,.=5,0=4,9=3,_=2,a=1", tagsOf(".", "5", "0", "4", "9", "3", "_", "2", "a", "1")},
		{
			eventOf("m", "b", "1", "aa", "2", "a_", "3", "a0", "4", "a.", "5", "a", "6"), "m" + rising6,
			tagsOf("a", "6", "a.", "5", "a0", "4", "a_", "3", "aa", "2", "b", "1"),
		},
		{api.Event{Name: "a", Tags: []api.Tag{}, Kind: api.Gauge}, "a", nil},
		{api.Event{Name: "a", Tags: tagsOf("c", "g", "b", "h"), Kind: api.Histo, Value: math.MinInt64, Time: api.MaxTime}, "a,b=h,c=g", tagsOf("b", "h", "c", "g")},
		{api.Event{Name: "a", Kind: api.Gauge, Value: math.MaxInt64}, "a", nil},
		{wide, longest, wideRising},
	}
}

// widest is an event of the longest key, its tags falling, and those tags rising.
func widest() (api.Event, []api.Tag) {
	var rising []api.Tag
	for _, last := range "012345" {
		rising = append(rising, api.Tag{Key: "aaaaaaaaaaaaaaa" + string(last), Value: word16})
	}
	falling := slices.Clone(rising)
	slices.Reverse(falling)
	return api.Event{Name: word16, Tags: falling, Kind: api.Histo, Value: math.MinInt64, Time: api.MaxTime}, rising
}

// wrongs are events that may not be: each is e, but for one thing.
func wrongs(e api.Event) []api.Event {
	var l []api.Event
	add := func(change func(e *api.Event)) {
		x := e
		x.Tags = slices.Clone(e.Tags)
		change(&x)
		l = append(l, x)
	}
	for _, w := range []string{"", word17, strings.Repeat("a", 300), "A", "a b", "a ", "a,b", "a=b", "-", "é", "a\x00", "\xff"} {
		add(func(e *api.Event) { e.Name = w })
		for i := range e.Tags {
			add(func(e *api.Event) { e.Tags[i].Key = w })
			add(func(e *api.Event) { e.Tags[i].Value = w })
		}
	}
	for _, k := range []int{math.MinInt, -1, 0, 4, 257, math.MaxInt} {
		add(func(e *api.Event) { e.Kind = k })
	}
	for _, at := range []int64{math.MinInt64, -1, api.MaxTime + 1, math.MaxInt64} {
		add(func(e *api.Event) { e.Time = at })
	}
	return l
}

// numbered are so many tags with Keys that rise.
func numbered(n int) []api.Tag {
	var l []api.Tag
	for i := range n {
		l = append(l, api.Tag{Key: "k" + string(rune('a'+i)), Value: "v"})
	}
	return l
}

func sameEvent(a, b api.Event) bool {
	return a.Name == b.Name && slices.Equal(a.Tags, b.Tags) && a.Kind == b.Kind && a.Value == b.Value && a.Time == b.Time
}

// wantKeyed holds that an event has that key and those tags, and is itself but for their order.
func wantKeyed(t *testing.T, x one) {
	t.Helper()
	want := x.event
	want.Tags = x.rising
	if c, err := Canon(x.event); err != nil || !sameEvent(c, want) {
		t.Errorf("Canon(%v) = %v, %v; want %v", x.event, c, err, want)
	}
	if k, err := Key(x.event); err != nil || k != x.key {
		t.Errorf("Key(%v) = %q, %v; want %q", x.event, k, err, x.key)
	}
}

// wantNoKey holds that Canon and Key tell that error itself, and nothing beside it.
func wantNoKey(t *testing.T, e api.Event, want api.Code) {
	t.Helper()
	if c, err := Canon(e); err != want || !reflect.ValueOf(c).IsZero() {
		t.Errorf("Canon(%v) = %v, %v; want %v", e, c, err, want)
	}
	if k, err := Key(e); err != want || k != "" {
		t.Errorf("Key(%v) = %q, %v; want %v", e, k, err, want)
	}
}

// wantOf holds that a key is of that name and those tags, and of no kind, value or time.
func wantOf(t *testing.T, key, name string, tags []api.Tag) {
	t.Helper()
	if e, err := Of(key); err != nil || !sameEvent(e, api.Event{Name: name, Tags: tags}) {
		t.Errorf("Of(%q) = %v, %v; want %s, %v", key, e, err, name, tags)
	}
}

// wantNone holds that a text is no series' key: ErrForm itself, and nothing beside it.
func wantNone(t *testing.T, text string) {
	t.Helper()
	if e, err := Of(text); err != api.ErrForm || !reflect.ValueOf(e).IsZero() {
		t.Errorf("Of(%q) = %v, %v; want ErrForm", text, e, err)
	}
}

// P5.1: Canon and Key, at the chapter's example, ordinary events and the edges.
func TestCanonAndKey(t *testing.T) {
	for _, x := range some() {
		wantKeyed(t, x)
	}
}

// P5.1: kind, value and time are no part of the key, and Canon leaves them as they are.
func TestKeyOfEachKind(t *testing.T) {
	for kind := api.Count; kind <= api.Histo; kind++ {
		for _, value := range []int64{math.MinInt64, -1, 0, 1, math.MaxInt64} {
			for _, time := range []int64{0, 1, api.MaxTime - 1, api.MaxTime} {
				e := api.Event{Name: "cpu", Tags: tagsOf("b", "1", "a", "2"), Kind: kind, Value: value, Time: time}
				wantKeyed(t, one{e, "cpu,a=2,b=1", tagsOf("a", "2", "b", "1")})
			}
		}
	}
}

// P5.1: no tags, and so many as may be; one more is ErrArg.
func TestHowManyTags(t *testing.T) {
	key := "m"
	for n := range api.MaxTags + 1 {
		e := api.Event{Name: "m", Tags: numbered(n), Kind: api.Count}
		if n > 0 {
			key += ",k" + string(rune('a'+n-1)) + "=v"
		}
		wantKeyed(t, one{e, key, numbered(n)})
		slices.Reverse(e.Tags)
		wantKeyed(t, one{e, key, numbered(n)})
	}
	for _, n := range []int{7, 8, 20} {
		wantNoKey(t, api.Event{Name: "m", Tags: numbered(n), Kind: api.Count}, api.ErrArg)
	}
}

// P5.1 and R3: what may not be is ErrArg itself, whatever else is amiss.
func TestMayNotBe(t *testing.T) {
	wantNoKey(t, api.Event{}, api.ErrArg)
	wantNoKey(t, api.Event{Name: "a"}, api.ErrArg)
	for _, e := range wrongs(eventOf("m", "b", "1", "a", "2")) {
		wantNoKey(t, e, api.ErrArg)
	}
	for _, e := range wrongs(eventOf("m", "k", "1", "k", "1", "k", "2")) {
		wantNoKey(t, e, api.ErrArg)
	}
	wantNoKey(t, api.Event{Name: "m", Tags: slices.Repeat(tagsOf("k", "v"), 7), Kind: api.Count}, api.ErrArg)
	wantNoKey(t, api.Event{Name: "m", Tags: tagsOf("K", "v", "K", "v"), Kind: api.Count}, api.ErrArg)
	wantNoKey(t, api.Event{Name: "m", Tags: tagsOf("", "v", "", "v"), Kind: api.Count}, api.ErrArg)
}

// P5.1 and R3: two tags of one Key are ErrTwice itself, wherever they stand and whatever they have.
func TestTwice(t *testing.T) {
	wantNoKey(t, eventOf("m", "k", "v", "k", "v"), api.ErrTwice)
	wantNoKey(t, eventOf("m", "k", "v", "k", "w"), api.ErrTwice)
	wantNoKey(t, eventOf("m", "k", "w", "k", "v"), api.ErrTwice)
	wantNoKey(t, eventOf("m", "a", "1", "k", "v", "k", "w"), api.ErrTwice)
	wantNoKey(t, eventOf("m", "k", "v", "a", "1", "k", "v"), api.ErrTwice)
	wantNoKey(t, eventOf("m", "k", "v", "z", "1", "k", "w"), api.ErrTwice)
	wantNoKey(t, eventOf("m", "k", "w", "a", "1", "z", "2", "k", "v"), api.ErrTwice)
	wantNoKey(t, eventOf("m", word16, "1", word16, "2"), api.ErrTwice)
	wantNoKey(t, api.Event{Name: "m", Tags: slices.Repeat(tagsOf("k", "v"), 6), Kind: api.Count}, api.ErrTwice)
	for i := range api.MaxTags {
		for j := range i {
			for _, value := range []string{"v", "0", "z"} {
				e := api.Event{Name: "m", Tags: numbered(6), Kind: api.Count}
				e.Tags[i] = api.Tag{Key: e.Tags[j].Key, Value: value}
				wantNoKey(t, e, api.ErrTwice)
				slices.Reverse(e.Tags)
				wantNoKey(t, e, api.ErrTwice)
			}
		}
	}
}

// P5.1: one Value with two Keys is nothing twice, nor is a Key that is another tag's Value, or the name.
func TestNotTwice(t *testing.T) {
	wantKeyed(t, one{eventOf("m", "l", "v", "k", "v"), "m,k=v,l=v", tagsOf("k", "v", "l", "v")})
	wantKeyed(t, one{eventOf("k", "v", "k", "k", "v"), "k,k=v,v=k", tagsOf("k", "v", "v", "k")})
}

// P5.2: Of, at ordinary keys and at the edges.
func TestOf(t *testing.T) {
	for _, x := range some() {
		wantOf(t, x.key, x.event.Name, x.rising)
	}
	if len(longest) != 220 {
		t.Errorf("the longest key has %d bytes", len(longest))
	}
}

// P5.2: tags that don't rise, or have a Key twice.
func TestOfNotRising(t *testing.T) {
	for _, text := range []string{
		"cpu,b=1,a=2", "a,j=1,i=2", "m,a=1,c=2,b=3", "m,b=1,a=2,c=3", "m,c=1,b=2,a=3",
		"m,a.=1,a=2", "m,a0=1,a=2", "m,aa=1,a=2", "m,a_=1,a.=2", "m,k9=1,k10=2",
		"m,k=v,k=v", "m,k=v,k=w", "m,k=w,k=v", "m,a=1,k=v,k=w", "m,k=v,k=w,z=1", "m,k=v,a=1,k=v", "m,a=1,b=1,a=1",
		"m,b=1,aa=2,a_=3,a0=4,a.=5,a=6", "m" + strings.Repeat(",k=v", 6),
	} {
		wantNone(t, text)
	}
	tags := strings.SplitAfter(rising6+",", ",")[1:7]
	for i := 1; i < len(tags); i++ {
		swapped := slices.Clone(tags)
		swapped[i-1], swapped[i] = swapped[i], swapped[i-1]
		wantNone(t, "m,"+strings.TrimSuffix(strings.Join(swapped, ""), ","))
	}
}

// P5.2: an empty text, and words that are too long, aren't there, or have what no word has.
func TestOfWords(t *testing.T) {
	for _, text := range []string{
		"", " ", ",", "=", "-", "A", "\x00", "é", "\xff", "\n", ",k=v", "=v", " a", "Aa", "aA", "a\x00", "aé", "a-b", "a=b", "a\n",
		word17, strings.Repeat("a", 220), word17 + ",k=v", "m," + word17 + "=v", "m,k=" + word17, "m,k=v," + word17 + "=v", "m,k=v,l=" + word17,
		"m,k", "m,k=", "m,=v", "m,=", "m,k,l=v", "m,k==v", "m,k=v=w", "m,K=v", "m,k=V", "m,k=v,L=w", "m,k=v,l=", "m,k=v,l", "m,k=v,=w",
		"m,k=v,", "m,", "m,,", "m,,k=v", "m,k=v,,l=w", ",m", "m,k=v;l=w", "m k=v", "m\t", "\tm",
	} {
		wantNone(t, text)
	}
	wantOf(t, word16, word16, nil)
	wantOf(t, "m,"+word16+"=v", "m", tagsOf(word16, "v"))
	wantOf(t, "m,k="+word16, "m", tagsOf("k", word16))
}

// P5.2: a key with something behind it, a line's rest above all.
func TestOfBehind(t *testing.T) {
	for _, key := range []string{"a", "cpu,host=a", "m" + rising6, longest} {
		for _, behind := range []string{
			" ", "  ", "   ", " c", " c ", " c 1", " c 1 ", " c 1 1", " c 0 0", " g -1 5", " h 1 1 ", " c 0 0 c 0 0", " c 0 0\n",
			"\n", "\x00", ",", ", ", "=", "-", "A", " " + key, "," + key, "\n" + key, ",k", ",k=",
		} {
			wantNone(t, key+behind)
		}
		wantNone(t, " "+key)
		wantNone(t, ","+key)
	}
}

// P5.2: of the longest key each word with one byte more, one tag more, and texts up to a line's length and beyond.
func TestOfLong(t *testing.T) {
	for i := range len(longest) + 1 {
		for _, b := range []string{"a", "0", "z", ",", "=", " "} {
			wantNone(t, longest[:i]+b+longest[i:])
		}
	}
	wantNone(t, longest+",b=1")
	wantNone(t, "m"+rising6+",c=0")
	for n := 221; n < 320; n++ {
		wantNone(t, longest+strings.Repeat("a", n-220))
		wantNone(t, strings.Repeat("a", n))
		wantNone(t, (longest + strings.Repeat(",z=1", 30))[:n])
	}
	wantNone(t, strings.Repeat(longest, 1000))
	wantNone(t, strings.Repeat("a", 1<<20))
	wantNone(t, "a"+strings.Repeat(" ", 1<<20))
}

// keys are texts of a key's form, but for the order of their tags.
func keys() *regexp.Regexp {
	const word = `[a-z0-9_.]{1,16}`
	return regexp.MustCompile(`\A` + word + `(,` + word + `=` + word + `){0,6}\z`)
}

// isKey tells by the chapter's words whether a text is a series' key.
func isKey(form *regexp.Regexp, text string) bool {
	if !form.MatchString(text) {
		return false
	}
	var l []string
	for _, tag := range strings.Split(text, ",")[1:] {
		l = append(l, tag[:strings.IndexByte(tag, '=')])
	}
	return slices.IsSorted(l) && len(slices.Compact(slices.Clone(l))) == len(l)
}

// holdOf holds a text against the words of the chapter.
func holdOf(t *testing.T, form *regexp.Regexp, text string) {
	t.Helper()
	if !isKey(form, text) {
		wantNone(t, text)
		return
	}
	e, err := Of(text)
	if err != nil || e.Kind != 0 || e.Value != 0 || e.Time != 0 {
		t.Errorf("Of(%q) = %v, %v", text, e, err)
	}
	wantKeyBack(t, text)
}

// P5.2 and P1: each key's beginnings, and each key with one byte dropped, doubled, changed or put in.
func TestOfBesideKeys(t *testing.T) {
	form := keys()
	for _, x := range some() {
		key := x.key
		for i := range len(key) + 1 {
			holdOf(t, form, key[:i])
			holdOf(t, form, key[i:])
			for _, b := range []string{"a", "z", "Z", "0", ".", "-", ",", "=", " ", "\x00", "\xff"} {
				holdOf(t, form, key[:i]+b+key[i:])
				if i < len(key) {
					holdOf(t, form, key[:i]+b+key[i+1:])
				}
			}
			if i < len(key) {
				holdOf(t, form, key[:i]+key[i+1:])
				holdOf(t, form, key[:i]+key[i:i+1]+key[i:])
			}
		}
	}
}

// P5.2 and P1: texts at random, of the pieces that keys have, and of any bytes.
func TestOfAtRandom(t *testing.T) {
	form := keys()
	r := rand.New(rand.NewSource(5))
	pieces := []string{"a", "b", "c1", word16, ",", ",", ",a=1", ",b=2", ",c=3", ",d=4", "=", " ", " c 0 0", "A", "\x00"}
	for range 50000 {
		text := pieces[r.Intn(4)]
		for range r.Intn(8) {
			text += pieces[r.Intn(len(pieces))]
		}
		holdOf(t, form, text)
	}
	for range 5000 {
		b := make([]byte, r.Intn(30))
		r.Read(b)
		holdOf(t, form, string(b))
	}
}

// P5.3: an event's tags stay as they are, in their order, also behind their length.
func TestTagsStay(t *testing.T) {
	events := append(wrongs(eventOf("m", "b", "1", "a", "2")), eventOf("m", "k", "2", "a", "3", "k", "1"))
	for _, x := range some() {
		events = append(events, x.event)
	}
	for _, e := range events {
		all := append(slices.Clone(e.Tags), tagsOf("behind", "it", "a", "0")...)
		before := slices.Clone(all)
		e.Tags = all[:len(e.Tags)]
		Canon(e)
		Key(e)
		if !slices.Equal(all, before) {
			t.Errorf("the tags are %v; they were %v", all, before)
		}
	}
}

func overlap(a, b string) bool {
	if a == "" || b == "" {
		return false
	}
	from, other := uintptr(unsafe.Pointer(unsafe.StringData(a))), uintptr(unsafe.Pointer(unsafe.StringData(b)))
	return from < other+uintptr(len(b)) && other < from+uintptr(len(a))
}

func wordsOf(e api.Event) []string {
	l := []string{e.Name}
	for _, tag := range e.Tags {
		l = append(l, tag.Key, tag.Value)
	}
	return l
}

// wantApart holds that none of the words lies in that text.
func wantApart(t *testing.T, words []string, text string) {
	t.Helper()
	for _, w := range words {
		if overlap(w, text) {
			t.Errorf("%q lies in %q", w, text)
		}
	}
}

// P5.3: what is told shares no memory with an event that was handed in, be its tags in order or not.
func TestToldIsNew(t *testing.T) {
	const text = "name key1 value1 key2 value2"
	for _, first := range []int{5, 17} {
		bytes := []byte(text)
		s := unsafe.String(&bytes[0], len(bytes))
		second := 22 - first
		e := api.Event{Name: s[:4], Kind: api.Gauge, Tags: []api.Tag{
			{Key: s[first : first+4], Value: s[first+5 : first+11]}, {Key: s[second : second+4], Value: s[second+5 : second+11]},
		}}
		c, err := Canon(e)
		key, wrong := Key(e)
		if err != nil || wrong != nil {
			t.Fatal(err, wrong)
		}
		wantApart(t, wordsOf(c), s)
		wantApart(t, []string{key}, s)
		wantApart(t, wordsOf(c), key)
		e.Tags[0], e.Tags[1] = api.Tag{}, api.Tag{}
		clear(bytes)
		if c.Name != "name" || !slices.Equal(c.Tags, tagsOf("key1", "value1", "key2", "value2")) || key != "name,key1=value1,key2=value2" {
			t.Errorf("what was told is %v, %q now", c, key)
		}
	}
}

// P5.3: one tag, or none, is new memory too.
func TestToldIsNewOfFewTags(t *testing.T) {
	for n := range 3 {
		bytes := []byte("name")
		e := api.Event{Name: unsafe.String(&bytes[0], 4), Tags: numbered(n), Kind: api.Count}
		c, _ := Canon(e)
		key, _ := Key(e)
		clear(bytes)
		clear(e.Tags)
		if c.Name != "name" || !slices.Equal(c.Tags, numbered(n)) || key[:4] != "name" {
			t.Errorf("what was told of %d tags is %v, %q now", n, c, key)
		}
	}
}

// P5.3: what Of tells shares no memory with the key.
func TestOfIsNew(t *testing.T) {
	for _, key := range []string{"name", "name,key1=value1", "name,key1=value1,key2=value2"} {
		bytes := []byte(key)
		s := unsafe.String(&bytes[0], len(bytes))
		e, err := Of(s)
		if err != nil {
			t.Fatal(err)
		}
		wantApart(t, wordsOf(e), s)
		before := strings.Join(wordsOf(e), " ")
		clear(bytes)
		if after := strings.Join(wordsOf(e), " "); after != before || e.Name != "name" {
			t.Errorf("what was told is %q now; it was %q", after, before)
		}
	}
}

// P5.3 and R2: two answers share no tags, and nothing is kept from one to the next.
func TestAnswersApart(t *testing.T) {
	e := eventOf("m", "b", "1", "a", "2")
	rising := tagsOf("a", "2", "b", "1")
	for range 3 {
		c, _ := Canon(e)
		d, _ := Of("m,a=2,b=1")
		wantNone(t, "m,b=1,a=2")
		wantNoKey(t, api.Event{}, api.ErrArg)
		for _, x := range []api.Event{c, d} {
			x.Tags[0] = api.Tag{Key: "x", Value: "y"}
			_ = append(x.Tags, api.Tag{Key: "z", Value: "z"})
		}
		wantKeyed(t, one{e, "m,a=2,b=1", rising})
		wantOf(t, "m,a=2,b=1", "m", rising)
	}
}

// orders calls f with each order of l, which it changes.
func orders(l []api.Tag, n int, f func()) {
	if n == len(l) {
		f()
		return
	}
	for i := n; i < len(l); i++ {
		l[n], l[i] = l[i], l[n]
		orders(l, n+1, f)
		l[n], l[i] = l[i], l[n]
	}
}

// P5.4: the order of tags makes no difference to the key: each order of up to six tags.
func TestEachOrder(t *testing.T) {
	all := tagsOf("a", "6", "a.", "5", "a0", "4", "a_", "3", "aa", "2", "b", "1")
	key := "m"
	for n := range len(all) + 1 {
		if n > 0 {
			key += "," + all[n-1].Key + "=" + all[n-1].Value
		}
		e := api.Event{Name: "m", Tags: slices.Clone(all[:n]), Kind: api.Histo, Value: -1, Time: 7}
		orders(e.Tags, 0, func() { wantKeyed(t, one{e, key, all[:n]}) })
	}
}

// wantKeyBack holds that the key of what a key is of is it. What Of tells has no Kind, so that it
// may not be, and has a key only with one.
func wantKeyBack(t *testing.T, key string) {
	t.Helper()
	e, err := Of(key)
	if err != nil {
		t.Errorf("Of(%q): %v", key, err)
		return
	}
	for e.Kind = api.Count; e.Kind <= api.Histo; e.Kind++ {
		if back, err := Key(e); err != nil || back != key {
			t.Errorf("the key of what %q is of is %q, %v", key, back, err)
		}
		if c, err := Canon(e); err != nil || !sameEvent(c, e) {
			t.Errorf("what %q is of isn't canonical: %v, %v", key, c, err)
		}
	}
}

// P5.4: the key of what a key is of is it.
func TestKeyOfOf(t *testing.T) {
	for _, x := range some() {
		wantKeyBack(t, x.key)
	}
}

// P5.1: what Of tells has Kind 0, so that it may not be till it is given one.
func TestKeyWithoutKind(t *testing.T) {
	e, err := Of("m,a=2,b=1")
	if err != nil {
		t.Fatal(err)
	}
	wantNoKey(t, e, api.ErrArg)
}

// P5.4: events at random: their keys are of them, and what is canonical stays so.
func TestKeysAtRandom(t *testing.T) {
	form := keys()
	r := rand.New(rand.NewSource(55))
	for range 20000 {
		e := someEvent(r)
		key, err := Key(e)
		if hasTwice(e.Tags) {
			wantNoKey(t, e, api.ErrTwice)
			continue
		}
		c, wrong := Canon(e)
		if err != nil || wrong != nil || !isKey(form, key) || len(c.Tags) != len(e.Tags) {
			t.Fatalf("Key(%v) = %q, %v, %v", e, key, err, wrong)
		}
		wantKeyed(t, one{e, key, c.Tags})
		wantKeyed(t, one{c, key, c.Tags})
		wantOf(t, key, e.Name, c.Tags)
		wantKeyBack(t, key)
		for _, tag := range e.Tags {
			if !slices.Contains(c.Tags, tag) {
				t.Fatalf("Canon(%v) lacks %v", e, tag)
			}
		}
	}
}

func hasTwice(tags []api.Tag) bool {
	seen := map[string]int{}
	for _, tag := range tags {
		seen[tag.Key]++
	}
	return len(seen) < len(tags)
}

func someWord(r *rand.Rand) string {
	const all = "ab.0_"
	b := make([]byte, 1+r.Intn(3))
	for i := range b {
		b[i] = all[r.Intn(len(all))]
	}
	return string(b)
}

// someEvent is one that may be, with Keys so short that some are there twice.
func someEvent(r *rand.Rand) api.Event {
	e := api.Event{Name: someWord(r), Kind: 1 + r.Intn(3), Value: int64(r.Uint64()), Time: r.Int63n(api.MaxTime + 1)}
	for range r.Intn(7) {
		e.Tags = append(e.Tags, api.Tag{Key: someWord(r), Value: someWord(r)})
	}
	return e
}
