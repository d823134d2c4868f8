package disk

import (
	"bytes"
	"math"
	"math/rand"
	"slices"
	"strconv"
	"strings"
	"testing"
	"unsafe"

	"noggin/api"
)

// lasting is a disk, or the words' one.
type lasting interface {
	Append(part int, b []byte) error
	Sync(part int) error
	Cut(part, n int) error
	Remove(part int) error
	Read(part int) ([]byte, error)
	Parts() []int
	Used() int
	Crash(keep int)
	Up()
}

const (
	greatest = "9223372036854775807"
	least    = "-9223372036854775808"
)

// do does one deed: a call's name and what it is handed, with blanks between.
func do(d lasting, deed string) error {
	word := append(strings.Split(deed, " "), "", "")
	n, _ := strconv.Atoi(word[1])
	switch word[0] {
	case "append":
		return d.Append(n, []byte(word[2]))
	case "sync":
		return d.Sync(n)
	case "cut":
		many, _ := strconv.Atoi(word[2])
		return d.Cut(n, many)
	case "remove":
		return d.Remove(n)
	case "read":
		_, err := d.Read(n)
		return err
	case "crash":
		d.Crash(n)
	case "up":
		d.Up()
	default:
		panic("no such deed: " + deed)
	}
	return nil
}

func deedsOf(text string) []string {
	if text == "" {
		return nil
	}
	return strings.Split(text, ", ")
}

func newDisk(t *testing.T, room int) *Disk {
	t.Helper()
	d, err := New(room)
	if err != nil || d == nil {
		t.Fatalf("New(%d) = %v, %v", room, d, err)
	}
	return d
}

// behind is a disk behind these deeds, whatever they tell.
func behind(t *testing.T, room int, deeds []string) *Disk {
	t.Helper()
	d := newDisk(t, room)
	for _, deed := range deeds {
		do(d, deed)
	}
	return d
}

// readAll is the parts' bytes; the disk has to be up.
func readAll(t *testing.T, d *Disk) map[int]string {
	t.Helper()
	all := map[int]string{}
	for _, part := range d.Parts() {
		b, err := d.Read(part)
		if err != nil {
			t.Fatalf("Read(%d) = %q, %v, and it is one of Parts", part, b, err)
		}
		all[part] = string(b)
	}
	return all
}

// stateOf is all there is to a disk behind these deeds: whether it is up, its parts, and their bytes, a | behind those
// that are synced. Only another disk's crash can tell these.
func stateOf(t *testing.T, room int, deeds []string) string {
	t.Helper()
	d := behind(t, room, deeds)
	way := "down"
	if _, err := d.Read(-1); err == api.ErrNone {
		way = "up"
	}
	parts, used := d.Parts(), d.Used()
	d.Up()
	all := readAll(t, d)
	crashed := behind(t, room, append(slices.Clone(deeds), "up", "crash 0", "up"))
	synced := readAll(t, crashed)
	if !slices.IsSorted(parts) || len(parts) != len(all) || !slices.Equal(parts, crashed.Parts()) {
		t.Fatalf("behind %q: Parts %v, behind Up %v, behind a crash %v", deeds, parts, d.Parts(), crashed.Parts())
	}
	many := 0
	for _, part := range parts {
		rest, begins := strings.CutPrefix(all[part], synced[part])
		if !begins {
			t.Fatalf("behind %q: part %d has %q, and behind a crash %q", deeds, part, all[part], synced[part])
		}
		many += len(all[part])
		way += " " + strconv.Itoa(part) + ":" + synced[part] + "|" + rest
	}
	if used != many {
		t.Fatalf("behind %q: Used() = %d, and the parts have %d bytes", deeds, used, many)
	}
	return way
}

// short keeps a failure readable.
func short(text string) string {
	if len(text) > 300 {
		return text[:300] + ".."
	}
	return text
}

// wantBehind holds what the last of these deeds tells (the others tell no error), and how the disk is then.
func wantBehind(t *testing.T, room int, text string, want error, state string) {
	t.Helper()
	deeds := deedsOf(text)
	d := newDisk(t, room)
	for i, deed := range deeds {
		err := do(d, deed)
		if i < len(deeds)-1 && err != nil {
			t.Errorf("%s: deed %d tells %v", short(text), i, err)
		}
		if i == len(deeds)-1 && err != want {
			t.Errorf("%s: tells %v, want %v", short(text), err, want)
		}
	}
	if got := stateOf(t, room, deeds); got != state {
		t.Errorf("behind %s: %s, want %s", short(text), short(got), short(state))
	}
}

type wanted struct {
	deeds string
	err   error
	state string
}

func wantAll(t *testing.T, room int, l []wanted) {
	t.Helper()
	for _, w := range l {
		wantBehind(t, room, w.deeds, w.err, w.state)
	}
}

// P8.1: rooms that may be are of a disk that is up, without parts, with room for so many bytes and none more.
func TestNew(t *testing.T) {
	for _, room := range []int{1, 2, 10, 4096, api.MaxDisk - 1, api.MaxDisk} {
		wantBehind(t, room, "", nil, "up")
		all, more := strings.Repeat("a", room), strings.Repeat("a", room+1)
		wantBehind(t, room, "append 0 "+all, nil, "up 0:|"+all)
		wantBehind(t, room, "append 0 "+more, api.ErrFull, "up")
		wantBehind(t, room, "append 0 "+all+", append 0 b", api.ErrFull, "up 0:|"+all)
		wantBehind(t, room, "append 0 "+all+", append 1 b", api.ErrFull, "up 0:|"+all)
	}
}

// P8.1: other rooms are ErrArg itself, and no disk.
func TestNewNone(t *testing.T) {
	for _, room := range []int{math.MinInt, -api.MaxDisk, -1, 0, api.MaxDisk + 1, 2 * api.MaxDisk, math.MaxInt} {
		if d, err := New(room); d != nil || err != api.ErrArg {
			t.Errorf("New(%d) = %v, %v", room, d, err)
		}
	}
}

// P8.1: of a disk that is down these tell ErrGone, ahead of all else, and nothing comes of them.
func TestGone(t *testing.T) {
	down := "append 5 de, append 2 ab, sync 2, append 2 cd, crash 1"
	state := "down 2:abc| 5:|"
	wantBehind(t, 10, down, nil, state)
	for _, deed := range []string{
		"append 2 x", "append 2 ", "append 3 x", "append 3 ", "append -1 x", "append -1 ", "append -1 abcdefgh",
		"append 2 abcdefgh", "append " + least + " x",
		"sync 2", "sync 5", "sync 3", "sync -1", "remove 2", "remove 5", "remove 3", "remove -1",
		"read 2", "read 5", "read 3", "read -1",
		"cut 2 0", "cut 2 3", "cut 2 4", "cut 2 -1", "cut 5 0", "cut 3 0", "cut 3 -1", "cut -1 0",
	} {
		wantBehind(t, 10, down+", "+deed, api.ErrGone, state)
	}
	wantBehind(t, 10, "crash 0, append -1 x", api.ErrGone, "down")
	wantBehind(t, 10, "crash 0, append 2 abcdefghijk", api.ErrGone, "down")
}

// P8.2: what is appended stands behind the part's bytes, and there is the part then.
func TestAppend(t *testing.T) {
	wantAll(t, 10, []wanted{
		{"append 2 ab", nil, "up 2:|ab"},
		{"append 2 ab, append 2 cd", nil, "up 2:|abcd"},
		{"append 2 ab, append 5 cd, append 2 e, append 5 f", nil, "up 2:|abe 5:|cdf"},
		{"append 0 ab", nil, "up 0:|ab"},
		{"append " + greatest + " ab", nil, "up " + greatest + ":|ab"},
		{"append 2 ", nil, "up 2:|"},
		{"append 2 , append 2 , append 2 a", nil, "up 2:|a"},
		{"append 2 ab, append 2 ", nil, "up 2:|ab"},
		{"append 2 ab, sync 2, append 2 cd", nil, "up 2:ab|cd"},
		{"append 2 ab, sync 2, append 2 ", nil, "up 2:ab|"},
	})
}

// P8.2: a part below 0 is ErrArg, also where there isn't room.
func TestAppendBelow0(t *testing.T) {
	wantAll(t, 3, []wanted{
		{"append -1 a", api.ErrArg, "up"},
		{"append -1 ", api.ErrArg, "up"},
		{"append -1 abcd", api.ErrArg, "up"},
		{"append " + least + " a", api.ErrArg, "up"},
		{"append 1 abc, append -1 a", api.ErrArg, "up 1:|abc"},
		{"append 1 ab, sync 1, append 1 c, append -1 ", api.ErrArg, "up 1:ab|c"},
	})
}

// P8.2: what there isn't room for is ErrFull, in all parts together, and there is no part by it.
func TestAppendFull(t *testing.T) {
	wantAll(t, 5, []wanted{
		{"append 2 abcde", nil, "up 2:|abcde"},
		{"append 2 abcdef", api.ErrFull, "up"},
		{"append 2 abc, append 2 de", nil, "up 2:|abcde"},
		{"append 2 abc, append 2 def", api.ErrFull, "up 2:|abc"},
		{"append 2 abc, append 5 de", nil, "up 2:|abc 5:|de"},
		{"append 2 abc, append 5 def", api.ErrFull, "up 2:|abc"},
		{"append 2 a, append 5 b, append 0 c, append 7 de", nil, "up 0:|c 2:|a 5:|b 7:|de"},
		{"append 2 a, append 5 b, append 0 c, append 7 def", api.ErrFull, "up 0:|c 2:|a 5:|b"},
		{"append 2 abcde, append 2 ", nil, "up 2:|abcde"},
		{"append 2 abcde, append 5 ", nil, "up 2:|abcde 5:|"},
		{"append 2 abc, sync 2, append 2 def", api.ErrFull, "up 2:abc|"},
	})
}

// P8.2, P8.3: what went by a Cut, a Remove or a Crash is room again, and no more than that.
func TestRoomIsBack(t *testing.T) {
	full := "append 2 abc, sync 2, append 5 de, "
	wantAll(t, 5, []wanted{
		{full + "cut 2 1, append 7 xy", nil, "up 2:a| 5:|de 7:|xy"},
		{full + "cut 2 1, append 7 xyz", api.ErrFull, "up 2:a| 5:|de"},
		{full + "cut 2 0, append 2 xyz", nil, "up 2:|xyz 5:|de"},
		{full + "cut 2 0, append 2 xyzt", api.ErrFull, "up 2:| 5:|de"},
		{full + "cut 2 3, append 2 x", api.ErrFull, "up 2:abc| 5:|de"},
		{full + "remove 5, append 2 xy", nil, "up 2:abc|xy"},
		{full + "remove 5, append 2 xyz", api.ErrFull, "up 2:abc|"},
		{full + "remove 2, append 2 xyz", nil, "up 2:|xyz 5:|de"},
		{full + "remove 2, append 2 xyzt", api.ErrFull, "up 5:|de"},
		{full + "crash 0, up, append 5 xy", nil, "up 2:abc| 5:|xy"},
		{full + "crash 0, up, append 5 xyz", api.ErrFull, "up 2:abc| 5:|"},
		{full + "crash 1, up, append 5 x", nil, "up 2:abc| 5:d|x"},
		{full + "crash 1, up, append 5 xy", api.ErrFull, "up 2:abc| 5:d|"},
		{full + "crash 2, up, append 5 x", api.ErrFull, "up 2:abc| 5:de|"},
	})
}

// P8.2: all bytes of the part are synced, and of no other one.
func TestSync(t *testing.T) {
	wantAll(t, 10, []wanted{
		{"append 2 ab, sync 2", nil, "up 2:ab|"},
		{"append 2 ab, append 5 cd, sync 5", nil, "up 2:|ab 5:cd|"},
		{"append 2 ab, sync 2, append 2 cd, sync 2", nil, "up 2:abcd|"},
		{"append 2 ab, sync 2, sync 2", nil, "up 2:ab|"},
		{"append 2 , sync 2", nil, "up 2:|"},
		{"append 2 , sync 2, append 2 a", nil, "up 2:|a"},
		{"append 0 ab, sync 0", nil, "up 0:ab|"},
		{"append " + greatest + " a, sync " + greatest, nil, "up " + greatest + ":a|"},
	})
}

// P8.2: of a part that isn't there, these tell ErrNone, and nothing comes of them.
func TestNone(t *testing.T) {
	for _, call := range []string{"sync ", "remove ", "read ", "cut "} {
		for _, part := range []string{"0", "1", "3", "-1", "-2", greatest, least} {
			wantBehind(t, 10, call+part+" 0", api.ErrNone, "up")
			wantBehind(t, 10, "append 2 ab, sync 2, append 2 c, "+call+part+" 0", api.ErrNone, "up 2:ab|c")
		}
		wantBehind(t, 10, "append 2 ab, append 5 c, remove 2, "+call+"2 0", api.ErrNone, "up 5:|c")
		wantBehind(t, 10, "append 2 ab, sync 2, remove 2, "+call+"2 0", api.ErrNone, "up")
	}
	wantBehind(t, 10, "append 2 ab, cut 3 -1", api.ErrNone, "up 2:|ab")
	wantBehind(t, 10, "append 2 ab, cut -1 -1", api.ErrNone, "up 2:|ab")
	wantBehind(t, 10, "append 2 ab, cut 3 "+greatest, api.ErrNone, "up 2:|ab")
}

// P8.2: the first n bytes stay, and are synced, those too that weren't.
func TestCut(t *testing.T) {
	some := "append 5 x, append 2 ab, sync 2, append 2 cd, "
	wantAll(t, 10, []wanted{
		{some + "cut 2 0", nil, "up 2:| 5:|x"},
		{some + "cut 2 1", nil, "up 2:a| 5:|x"},
		{some + "cut 2 2", nil, "up 2:ab| 5:|x"},
		{some + "cut 2 3", nil, "up 2:abc| 5:|x"},
		{some + "cut 2 4", nil, "up 2:abcd| 5:|x"},
		{some + "cut 5 1", nil, "up 2:ab|cd 5:x|"},
		{some + "cut 2 1, append 2 ef", nil, "up 2:a|ef 5:|x"},
		{some + "cut 2 3, cut 2 1", nil, "up 2:a| 5:|x"},
		{some + "cut 2 3, cut 2 3", nil, "up 2:abc| 5:|x"},
		{"append 2 , cut 2 0", nil, "up 2:|"},
	})
}

// P8.2: a Cut to below 0, or to more than there is, is ErrArg, and nothing comes of it.
func TestCutBeyond(t *testing.T) {
	some := "append 5 xyz, append 2 ab, sync 2, append 2 cd, "
	for _, cut := range []string{"2 -1", "2 5", "2 7", "5 4", "2 " + greatest, "2 " + least} {
		wantBehind(t, 10, some+"cut "+cut, api.ErrArg, "up 2:ab|cd 5:|xyz")
	}
	wantBehind(t, 10, "append 2 , cut 2 1", api.ErrArg, "up 2:|")
	wantBehind(t, 10, some+"cut 2 3, cut 2 4", api.ErrArg, "up 2:abc| 5:|xyz")
}

// P8.2: what is removed isn't there any more; laid again, nothing of it is synced.
func TestRemove(t *testing.T) {
	some := "append 5 x, append 2 ab, sync 2, append 2 cd, "
	wantAll(t, 10, []wanted{
		{some + "remove 2", nil, "up 5:|x"},
		{some + "remove 5", nil, "up 2:ab|cd"},
		{some + "remove 5, remove 2", nil, "up"},
		{"append 2 , remove 2", nil, "up"},
		{some + "remove 2, append 2 ", nil, "up 2:| 5:|x"},
		{some + "remove 2, append 2 ab", nil, "up 2:|ab 5:|x"},
		{some + "remove 2, append 2 abcdef", nil, "up 2:|abcdef 5:|x"},
		{some + "remove 2, append 2 xy, sync 2, append 2 z", nil, "up 2:xy|z 5:|x"},
		{some + "remove 2, crash 9, up, append 2 ab", nil, "up 2:|ab 5:x|"},
	})
}

// P8.2: Read tells the part's bytes, whichever they are; with an error there are none.
func TestRead(t *testing.T) {
	d := newDisk(t, 600)
	every := make([]byte, 256)
	for i := range every {
		every[i] = byte(i)
	}
	for _, want := range [][]byte{every, append(slices.Clone(every), every...)} {
		if err := d.Append(3, every); err != nil {
			t.Fatal(err)
		}
		if b, err := d.Read(3); err != nil || !bytes.Equal(b, want) {
			t.Errorf("Read = %x, %v, want %x", b, err, want)
		}
	}
	if b, err := d.Read(4); len(b) != 0 || err != api.ErrNone {
		t.Errorf("Read of no part = %x, %v", b, err)
	}
	if err := d.Append(4, nil); err != nil {
		t.Error(err)
	}
	if b, err := d.Read(4); len(b) != 0 || err != nil {
		t.Errorf("Read of a part without bytes = %x, %v", b, err)
	}
	d.Crash(math.MaxInt)
	if b, err := d.Read(3); len(b) != 0 || err != api.ErrGone {
		t.Errorf("Read while it is down = %x, %v", b, err)
	}
}

// P8.2: Parts rise, in whatever order they were told, and Used is what all have together.
func TestPartsAndUsed(t *testing.T) {
	d := newDisk(t, 100)
	if l := d.Parts(); len(l) != 0 || d.Used() != 0 {
		t.Errorf("of a new one: %v, %d", l, d.Used())
	}
	for _, part := range []int{7, math.MaxInt, 0, 300, 8, 65536, 1} {
		if err := d.Append(part, []byte("abc")); err != nil {
			t.Fatal(err)
		}
	}
	hold := func(name string, used int, want ...int) {
		t.Helper()
		if l := d.Parts(); !slices.Equal(l, want) || d.Used() != used {
			t.Errorf("%s: %v, %d, want %v, %d", name, l, d.Used(), want, used)
		}
	}
	hold("of seven", 21, 0, 1, 7, 8, 300, 65536, math.MaxInt)
	d.Sync(7)
	hold("behind a Sync", 21, 0, 1, 7, 8, 300, 65536, math.MaxInt)
	d.Cut(300, 1)
	hold("behind a Cut", 19, 0, 1, 7, 8, 300, 65536, math.MaxInt)
	d.Remove(8)
	hold("behind a Remove", 16, 0, 1, 7, 300, 65536, math.MaxInt)
	d.Append(9, nil)
	hold("behind an Append of nothing", 16, 0, 1, 7, 9, 300, 65536, math.MaxInt)
	d.Crash(4)
	hold("while it is down", 8, 0, 1, 7, 9, 300, 65536, math.MaxInt)
	d.Up()
	hold("behind Up", 8, 0, 1, 7, 9, 300, 65536, math.MaxInt)
	for _, part := range d.Parts() {
		d.Remove(part)
	}
	hold("behind all were removed", 0)
}

// P8.3: the chapter's example.
func TestExample(t *testing.T) {
	wantBehind(t, 10, "append 1 ab, sync 1, append 1 cd, crash 1", nil, "down 1:abc|")
}

// P8.3: of the bytes that weren't synced the first ones stay, as many as keep tells.
func TestCrashKeeps(t *testing.T) {
	some := "append 2 ab, sync 2, append 2 cde, crash "
	for keep, state := range map[string]string{
		least: "2:ab|", "-2": "2:ab|", "-1": "2:ab|", "0": "2:ab|", "1": "2:abc|", "2": "2:abcd|",
		"3": "2:abcde|", "4": "2:abcde|", greatest: "2:abcde|",
	} {
		wantBehind(t, 10, some+keep, nil, "down "+state)
		wantBehind(t, 10, some+keep+", up", nil, "up "+state)
		wantBehind(t, 5, some+keep, nil, "down "+state)
	}
}

// P8.3: keep is used up by the parts with the least numbers first, whatever order they were told in.
func TestCrashOfSeveral(t *testing.T) {
	some := "append 300 ij, append 2 a, append 7 ef, append 0 k, sync 0, sync 2, sync 7, append 2 bcd, append 7 g, crash "
	for keep, state := range map[string]string{
		"-1":     "0:k| 2:a| 7:ef| 300:|",
		"0":      "0:k| 2:a| 7:ef| 300:|",
		"1":      "0:k| 2:ab| 7:ef| 300:|",
		"2":      "0:k| 2:abc| 7:ef| 300:|",
		"3":      "0:k| 2:abcd| 7:ef| 300:|",
		"4":      "0:k| 2:abcd| 7:efg| 300:|",
		"5":      "0:k| 2:abcd| 7:efg| 300:i|",
		"6":      "0:k| 2:abcd| 7:efg| 300:ij|",
		"7":      "0:k| 2:abcd| 7:efg| 300:ij|",
		greatest: "0:k| 2:abcd| 7:efg| 300:ij|",
	} {
		wantBehind(t, 20, some+keep, nil, "down "+state)
	}
}

// P8.3: a part stays a part, whatever of its bytes does.
func TestCrashLeavesParts(t *testing.T) {
	wantAll(t, 10, []wanted{
		{"crash 0", nil, "down"},
		{"crash 5, up", nil, "up"},
		{"append 2 , crash 0", nil, "down 2:|"},
		{"append 2 , append 3 ab, append 5 , crash 1, up", nil, "up 2:| 3:a| 5:|"},
		{"append 2 ab, crash 0", nil, "down 2:|"},
		{"append 2 ab, append 3 cd, crash 0, up, append 2 x", nil, "up 2:|x 3:|"},
		{"append 2 ab, sync 2, crash 0", nil, "down 2:ab|"},
		{"append 2 ab, cut 2 0, crash 3", nil, "down 2:|"},
	})
}

// P8.3: of a disk that is down nothing more goes by a crash, and Up of one that is up leaves it so.
func TestCrashOfDown(t *testing.T) {
	some := "append 2 ab, sync 2, append 2 cd, append 3 ef, crash 3, "
	for _, keep := range []string{least, "-1", "0", "1", "2", "9", greatest} {
		wantBehind(t, 10, some+"crash "+keep, nil, "down 2:abcd| 3:e|")
		wantBehind(t, 10, some+"crash "+keep+", crash 0, up", nil, "up 2:abcd| 3:e|")
	}
	wantAll(t, 10, []wanted{
		{"up", nil, "up"},
		{"append 2 ab, sync 2, append 2 cd, up, up", nil, "up 2:ab|cd"},
		{"crash 0, up, up, append 2 a", nil, "up 2:|a"},
		{"crash 0, crash 0, up, append 2 a", nil, "up 2:|a"},
	})
}

// P8.3, P8.5: what stayed is synced: another crash takes nothing of it.
func TestCrashAgain(t *testing.T) {
	some := "append 2 ab, append 5 cd, crash 3, up, "
	wantAll(t, 10, []wanted{
		{some + "crash 0", nil, "down 2:ab| 5:c|"},
		{some + "crash 0, up, crash 0, up", nil, "up 2:ab| 5:c|"},
		{some + "append 2 xy, crash 0", nil, "down 2:ab| 5:c|"},
		{some + "append 2 xy, append 5 zt, crash 3", nil, "down 2:abxy| 5:cz|"},
		{some + "append 5 zt, crash 1, up, append 2 u", nil, "up 2:ab|u 5:cz|"},
	})
}

// byWords is a disk by the chapter's words: its bytes in the order in which they came, each by itself.
type byWords struct {
	room  int
	down  bool
	parts []int
	all   []one
}

type one struct {
	part   int
	b      byte
	synced bool
}

func (w *byWords) Append(part int, b []byte) error {
	if w.down {
		return api.ErrGone
	}
	if part < 0 {
		return api.ErrArg
	}
	if len(w.all)+len(b) > w.room {
		return api.ErrFull
	}
	if !slices.Contains(w.parts, part) {
		w.parts = append(w.parts, part)
		slices.Sort(w.parts)
	}
	for _, x := range b {
		w.all = append(w.all, one{part: part, b: x})
	}
	return nil
}

// each lets those bytes of a part stay, and be synced, that stay says.
func (w *byWords) each(part int, stay func(o one) bool) {
	var left []one
	for _, o := range w.all {
		if o.part != part {
			left = append(left, o)
		} else if stay(o) {
			o.synced = true
			left = append(left, o)
		}
	}
	w.all = left
}

func (w *byWords) is(part int) error {
	if w.down {
		return api.ErrGone
	}
	if !slices.Contains(w.parts, part) {
		return api.ErrNone
	}
	return nil
}

func (w *byWords) Sync(part int) error {
	if err := w.is(part); err != nil {
		return err
	}
	w.each(part, func(one) bool { return true })
	return nil
}

func (w *byWords) Cut(part, n int) error {
	b, err := w.Read(part)
	if err != nil {
		return err
	}
	if n < 0 || n > len(b) {
		return api.ErrArg
	}
	w.each(part, func(one) bool { n--; return n >= 0 })
	return nil
}

func (w *byWords) Remove(part int) error {
	if err := w.is(part); err != nil {
		return err
	}
	w.each(part, func(one) bool { return false })
	w.parts = slices.DeleteFunc(w.parts, func(p int) bool { return p == part })
	return nil
}

func (w *byWords) Read(part int) ([]byte, error) {
	if err := w.is(part); err != nil {
		return nil, err
	}
	var b []byte
	for _, o := range w.all {
		if o.part == part {
			b = append(b, o.b)
		}
	}
	return b, nil
}

func (w *byWords) Parts() []int { return w.parts }

func (w *byWords) Used() int { return len(w.all) }

func (w *byWords) Crash(keep int) {
	if w.down {
		return
	}
	for _, part := range w.parts {
		w.each(part, func(o one) bool {
			if !o.synced {
				keep--
			}
			return o.synced || keep >= 0
		})
	}
	w.down = true
}

func (w *byWords) Up() { w.down = false }

func (w *byWords) state() string {
	way := "up"
	if w.down {
		way = "down"
	}
	for _, part := range w.parts {
		synced, rest := "", ""
		for _, o := range w.all {
			if o.part == part && o.synced {
				synced += string(o.b)
			} else if o.part == part {
				rest += string(o.b)
			}
		}
		way += " " + strconv.Itoa(part) + ":" + synced + "|" + rest
	}
	return way
}

func anyPart(r *rand.Rand) string {
	return []string{"0", "1", "2", "9", "10", "-1", greatest, least}[min(r.Intn(12), r.Intn(12), 7)]
}

func anyDeed(r *rand.Rand) string {
	part := anyPart(r)
	switch r.Intn(16) {
	case 0, 1:
		return "sync " + part
	case 2, 3:
		return "cut " + part + " " + strconv.Itoa(r.Intn(7)-1)
	case 4:
		return "remove " + part
	case 5:
		return "read " + part
	case 6, 7:
		return "crash " + strconv.Itoa(r.Intn(9)-1)
	case 8, 9, 10:
		return "up"
	}
	return "append " + part + " " + "abcdefgh"[:min(r.Intn(9), r.Intn(9))]
}

// P8.1 to P8.3, R1, R3: many deeds in any order tell, and leave, what the chapter's words say.
func TestAtRandom(t *testing.T) {
	r := rand.New(rand.NewSource(8))
	for range 1500 {
		room := 1 + r.Intn(24)
		d, w := newDisk(t, room), &byWords{room: room}
		var deeds []string
		for range 30 {
			deed := anyDeed(r)
			deeds = append(deeds, deed)
			if got, want := do(d, deed), do(w, deed); got != want {
				t.Fatalf("room %d, %q: the last tells %v, want %v", room, deeds, got, want)
			}
			if r.Intn(4) > 0 {
				continue
			}
			if got, want := stateOf(t, room, deeds), w.state(); got != want {
				t.Fatalf("room %d, behind %q: %s, want %s", room, deeds, got, want)
			}
		}
	}
}

// P8.5: what was synced stays, but for a Cut or a Remove of its own part, over many deeds in any order.
func TestSyncedStays(t *testing.T) {
	r := rand.New(rand.NewSource(85))
	for range 300 {
		d := newDisk(t, 40)
		synced := map[int]string{}
		for range 100 {
			deed := anyDeed(r)
			err := do(d, deed)
			call, rest, _ := strings.Cut(deed, " ")
			word, _, _ := strings.Cut(rest, " ")
			part, _ := strconv.Atoi(word)
			if d.down {
				continue
			}
			if err == nil && call == "remove" {
				delete(synced, part)
			}
			if err == nil && (call == "sync" || call == "cut") {
				b, _ := d.Read(part)
				synced[part] = string(b)
			}
			for part, first := range synced {
				if b, err := d.Read(part); err != nil || !strings.HasPrefix(string(b), first) {
					t.Fatalf("behind %s: part %d has %q, %v, and %q was synced", deed, part, b, err, first)
				}
			}
		}
	}
}

// P8.4: what is handed in isn't changed, with the room behind it.
func TestBytesStay(t *testing.T) {
	d := newDisk(t, 100)
	room := []byte("abcdefghijkl")
	for _, part := range []int{2, 2, 3, -1, 2} {
		d.Append(part, room[:3])
		d.Append(part, []byte("xyz"))
		d.Sync(2)
		d.Cut(2, 2)
		if string(room) != "abcdefghijkl" {
			t.Fatalf("what was handed in is %q now", room)
		}
	}
	d.Append(4, room[:3])
	d.Crash(2)
	d.Up()
	d.Append(4, []byte("uvw"))
	if string(room) != "abcdefghijkl" {
		t.Errorf("what was handed in is %q now", room)
	}
}

// P8.4: what was handed in may be written over afterwards, with the room behind it.
func TestNothingIsKept(t *testing.T) {
	d := newDisk(t, 100)
	for _, first := range []string{"", "q"} {
		d.Remove(2)
		d.Append(2, []byte(first))
		for _, text := range []string{"abc", "def", ""} {
			room := make([]byte, 64)
			b := room[:copy(room, text)]
			if err := d.Append(2, b); err != nil {
				t.Fatal(err)
			}
			for i := range room {
				room[i] = '!'
			}
		}
		if b, err := d.Read(2); err != nil || string(b) != first+"abcdef" {
			t.Errorf("Read = %q, %v", b, err)
		}
	}
}

// writeOver writes over what was told, with the room behind it.
func writeOver[T any](l []T, with T) {
	l = l[:cap(l)]
	for i := range l {
		l[i] = with
	}
}

// P8.4: what was told may be written over, without the disk being another.
func TestToldIsNew(t *testing.T) {
	for _, deeds := range []string{
		"append 2 abc, append 7 de", "append 2 abc, sync 2, append 7 de", "append 2 abcdef, cut 2 3, append 7 de",
		"append 2 abcdef, crash 3, up, append 7 de", "append 2 a, append 2 b, append 2 c, append 7 d, append 7 e",
	} {
		d := behind(t, 100, deedsOf(deeds))
		b, _ := d.Read(2)
		l := d.Parts()
		writeOver(b, '!')
		writeOver(l, -5)
		if all := readAll(t, d); len(all) != 2 || all[2] != "abc" || all[7] != "de" || d.Used() != 5 {
			t.Errorf("%s: the disk has %v then, and tells %d", deeds, all, d.Used())
		}
		d.Append(2, []byte("fg"))
		writeOver(b, '?')
		if again, _ := d.Read(2); string(again) != "abcfg" {
			t.Errorf("%s: behind an Append %q", deeds, again)
		}
	}
}

// P8.4: what was told stays as it was, whatever is done to the disk.
func TestToldStays(t *testing.T) {
	for _, deed := range []string{
		"append 2 xyz", "append 0 x", "append 3 x", "sync 2", "cut 2 1", "cut 2 0", "remove 2", "remove 7", "crash 0", "crash 9",
	} {
		d := behind(t, 100, deedsOf("append 2 abc, append 7 de"))
		b, _ := d.Read(2)
		l := d.Parts()
		do(d, deed)
		d.Up()
		do(d, "append 2 uvw")
		if string(b) != "abc" || !slices.Equal(l, []int{2, 7}) {
			t.Errorf("behind %s what was told is %q, %v", deed, b, l)
		}
	}
}

// overlap tells whether two lists, with the room behind them, share memory.
func overlap[T any](a, b []T) bool {
	if cap(a) == 0 || cap(b) == 0 {
		return false
	}
	var zero T
	firstA, firstB := uintptr(unsafe.Pointer(unsafe.SliceData(a))), uintptr(unsafe.Pointer(unsafe.SliceData(b)))
	size := unsafe.Sizeof(zero)
	return firstA < firstB+uintptr(cap(b))*size && firstB < firstA+uintptr(cap(a))*size
}

// P8.4: two answers share no memory with each other, nor with what was handed in.
func TestAnswersApart(t *testing.T) {
	d := newDisk(t, 100)
	handed := append(make([]byte, 0, 64), "abc"...)
	d.Append(2, handed)
	d.Append(3, handed)
	var told [][]byte
	for _, part := range []int{2, 2, 3} {
		b, err := d.Read(part)
		if err != nil || string(b) != "abc" {
			t.Fatalf("Read(%d) = %q, %v", part, b, err)
		}
		if overlap(b, handed) || overlap(b, d.parts[part].bytes) {
			t.Errorf("part %d: what is told is not new memory", part)
		}
		for _, other := range told {
			if overlap(b, other) {
				t.Errorf("part %d: two answers share memory", part)
			}
		}
		told = append(told, b)
	}
	if overlap(d.Parts(), d.Parts()) {
		t.Error("two answers of Parts share memory")
	}
}

// P8.1: disks are apart from each other.
func TestDisksApart(t *testing.T) {
	one, other := newDisk(t, 5), newDisk(t, 5)
	one.Append(2, []byte("abcde"))
	one.Crash(3)
	if err := other.Append(2, []byte("xyztu")); err != nil {
		t.Error(err)
	}
	if b, err := other.Read(2); string(b) != "xyztu" || err != nil {
		t.Errorf("Read = %q, %v", b, err)
	}
	if one.Used() != 3 {
		t.Errorf("Used() = %d", one.Used())
	}
}

// P8.2, P8.3: what has gone takes no memory, however often it comes and goes.
func TestGoneTakesNoMemory(t *testing.T) {
	ways := map[string]func(d *Disk, part int){
		"Cut":    func(d *Disk, part int) { d.Cut(part, 1) },
		"Cut 0":  func(d *Disk, part int) { d.Cut(part, 0) },
		"Crash":  func(d *Disk, part int) { d.Crash(0); d.Up() },
		"Remove": func(d *Disk, part int) { d.Remove(part) },
	}
	for name, gone := range ways {
		d := newDisk(t, api.MaxDisk)
		for part := range 100 {
			if err := d.Append(part, make([]byte, api.MaxDisk-100)); err != nil {
				t.Fatal(name, err)
			}
			gone(d, part)
		}
		held := 0
		for _, c := range d.parts {
			held += cap(c.bytes)
		}
		if held > 2*api.MaxDisk {
			t.Errorf("%s: %d bytes are held, and %d used", name, held, d.Used())
		}
	}
}

// P1: very many parts, and very many deeds, come to an end.
func TestVeryMany(t *testing.T) {
	d := newDisk(t, api.MaxDisk)
	for part := 200000; part >= 0; part-- {
		if err := d.Append(part, nil); err != nil {
			t.Fatal(err)
		}
	}
	for range api.MaxDisk {
		if err := d.Append(5, []byte("a")); err != nil {
			t.Fatal(err)
		}
		d.Sync(5)
	}
	d.Crash(0)
	d.Up()
	if l := d.Parts(); len(l) != 200001 || !slices.IsSorted(l) || d.Used() != api.MaxDisk {
		t.Errorf("%d parts, %d bytes", len(l), d.Used())
	}
}
