package disk_test

import (
	"bytes"
	"fmt"
	"maps"
	"math"
	"slices"
	"strings"
	"testing"

	"trug/api"
	"trug/disk"
)

const (
	ok   = api.OK
	arg  = api.ErrArg
	none = api.ErrNone
	full = api.ErrFull
)

// random is a source of numbers that are the same in every run.
type random uint64

func (r *random) below(n int) int {
	*r ^= *r << 13
	*r ^= *r >> 7
	*r ^= *r << 17
	return int(uint64(*r) >> 11 % uint64(n))
}

func (r *random) bytes(n int) []byte {
	b := make([]byte, n)
	for i := range b {
		b[i] = byte(r.below(256))
	}
	return b
}

// name is a name of n bytes.
func name(n int) string {
	return strings.Repeat("n", n)
}

// badNames are names that are not valid.
var badNames = []string{"", name(33), name(34), name(1000), strings.Repeat("ä", 17)}

// edgeNames are names that are valid, but barely, or look as if they were not.
var edgeNames = []string{"a", name(32), "\x00", "\xff\xfe", " ", "/", "a/b", "..", strings.Repeat("ä", 16), strings.Repeat("\x00", 32)}

func made(t *testing.T, room int) *disk.Disk {
	t.Helper()
	d := disk.New(room)
	if d == nil {
		t.Fatalf("New(%d) is nil", room)
	}
	return d
}

// must tells whether each of several calls has returned OK.
func must(t *testing.T, errors ...api.Errno) {
	t.Helper()
	for i, e := range errors {
		if e != ok {
			t.Fatalf("call %d: error %d", i, e)
		}
	}
}

func want(t *testing.T, call string, e, wanted api.Errno) {
	t.Helper()
	if e != wanted {
		t.Errorf("%s: error %d, want %d", call, e, wanted)
	}
}

// wantFiles tells whether d has these files and no others, by List, Read and Used.
func wantFiles(t *testing.T, d *disk.Disk, files map[string]string) {
	t.Helper()
	names := slices.Sorted(maps.Keys(files))
	if l := d.List(); !slices.Equal(l, names) {
		t.Errorf("List: %q, want %q", l, names)
	}
	used := 0
	for n, content := range files {
		used += len(content)
		if b, e := d.Read(n); string(b) != content || e != ok {
			t.Errorf("Read(%q): %s, %d, want %s", n, shown(string(b)), e, shown(content))
		}
	}
	if d.Used() != used {
		t.Errorf("Used: %d, want %d", d.Used(), used)
	}
}

// shown is the beginning of s.
func shown(s string) string {
	if len(s) > 40 {
		return fmt.Sprintf("%q .. (%d bytes)", s[:40], len(s))
	}
	return fmt.Sprintf("%q", s)
}

// wantAbsent tells whether there is no such name.
func wantAbsent(t *testing.T, d *disk.Disk, names ...string) {
	t.Helper()
	for _, n := range names {
		if b, e := d.Read(n); e != none || len(b) != 0 {
			t.Errorf("Read(%q): %d bytes, error %d, want none, %d", n, len(b), e, none)
		}
		if slices.Contains(d.List(), n) {
			t.Errorf("List has %q", n)
		}
	}
}

// example is the disk of the chapter's example, ahead of its crashes.
func example(t *testing.T) *disk.Disk {
	t.Helper()
	d := made(t, 100)
	must(t, d.Append("a", []byte("xy")), d.Sync("a"), d.SyncDir(), d.Append("a", []byte("z")), d.Append("b", []byte("q")))
	wantFiles(t, d, map[string]string{"a": "xyz", "b": "q"})
	return d
}

// P11.1 to P11.4: the chapter's example.
func TestExample(t *testing.T) {
	d := example(t)
	must(t, d.Crash(0, nil))
	wantFiles(t, d, map[string]string{"a": "xy"})
	wantAbsent(t, d, "b")
	d = example(t)
	must(t, d.Crash(1, []uint8{1}))
	wantFiles(t, d, map[string]string{"a": "xyz", "b": "q"})
}

// P11.1 (New)
func TestNew(t *testing.T) {
	for _, room := range []int{0, -1, -2, math.MinInt, 1<<24 + 1, 1<<24 + 2, 1 << 25, math.MaxInt32, 1 << 32, 1<<32 + 5, math.MaxInt} {
		if disk.New(room) != nil {
			t.Errorf("New(%d) is not nil", room)
		}
	}
	for _, room := range []int{1, 2, 1000, 65536, 1<<24 - 1, 1 << 24} {
		d := made(t, room)
		wantFiles(t, d, nil)
		wantAbsent(t, d, "", "a", name(32), name(33))
	}
}

// P11.1 (New), P11.2: the least room and the greatest one can be filled, and no more.
func TestRooms(t *testing.T) {
	d := made(t, 1)
	want(t, "2 bytes", d.Append("a", []byte("xy")), full)
	want(t, "1 byte", d.Append("a", []byte("x")), ok)
	want(t, "another byte", d.Append("a", []byte("x")), full)
	wantFiles(t, d, map[string]string{"a": "x"})
	d = made(t, 1<<24)
	part := make([]byte, 65536)
	for i := range 256 {
		want(t, "65536 bytes", d.Append([]string{"a", "b"}[i%2], part), ok)
	}
	want(t, "a byte more", d.Append("a", []byte("x")), full)
	want(t, "a byte more of a new name", d.Append("c", []byte("x")), full)
	want(t, "no byte more", d.Append("c", nil), ok)
	if d.Used() != 1<<24 || !slices.Equal(d.List(), []string{"a", "b", "c"}) {
		t.Errorf("Used %d, List %q", d.Used(), d.List())
	}
}

// P11.1 to P11.4, R7: nil, and a disk that New did not create; ErrNil goes ahead of all other errors.
func TestNotCreated(t *testing.T) {
	for _, d := range []*disk.Disk{nil, {}, new(disk.Disk), disk.New(0), disk.New(1<<24 + 1)} {
		for range 2 {
			for _, n := range append(slices.Clone(badNames), edgeNames...) {
				want(t, "Append", d.Append(n, []byte("x")), api.ErrNil)
				want(t, "Append of nothing", d.Append(n, nil), api.ErrNil)
				want(t, "Append of too much", d.Append(n, make([]byte, 65537)), api.ErrNil)
				want(t, "Sync", d.Sync(n), api.ErrNil)
				want(t, "Rename", d.Rename(n, "b"), api.ErrNil)
				want(t, "Rename", d.Rename("b", n), api.ErrNil)
				want(t, "Rename to itself", d.Rename(n, n), api.ErrNil)
				want(t, "Remove", d.Remove(n), api.ErrNil)
				if b, e := d.Read(n); len(b) != 0 || e != api.ErrNil {
					t.Errorf("Read: %d bytes, error %d", len(b), e)
				}
			}
			want(t, "SyncDir", d.SyncDir(), api.ErrNil)
			for _, n := range []int{-1, 0, 1, 100} {
				want(t, "Off", d.Off(n), api.ErrNil)
			}
			want(t, "Crash", d.Crash(0, nil), api.ErrNil)
			want(t, "Crash", d.Crash(255, []uint8{1, 2}), api.ErrNil)
			if len(d.List()) != 0 || d.Used() != 0 {
				t.Errorf("List: %q, Used: %d", d.List(), d.Used())
			}
		}
	}
}

// P11.1 (List): by bytes, whatever the order in which the names came.
func TestListInOrder(t *testing.T) {
	sorted := []string{"\x00", "\x00\x00", "\x01", " ", "10", "9", "A", "Z", "a", "a\x00", "a ", "aa", "ab", "b", name(31), name(32), "z", "ä", "\xff", "\xff\xff"}
	r := random(1)
	for range 50 {
		d := made(t, 100)
		order := slices.Clone(sorted)
		for i := range order {
			j := i + r.below(len(order)-i)
			order[i], order[j] = order[j], order[i]
		}
		for _, n := range order {
			must(t, d.Append(n, nil))
		}
		for range 2 {
			if l := d.List(); !slices.Equal(l, sorted) {
				t.Fatalf("List: %q", l)
			}
			must(t, d.Crash(uint8(len(sorted)), nil))
		}
	}
}

// P11.2
func TestAppend(t *testing.T) {
	d := made(t, 20)
	must(t, d.Append("a", []byte("xy")))
	wantFiles(t, d, map[string]string{"a": "xy"})
	must(t, d.Append("b", nil), d.Append("c", []byte{}))
	wantFiles(t, d, map[string]string{"a": "xy", "b": "", "c": ""})
	must(t, d.Append("a", nil), d.Append("a", []byte{}), d.Append("b", []byte("q")), d.Append("a", []byte{0, 255}))
	wantFiles(t, d, map[string]string{"a": "xy\x00\xff", "b": "q", "c": ""})
	for _, n := range edgeNames {
		d := made(t, 20)
		must(t, d.Append(n, []byte("xy")), d.Append(n, []byte("z")))
		wantFiles(t, d, map[string]string{n: "xyz"})
	}
}

// P11.2: a name that is not valid, ahead of ErrFull (R2); R5.
func TestAppendBadName(t *testing.T) {
	d := made(t, 4)
	must(t, d.Append("a", []byte("1234")))
	for _, n := range badNames {
		for _, b := range [][]byte{nil, []byte("x"), make([]byte, 65536), make([]byte, 65537)} {
			want(t, "Append to "+shown(n), d.Append(n, b), arg)
			wantAbsent(t, d, n)
		}
	}
	wantFiles(t, d, map[string]string{"a": "1234"})
	must(t, d.Crash(1, []uint8{4}))
	wantFiles(t, d, map[string]string{"a": "1234"})
}

// P11.2: MaxBytes bytes, and more, which is ErrArg ahead of ErrFull (R2); R5.
func TestAppendMuch(t *testing.T) {
	r := random(2)
	d := made(t, 200000)
	one, two := r.bytes(65536), r.bytes(65536)
	must(t, d.Append("a", one))
	for _, n := range []int{65537, 65538, 131072, 200001} {
		want(t, "too much for a name that is there", d.Append("a", make([]byte, n)), arg)
		want(t, "too much for a new name", d.Append("b", make([]byte, n)), arg)
	}
	wantFiles(t, d, map[string]string{"a": string(one)})
	must(t, d.Append("a", two), d.Append("b", two))
	wantFiles(t, d, map[string]string{"a": string(one) + string(two), "b": string(two)})
	want(t, "no room", d.Append("c", one), full)
	want(t, "too much and no room", d.Append("c", make([]byte, 65537)), arg)
}

// P11.2: up to the room, and a byte above it; R5.
func TestAppendFull(t *testing.T) {
	d := made(t, 10)
	want(t, "11 of 10", d.Append("a", make([]byte, 11)), full)
	want(t, "65536 of 10", d.Append("a", make([]byte, 65536)), full)
	wantFiles(t, d, nil)
	must(t, d.Append("a", []byte("123456")))
	want(t, "5 of 4", d.Append("a", []byte("78901")), full)
	want(t, "5 of 4 for a new name", d.Append("b", []byte("78901")), full)
	wantFiles(t, d, map[string]string{"a": "123456"})
	must(t, d.Append("b", []byte("7890")))
	want(t, "1 of 0", d.Append("a", []byte("x")), full)
	want(t, "1 of 0 for a new name", d.Append("c", []byte("x")), full)
	must(t, d.Append("a", nil), d.Append("c", nil))
	wantFiles(t, d, map[string]string{"a": "123456", "b": "7890", "c": ""})
	// What was refused is no name change: just those of a, b and c are pending.
	for k, names := range [][]string{{}, {"a"}, {"a", "b"}, {"a", "b", "c"}, {}} {
		d := made(t, 10)
		d.Append("x", make([]byte, 11))
		d.Append("a", []byte("123456"))
		d.Append("y", make([]byte, 5))
		d.Append("b", []byte("7890"))
		d.Append("z", make([]byte, 1))
		d.Append("c", nil)
		must(t, d.Crash(uint8(k), nil))
		if l := d.List(); !slices.Equal(l, names) {
			t.Errorf("%d changes: %q", k, l)
		}
	}
}

// P11.1 (Used), P11.2: an inode is counted while a name refers to it, and no longer.
func TestUsedOfNames(t *testing.T) {
	d := made(t, 10)
	must(t, d.Append("a", []byte("12345")), d.Append("b", []byte("1234")))
	want(t, "2 of 1", d.Append("b", []byte("xy")), full)
	must(t, d.Remove("a"))
	wantFiles(t, d, map[string]string{"b": "1234"})
	want(t, "7 of 6", d.Append("b", []byte("1234567")), full)
	must(t, d.Append("a", []byte("123456")))
	wantFiles(t, d, map[string]string{"a": "123456", "b": "1234"})
	must(t, d.Rename("b", "a"))
	wantFiles(t, d, map[string]string{"a": "1234"})
	want(t, "7 of 6", d.Append("c", []byte("1234567")), full)
	must(t, d.Append("c", []byte("123456")))
	wantFiles(t, d, map[string]string{"a": "1234", "c": "123456"})
}

// filled is a disk with 4096 inodes, of which so many have a name.
func filled(t *testing.T, named int) *disk.Disk {
	t.Helper()
	d := made(t, 1<<20)
	for i := range 4096 {
		n := fmt.Sprint("f", i)
		must(t, d.Append(n, nil))
		if i >= named {
			must(t, d.Remove(n))
		}
	}
	if l := d.List(); len(l) != named {
		t.Fatalf("%d names", len(l))
	}
	return d
}

// P11.2: 4096 inodes, and no more.
func TestInodes(t *testing.T) {
	d := filled(t, 4096)
	for _, b := range [][]byte{nil, []byte("x")} {
		want(t, "a new name", d.Append("new", b), full)
		want(t, "a name that is not valid", d.Append("", b), arg)
		want(t, "a name that is there", d.Append("f0", b), ok)
		want(t, "another name that is there", d.Append("f4095", b), ok)
	}
	wantAbsent(t, d, "new")
	must(t, d.Rename("f7", "new"))
	want(t, "a name that came by Rename", d.Append("new", []byte("y")), ok)
	want(t, "a name that is gone", d.Append("f7", nil), full)
	if d.Used() != 3 {
		t.Errorf("Used: %d", d.Used())
	}
}

// P11.2: inodes are there for ever, whether names refer to them or not.
func TestInodesWithoutNames(t *testing.T) {
	d := filled(t, 2)
	want(t, "a new name", d.Append("new", nil), full)
	want(t, "a name that is gone", d.Append("f2", nil), full)
	want(t, "a name that is there", d.Append("f1", []byte("xy")), ok)
	must(t, d.Remove("f0"), d.SyncDir())
	want(t, "a new name behind SyncDir", d.Append("new", nil), full)
	must(t, d.Crash(0, nil))
	want(t, "a new name behind a Crash", d.Append("new", nil), full)
	want(t, "a name that is there behind a Crash", d.Append("f1", []byte("x")), ok)
	wantFiles(t, d, map[string]string{"f1": "x"})
}

// P11.2: inodes that a Crash has left without names count, those of refused calls don't.
func TestInodesLostAndRefused(t *testing.T) {
	d := made(t, 10)
	for range 4095 {
		want(t, "no room", d.Append("b", make([]byte, 11)), full)
		want(t, "not valid", d.Append("", nil), arg)
		must(t, d.Append("a", nil), d.Crash(0, nil))
		wantFiles(t, d, nil)
	}
	must(t, d.Append("a", nil), d.SyncDir())
	want(t, "a new name", d.Append("b", nil), full)
	want(t, "a name that is there", d.Append("a", []byte("x")), ok)
	wantFiles(t, d, map[string]string{"a": "x"})
}

// P11.3: a name that refers to no inode, ahead of ErrArg (R2); R5.
func TestNoSuchName(t *testing.T) {
	d := made(t, 10)
	must(t, d.Append("a", []byte("xy")), d.SyncDir(), d.Append("gone", []byte("z")), d.Remove("gone"), d.Append("c", nil), d.Rename("c", "d"))
	for _, n := range append(slices.Clone(badNames), "b", "A", "aa", "gone", "c", name(32)) {
		want(t, "Sync of "+shown(n), d.Sync(n), none)
		want(t, "Remove of "+shown(n), d.Remove(n), none)
		want(t, "Rename of "+shown(n), d.Rename(n, "a"), none)
		want(t, "Rename to itself of "+shown(n), d.Rename(n, n), none)
		for _, to := range badNames {
			want(t, "Rename of "+shown(n), d.Rename(n, to), none)
		}
		wantAbsent(t, d, n)
	}
	wantFiles(t, d, map[string]string{"a": "xy", "d": ""})
	must(t, d.Crash(3, []uint8{2}))
	wantFiles(t, d, map[string]string{"a": "xy", "c": ""})
}

// P11.3 (Sync): all bytes of one inode, those of others not.
func TestSync(t *testing.T) {
	d := made(t, 30)
	must(t, d.Append("a", []byte("12")), d.Append("b", []byte("34")), d.Append("c", nil), d.SyncDir())
	must(t, d.Sync("a"), d.Sync("c"), d.Append("a", []byte("5")), d.Append("c", []byte("6")), d.Sync("a"), d.Append("a", []byte("7")), d.Sync("c"), d.Sync("c"))
	wantFiles(t, d, map[string]string{"a": "1257", "b": "34", "c": "6"})
	must(t, d.Crash(0, nil))
	wantFiles(t, d, map[string]string{"a": "125", "b": "", "c": "6"})
}

// P11.3 (Sync): the bytes are durable, the name is not, and the inode may change its name.
func TestSyncIsOfInode(t *testing.T) {
	d := made(t, 30)
	must(t, d.Append("a", []byte("12")), d.Sync("a"), d.Rename("a", "b"), d.Append("a", []byte("34")))
	must(t, d.Crash(0, nil))
	wantFiles(t, d, nil)
	must(t, d.Append("a", []byte("12")), d.Sync("a"), d.Rename("a", "b"), d.Append("a", []byte("34")), d.Append("b", []byte("5")))
	must(t, d.Crash(3, nil))
	wantFiles(t, d, map[string]string{"a": "", "b": "12"})
}

// P11.3 (Rename)
func TestRename(t *testing.T) {
	d := made(t, 30)
	must(t, d.Append("a", []byte("12")), d.Append("b", []byte("345")), d.Append("c", nil))
	must(t, d.Rename("a", "d"))
	wantFiles(t, d, map[string]string{"b": "345", "c": "", "d": "12"})
	wantAbsent(t, d, "a")
	must(t, d.Rename("d", "b"))
	wantFiles(t, d, map[string]string{"b": "12", "c": ""})
	must(t, d.Append("b", []byte("6")), d.Rename("c", "b"))
	wantFiles(t, d, map[string]string{"b": ""})
	must(t, d.Append("b", []byte("7")), d.Rename("b", "a"), d.Append("b", []byte("8")))
	wantFiles(t, d, map[string]string{"a": "7", "b": "8"})
	for _, n := range edgeNames {
		d := made(t, 10)
		must(t, d.Append("x", []byte("y")), d.Rename("x", n))
		wantFiles(t, d, map[string]string{n: "y"})
		must(t, d.Rename(n, "x"))
		wantFiles(t, d, map[string]string{"x": "y"})
	}
}

// P11.3 (Rename): to a name that is not valid; R5.
func TestRenameToBadName(t *testing.T) {
	d := made(t, 10)
	must(t, d.Append("a", []byte("xy")), d.Append("b", []byte("z")))
	for _, n := range badNames {
		want(t, "Rename to "+shown(n), d.Rename("a", n), arg)
		wantAbsent(t, d, n)
	}
	wantFiles(t, d, map[string]string{"a": "xy", "b": "z"})
	must(t, d.Crash(2, []uint8{2, 1}))
	wantFiles(t, d, map[string]string{"a": "xy", "b": "z"})
}

// P11.3 (Rename): to itself, which is no name change.
func TestRenameToItself(t *testing.T) {
	for k, names := range [][]string{{}, {"a"}, {"a", "b"}, {}} {
		d := made(t, 10)
		must(t, d.Append("a", []byte("xy")), d.Rename("a", "a"), d.Rename("a", "a"), d.Append("b", nil), d.Rename("b", "b"))
		wantFiles(t, d, map[string]string{"a": "xy", "b": ""})
		must(t, d.Crash(uint8(k), nil))
		if l := d.List(); !slices.Equal(l, names) {
			t.Errorf("%d changes: %q, want %q", k, l, names)
		}
	}
}

// P11.3 (Remove)
func TestRemove(t *testing.T) {
	d := made(t, 10)
	must(t, d.Append("a", []byte("xy")), d.Append("b", []byte("z")), d.Remove("a"))
	wantFiles(t, d, map[string]string{"b": "z"})
	wantAbsent(t, d, "a")
	want(t, "a second Remove", d.Remove("a"), none)
	must(t, d.Append("a", []byte("q")))
	wantFiles(t, d, map[string]string{"a": "q", "b": "z"})
	must(t, d.Remove("a"), d.Remove("b"))
	wantFiles(t, d, nil)
}

// P11.3 (SyncDir): names alone; nothing is pending any more.
func TestSyncDir(t *testing.T) {
	for _, changes := range []uint8{0, 1, 2, 3, 255} {
		d := made(t, 20)
		must(t, d.SyncDir(), d.Append("a", []byte("12")), d.Append("b", []byte("34")), d.Sync("b"), d.Append("c", nil), d.Rename("c", "d"), d.Remove("a"), d.SyncDir(), d.SyncDir())
		wantFiles(t, d, map[string]string{"b": "34", "d": ""})
		must(t, d.Append("d", []byte("5")), d.Crash(changes, nil))
		wantFiles(t, d, map[string]string{"b": "34", "d": ""})
	}
}

// call is a modifying call, whatever it returns.
type call struct {
	text string
	do   func(d *disk.Disk) api.Errno
	e    api.Errno
}

// calls are modifying calls on a disk with a file a and room for some bytes more.
func calls() []call {
	return []call{
		{"Append", func(d *disk.Disk) api.Errno { return d.Append("a", []byte("1")) }, ok},
		{"Append of nothing", func(d *disk.Disk) api.Errno { return d.Append("a", nil) }, ok},
		{"Append to a new name", func(d *disk.Disk) api.Errno { return d.Append("b", []byte("2")) }, ok},
		{"Append to a name that is not valid", func(d *disk.Disk) api.Errno { return d.Append("", nil) }, arg},
		{"Append of too much", func(d *disk.Disk) api.Errno { return d.Append("a", make([]byte, 65537)) }, arg},
		{"Append without room", func(d *disk.Disk) api.Errno { return d.Append("a", make([]byte, 65536)) }, full},
		{"Sync", func(d *disk.Disk) api.Errno { return d.Sync("a") }, ok},
		{"Sync of no name", func(d *disk.Disk) api.Errno { return d.Sync("none") }, none},
		{"Rename", func(d *disk.Disk) api.Errno { return d.Rename("a", "c") }, ok},
		{"Rename to itself", func(d *disk.Disk) api.Errno { return d.Rename("c", "c") }, ok},
		{"Rename of no name", func(d *disk.Disk) api.Errno { return d.Rename("none", "") }, none},
		{"Rename to a name that is not valid", func(d *disk.Disk) api.Errno { return d.Rename("c", "") }, arg},
		{"Remove", func(d *disk.Disk) api.Errno { return d.Remove("b") }, ok},
		{"Remove of no name", func(d *disk.Disk) api.Errno { return d.Remove("none") }, none},
		{"SyncDir", func(d *disk.Disk) api.Errno { return d.SyncDir() }, ok},
	}
}

// P11.4 (Off): each modifying call is counted, whatever it returns, and each one behind these is ErrFull.
func TestOff(t *testing.T) {
	for n := range len(calls()) + 2 {
		d := made(t, 20)
		must(t, d.Append("a", []byte("0")), d.SyncDir(), d.Off(n))
		for i, c := range calls() {
			wanted := c.e
			if i >= n {
				wanted = full
			}
			want(t, fmt.Sprintf("Off(%d): %s", n, c.text), c.do(d), wanted)
		}
	}
}

// P11.4 (Off): each kind of call alone uses up one.
func TestOffCountsEach(t *testing.T) {
	for _, c := range calls() {
		d := made(t, 20)
		must(t, d.Append("a", []byte("0")), d.Append("b", nil), d.Append("c", nil), d.Off(2))
		want(t, c.text, c.do(d), c.e)
		wantLeft(t, c.text, d, 1)
	}
}

// P11.4 (Off): calls that modify nothing are not counted, and read on; ErrFull is ahead of other errors, and without effect.
func TestWhileOff(t *testing.T) {
	d := made(t, 20)
	must(t, d.Append("a", []byte("xy")), d.Append("b", []byte("z")), d.Off(1))
	for range 5 {
		wantFiles(t, d, map[string]string{"a": "xy", "b": "z"})
		wantAbsent(t, d, "c", "")
	}
	must(t, d.SyncDir())
	for _, c := range append(calls(), calls()...) {
		want(t, c.text, c.do(d), full)
		wantFiles(t, d, map[string]string{"a": "xy", "b": "z"})
		wantAbsent(t, d, "c", "")
	}
	must(t, d.Crash(1, []uint8{1}))
	wantFiles(t, d, map[string]string{"a": "x", "b": "z"})
}

// P11.4 (Off): what a call did not do while the disk was off is not seen by a Crash either.
func TestOffHasNoEffect(t *testing.T) {
	d := made(t, 20)
	must(t, d.Append("a", []byte("xy")), d.SyncDir(), d.Append("b", []byte("z")), d.Off(0))
	want(t, "Sync", d.Sync("a"), full)
	want(t, "SyncDir", d.SyncDir(), full)
	want(t, "Remove", d.Remove("a"), full)
	want(t, "Rename", d.Rename("a", "c"), full)
	want(t, "Append", d.Append("d", []byte("q")), full)
	// One change is pending, so that 2 are as good as none.
	must(t, d.Crash(2, nil))
	wantFiles(t, d, map[string]string{"a": ""})
	// The inode of d was not created: the next one is number 2.
	must(t, d.Append("e", []byte("e")), d.SyncDir(), d.Crash(0, []uint8{0, 0, 1}))
	wantFiles(t, d, map[string]string{"a": "", "e": "e"})
}

// P11.4 (Off): below 0 is ErrArg, without effect.
func TestOffBelow(t *testing.T) {
	d := made(t, 20)
	for _, n := range []int{-1, -2, math.MinInt32, math.MinInt} {
		want(t, "Off", d.Off(n), arg)
		must(t, d.Append("a", nil))
	}
	must(t, d.Off(2))
	want(t, "Off(-1)", d.Off(-1), arg)
	must(t, d.Append("a", nil))
	want(t, "Off(-1)", d.Off(-1), arg)
	must(t, d.Append("a", nil))
	want(t, "Off(-1)", d.Off(-1), arg)
	want(t, "Append", d.Append("a", nil), full)
}

// wantLeft tells whether just so many modifying calls are left.
func wantLeft(t *testing.T, text string, d *disk.Disk, n int) {
	t.Helper()
	for i := range n {
		want(t, fmt.Sprintf("%s: call %d of %d", text, i, n), d.SyncDir(), ok)
	}
	for range 3 {
		want(t, fmt.Sprintf("%s: a call behind %d", text, n), d.SyncDir(), full)
	}
}

// P11.4 (Off): another one has an effect only if it leaves fewer calls, for each number of calls between.
func TestOffTwice(t *testing.T) {
	for first := range 6 {
		for between := range first + 2 {
			for second := range 7 {
				d := made(t, 20)
				must(t, d.Off(first))
				for range between {
					d.Append("", nil)
				}
				must(t, d.Off(second))
				left := min(max(first-between, 0), second)
				wantLeft(t, fmt.Sprintf("Off(%d), %d calls, Off(%d)", first, between, second), d, left)
			}
		}
	}
}

// P11.4 (Off): greatest numbers, which no call adds up.
func TestOffMuch(t *testing.T) {
	d := made(t, 20)
	must(t, d.Off(math.MaxInt))
	for range 1000 {
		must(t, d.SyncDir())
	}
	must(t, d.Off(math.MaxInt), d.Off(math.MaxInt-999), d.Off(2), d.Off(math.MaxInt))
	wantLeft(t, "Off(2)", d, 2)
}

// P11.4 (Crash): it ends Off, is not counted by it, and what was left has no effect later.
func TestCrashEndsOff(t *testing.T) {
	for _, n := range []int{0, 1, 3} {
		d := made(t, 20)
		must(t, d.Append("a", nil), d.SyncDir(), d.Off(n), d.Crash(0, nil))
		for range 10 {
			must(t, d.Append("a", []byte("x")))
		}
		must(t, d.Off(5))
		wantLeft(t, "Off behind a Crash", d, 5)
		must(t, d.Crash(0, nil), d.Off(0))
		wantLeft(t, "Off behind another Crash", d, 0)
	}
}

// P11.4 (Crash): with nothing pending the names stay as they are.
func TestCrashWithoutChanges(t *testing.T) {
	for changes := range 256 {
		d := made(t, 20)
		must(t, d.Crash(uint8(changes), nil))
		wantFiles(t, d, nil)
		must(t, d.Append("a", []byte("xy")), d.Sync("a"), d.Append("b", nil), d.SyncDir(), d.Crash(uint8(changes), nil))
		wantFiles(t, d, map[string]string{"a": "xy", "b": ""})
		must(t, d.Crash(uint8(changes), []uint8{9}))
		wantFiles(t, d, map[string]string{"a": "xy", "b": ""})
	}
}

// P11.4 (Crash): the first ones of several changes, for every number of them; a Rename is one, of both names.
func TestCrashChanges(t *testing.T) {
	states := []map[string]string{
		{"a": "A", "b": "B"},
		{"a": "A", "b": "B", "c": "C"},
		{"b": "A", "c": "C"},
		{"b": "A", "d": "C"},
		{"d": "C"},
		{"d": "C", "b": "E"},
		{"b": "C"},
		{"b": "C", "a": "F"},
	}
	for changes := range 256 {
		d := made(t, 20)
		must(t, d.Append("a", []byte("A")), d.Append("b", []byte("B")), d.SyncDir())
		must(t, d.Append("c", []byte("C")), d.Rename("a", "b"), d.Rename("c", "d"), d.Remove("b"), d.Append("b", []byte("E")), d.Rename("d", "b"), d.Append("a", []byte("F")))
		wantFiles(t, d, states[7])
		must(t, d.Crash(uint8(changes), []uint8{1}))
		wantFiles(t, d, states[changes%8])
		// They are durable now, and nothing is pending.
		must(t, d.Crash(uint8(changes+1), nil))
		wantFiles(t, d, states[changes%8])
	}
}

// P11.4 (Crash): numbers of changes that a uint8 can't reach, and those next to them.
func TestCrashManyChanges(t *testing.T) {
	for _, pending := range []int{1, 2, 100, 253, 254, 255, 256, 257, 300, 511, 512, 1000} {
		for _, changes := range []int{0, 1, 2, 99, 100, 101, 252, 253, 254, 255} {
			d := made(t, 10)
			must(t, d.Append("0", []byte("x")), d.SyncDir())
			for i := range pending {
				must(t, d.Rename(fmt.Sprint(i), fmt.Sprint(i+1)))
			}
			wantFiles(t, d, map[string]string{fmt.Sprint(pending): "x"})
			must(t, d.Crash(uint8(changes), []uint8{1}))
			wantFiles(t, d, map[string]string{fmt.Sprint(changes % (pending + 1)): "x"})
		}
	}
}

// P11.4 (Crash): what a Crash did not apply does not come back, and what is done behind it is behind it.
func TestCrashAfterCrash(t *testing.T) {
	d := made(t, 20)
	must(t, d.Append("a", []byte("A")), d.Append("b", []byte("B")), d.Append("c", []byte("C")), d.Crash(2, []uint8{1}))
	wantFiles(t, d, map[string]string{"a": "A", "b": "B"})
	must(t, d.Append("d", []byte("D")), d.Remove("a"), d.Crash(1, []uint8{1}))
	wantFiles(t, d, map[string]string{"a": "A", "b": "B", "d": "D"})
	must(t, d.Crash(2, []uint8{1}))
	wantFiles(t, d, map[string]string{"a": "A", "b": "B", "d": "D"})
}

// P11.4 (Crash): as many bytes as cuts say, modulo.
func TestCrashCuts(t *testing.T) {
	for extra := range 6 {
		for cut := range 256 {
			d := made(t, 20)
			must(t, d.Append("a", []byte("xy")), d.Sync("a"), d.SyncDir(), d.Append("a", []byte("12345")[:extra]), d.Crash(0, []uint8{uint8(cut)}))
			kept := map[string]string{"a": "xy" + "12345"[:cut%(extra+1)]}
			wantFiles(t, d, kept)
			// All of these are durable.
			must(t, d.Append("a", []byte("z")), d.Crash(0, nil))
			wantFiles(t, d, kept)
		}
	}
}

// P11.4 (Crash): more bytes than a cut can keep.
func TestCrashManyBytes(t *testing.T) {
	r := random(3)
	for _, n := range []int{253, 254, 255, 256, 257, 1000, 65536} {
		for _, cut := range []int{0, 1, 254, 255} {
			content := r.bytes(n)
			d := made(t, 70000)
			must(t, d.Append("a", content), d.SyncDir(), d.Crash(0, []uint8{uint8(cut)}))
			wantFiles(t, d, map[string]string{"a": string(content[:cut%(n+1)])})
		}
	}
}

// P11.4 (Crash): the inodes' numbers are those of their creation; the length of cuts may be any.
func TestCrashCutsOfInodes(t *testing.T) {
	for length := range 9 {
		cuts := []uint8{3, 1, 4, 2, 5, 0, 9, 6, 7}[:length]
		d := made(t, 100)
		for _, n := range []string{"e", "c", "d", "a", "b"} {
			must(t, d.Append(n, []byte("12345")))
		}
		must(t, d.SyncDir(), d.Crash(0, cuts))
		files := map[string]string{}
		for i, n := range []string{"e", "c", "d", "a", "b"} {
			c := 0
			if length > 0 {
				c = int(cuts[i%length]) % 6
			}
			files[n] = "12345"[:c]
		}
		wantFiles(t, d, files)
	}
}

// P11.4 (Crash): an inode keeps its number, whatever becomes of its name, of those ahead of it, and of the disk.
func TestInodeNumbers(t *testing.T) {
	d := made(t, 100)
	must(t, d.Append("a", []byte("0000")), d.Append("b", []byte("1111")), d.Append("c", []byte("2222")))
	must(t, d.Remove("a"), d.Append("a", []byte("3333")), d.Rename("b", "x"), d.Rename("c", "b"), d.SyncDir())
	must(t, d.Append("lost", nil), d.Crash(0, []uint8{4, 3, 2, 1, 0}))
	wantFiles(t, d, map[string]string{"a": "3", "b": "22", "x": "111"})
	must(t, d.Append("y", []byte("5555")), d.SyncDir(), d.Append("x", []byte("11")), d.Crash(0, []uint8{4, 2, 4, 4, 4, 3, 4}))
	wantFiles(t, d, map[string]string{"a": "3", "b": "22", "x": "11111", "y": "555"})
}

// P11.4 (Crash): inodes come back with the names that they had, by Remove and by Rename, with the bytes that they have.
func TestComeBack(t *testing.T) {
	start := func() *disk.Disk {
		d := made(t, 20)
		must(t, d.Append("a", []byte("12")), d.Sync("a"), d.Append("b", []byte("34")), d.SyncDir(), d.Append("a", []byte("567")))
		return d
	}
	d := start()
	must(t, d.Remove("a"))
	wantAbsent(t, d, "a")
	must(t, d.Crash(0, []uint8{2}))
	wantFiles(t, d, map[string]string{"a": "1256", "b": "34"})
	d = start()
	must(t, d.Rename("b", "a"), d.Append("a", []byte("8")), d.Sync("a"))
	wantFiles(t, d, map[string]string{"a": "348"})
	must(t, d.Crash(0, nil))
	wantFiles(t, d, map[string]string{"a": "12", "b": "348"})
	// A new inode by the name of one that is gone is another one.
	d = start()
	must(t, d.Remove("a"), d.Append("a", []byte("9")), d.Sync("a"), d.Crash(0, nil))
	wantFiles(t, d, map[string]string{"a": "12", "b": ""})
	d = start()
	must(t, d.Remove("a"), d.Append("a", []byte("9")), d.Sync("a"), d.Crash(2, nil))
	wantFiles(t, d, map[string]string{"a": "9", "b": ""})
}

// P11.1 (Used), P11.2, P11.6: names that come back can be more than there is room for; nothing is appended then.
func TestAboveRoom(t *testing.T) {
	d := made(t, 10)
	must(t, d.Append("a", []byte("123456")), d.Sync("a"), d.SyncDir(), d.Remove("a"), d.Append("b", []byte("12345678")), d.Sync("b"), d.Rename("b", "c"), d.Crash(0, nil))
	wantFiles(t, d, map[string]string{"a": "123456"})
	must(t, d.Append("b", []byte("12")), d.SyncDir(), d.Remove("a"), d.Append("b", []byte("345678")), d.Sync("b"), d.Crash(0, nil))
	files := map[string]string{"a": "123456", "b": "12345678"}
	wantFiles(t, d, files)
	for _, n := range []string{"a", "b", "c"} {
		want(t, "Append of nothing", d.Append(n, nil), full)
		want(t, "Append", d.Append(n, []byte("x")), full)
	}
	want(t, "Append to a name that is not valid", d.Append("", nil), arg)
	wantFiles(t, d, files)
	must(t, d.Remove("a"), d.Append("b", []byte("90")))
	wantFiles(t, d, map[string]string{"b": "1234567890"})
}

// R6: a disk keeps nothing of what it was passed.
func TestPassedBytes(t *testing.T) {
	d := made(t, 20)
	b := make([]byte, 3, 10)
	copy(b, "xyz")
	must(t, d.Append("a", b), d.Append("b", b))
	if string(b) != "xyz" {
		t.Errorf("Append has changed its bytes: %q", b)
	}
	b[0] = 'q'
	_ = append(b, "more"...)
	wantFiles(t, d, map[string]string{"a": "xyz", "b": "xyz"})
	must(t, d.Append("a", []byte("1")))
	if string(b[:4]) != "qyzm" {
		t.Errorf("Append has changed what it was passed before: %q", b[:4])
	}
	cuts := []uint8{2, 200}
	must(t, d.Crash(2, cuts))
	if !bytes.Equal(cuts, []uint8{2, 200}) {
		t.Errorf("Crash has changed its cuts: %v", cuts)
	}
	cuts[0] = 0
	wantFiles(t, d, map[string]string{"a": "xy", "b": ""})
}

// R6: what was returned is not changed by later calls, nor is a disk changed through it.
func TestReturnedMemory(t *testing.T) {
	d := made(t, 20)
	must(t, d.Append("a", []byte("xyz")), d.Append("b", []byte("q")), d.SyncDir())
	b, _ := d.Read("a")
	l := d.List()
	must(t, d.Append("a", []byte("1")), d.Append("c", nil))
	if string(b) != "xyz" || !slices.Equal(l, []string{"a", "b"}) {
		t.Errorf("became %q, %q", b, l)
	}
	b[0], l[0] = 'u', "u"
	_, _ = append(b, "uuu"...), append(l[:0], "u", "u", "u")
	files := map[string]string{"a": "xyz1", "b": "q", "c": ""}
	wantFiles(t, d, files)
	wantFiles(t, d, files)
	again, _ := d.Read("a")
	other, _ := d.Read("a")
	again[1] = 'u'
	if string(other) != "xyz1" {
		t.Errorf("two results of Read share memory: %q", other)
	}
	// Bytes that a Crash has taken away may stand behind those that are left.
	must(t, d.Sync("a"), d.Append("a", []byte("23")))
	b, _ = d.Read("a")
	must(t, d.Crash(0, nil), d.Append("a", []byte("4")))
	if string(b) != "xyz123" {
		t.Errorf("became %q", b)
	}
	wantFiles(t, d, map[string]string{"a": "xyz14", "b": ""})
}

// R4: disks are apart.
func TestDisksApart(t *testing.T) {
	a, b := made(t, 5), made(t, 5)
	must(t, a.Append("a", []byte("xyz")), b.Append("a", []byte("12345")), a.SyncDir(), b.Off(0))
	must(t, a.Append("a", []byte("q")), b.Crash(0, nil))
	wantFiles(t, a, map[string]string{"a": "xyzq"})
	wantFiles(t, b, nil)
}
