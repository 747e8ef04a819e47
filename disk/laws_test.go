package disk_test

import (
	"fmt"
	"maps"
	"slices"
	"strings"
	"testing"

	"trug/api"
	"trug/disk"
)

// step is a call with its arguments, for a disk and for a slow one.
type step struct {
	what    string
	name    string
	to      string
	b       []byte
	n       int
	changes uint8
	cuts    []uint8
}

// device is what a disk and a slow one have in common.
type device interface {
	Append(name string, b []byte) api.Errno
	Sync(name string) api.Errno
	Rename(from, to string) api.Errno
	Remove(name string) api.Errno
	SyncDir() api.Errno
	Off(n int) api.Errno
	Crash(changes uint8, cuts []uint8) api.Errno
}

func (s step) do(d device) api.Errno {
	switch s.what {
	case "Append":
		return d.Append(s.name, s.b)
	case "Sync":
		return d.Sync(s.name)
	case "Rename":
		return d.Rename(s.name, s.to)
	case "Remove":
		return d.Remove(s.name)
	case "SyncDir":
		return d.SyncDir()
	case "Off":
		return d.Off(s.n)
	}
	return d.Crash(s.changes, s.cuts)
}

func (s step) String() string {
	return fmt.Sprintf("%s %s %s, %d bytes, %d, %d, %v", s.what, shown(s.name), shown(s.to), len(s.b), s.n, s.changes, s.cuts)
}

// some is a name of a few: now and then one that is not valid.
func (r *random) some() string {
	if r.below(20) == 0 {
		return badNames[r.below(len(badNames))]
	}
	return []string{"a", "b", "c", "d", "\xff", name(32)}[r.below(6)]
}

// step is a call with arguments that are often the edges of those that a disk with some room takes.
func (r *random) step(room int) step {
	s := step{name: r.some(), to: r.some(), n: r.below(40) - 1, changes: uint8(r.below(1 << (1 + r.below(8))))}
	kinds := []string{"Append", "Append", "Append", "Append", "Sync", "Rename", "Rename", "Remove", "SyncDir"}
	s.what = kinds[r.below(len(kinds))]
	switch r.below(30) {
	case 0:
		s.what = "Off"
	case 1, 2:
		s.what = "Crash"
		s.cuts = r.bytes(r.below(6))
		if r.below(2) == 0 {
			for i := range s.cuts {
				s.cuts[i] %= 8
			}
		}
	}
	if s.what == "Append" {
		s.b = r.bytes(r.below(1 + r.below(1+min(room, 65536))))
		if r.below(100) == 0 {
			s.b = r.bytes(65536 + r.below(2))
		}
	}
	return s
}

// P11.1 to P11.4, R2, R3, R5: many sequences of calls, held against the chapter's words behind each call.
func TestAgainstSlow(t *testing.T) {
	r := random(4711)
	for round := range 400 {
		room := []int{1, 2, 5, 10, 30, 100, 1000}[r.below(7)]
		d, s := made(t, room), newSlow(room)
		var done []string
		for range 150 {
			x := r.step(room)
			done = append(done, x.String())
			before := s.files()
			e, wanted := x.do(d), x.do(s)
			if e != wanted {
				t.Errorf("error %d, want %d", e, wanted)
			}
			if e != ok && !maps.Equal(before, s.files()) {
				t.Errorf("a call with an error has changed the slow disk")
			}
			wantFiles(t, d, s.files())
			for _, n := range append([]string{"a", "b", "c", "d", "\xff", name(32)}, badNames...) {
				if !s.has(n) {
					wantAbsent(t, d, n)
				}
			}
			if t.Failed() {
				t.Fatalf("round %d, room %d:\n%s", round, room, strings.Join(done, "\n"))
			}
		}
	}
}

// P11.4: long sequences between two crashes, so that there are more changes than a uint8 can tell.
func TestAgainstSlowLong(t *testing.T) {
	r := random(4712)
	for range 20 {
		d, s := made(t, 1000), newSlow(1000)
		for range 3000 {
			x := r.step(20)
			if x.what == "Off" || x.what == "SyncDir" && r.below(100) > 0 || x.what == "Crash" && r.below(50) > 0 {
				continue
			}
			if x.what == "Crash" {
				x.changes = uint8(r.below(256))
			}
			want(t, x.String(), x.do(d), x.do(s))
			wantFiles(t, d, s.files())
			if t.Failed() {
				t.FailNow()
			}
		}
	}
}

// P11.6 (room): after an Append that returns OK, Used is not above room.
func TestRoom(t *testing.T) {
	r := random(5)
	above := 0
	for range 1000 {
		room := 1 + r.below(30)
		d := made(t, room)
		for range 200 {
			x := r.step(room)
			if x.what == "Off" {
				continue
			}
			e := x.do(d)
			if x.what == "Append" && e == ok && d.Used() > room {
				t.Fatalf("Used %d behind %s, with room %d", d.Used(), x, room)
			}
			if d.Used() > room {
				above++
			}
		}
	}
	if above == 0 {
		t.Error("no Crash has brought names back above the room: the sequences are too tame")
	}
}

// watch knows of each name what P11.5 says, from the calls alone.
type watch struct {
	// safe has the bytes that were synced, of each file that is there.
	safe map[string]string
	// still has the names that were durable, and have not been changed since.
	still map[string]bool
	// written has all that the files had since the last Crash, by the first bytes that make each of them known.
	written map[string]string
}

// mark is how many bytes a file of these tests begins with that no other file begins with.
const mark = 4

// see takes note of a call that has returned OK.
func (w *watch) see(d *disk.Disk, x step, wasThere bool) {
	switch x.what {
	case "Append":
		if !wasThere {
			w.still[x.name] = false
			delete(w.safe, x.name)
		}
		b, _ := d.Read(x.name)
		w.written[string(b[:mark])] = string(b)
	case "Sync":
		b, _ := d.Read(x.name)
		w.safe[x.name] = string(b)
	case "Rename":
		if x.name == x.to {
			return
		}
		w.still[x.name], w.still[x.to] = false, false
		w.safe[x.to] = w.safe[x.name]
		delete(w.safe, x.name)
	case "Remove":
		w.still[x.name] = false
		delete(w.safe, x.name)
	case "SyncDir":
		for _, n := range d.List() {
			w.still[n] = true
		}
	}
}

// check tells whether what a Crash has left is what P11.5 says, and begins anew.
func (w *watch) check(t *testing.T, d *disk.Disk) {
	t.Helper()
	for n, still := range w.still {
		b, e := d.Read(n)
		if still && (e != ok || !strings.HasPrefix(string(b), w.safe[n])) {
			t.Errorf("%q is %q, error %d: %q was safe", n, b, e, w.safe[n])
		}
	}
	safe, still, written := map[string]string{}, map[string]bool{}, map[string]string{}
	for _, n := range d.List() {
		b, _ := d.Read(n)
		first := string(b[:min(mark, len(b))])
		prefix := func(all string) bool { return strings.HasPrefix(all, string(b)) }
		if len(b) >= mark && !prefix(w.written[first]) || !slices.ContainsFunc(slices.Collect(maps.Values(w.written)), prefix) {
			t.Errorf("%q is %q, which is a prefix of no file", n, b)
		}
		safe[n], still[n], written[first] = string(b), true, string(b)
	}
	w.safe, w.still, w.written = safe, still, written
}

// P11.5 (safe): what was synced in a file whose name is durable stays, and what a Crash leaves is a prefix.
func TestSafe(t *testing.T) {
	r := random(6)
	kept := 0
	for range 1000 {
		d := made(t, 1<<16)
		w := &watch{map[string]string{}, map[string]bool{}, map[string]string{}}
		files := 0
		for range 200 {
			x := r.step(20)
			_, e := d.Read(x.name)
			if x.what == "Append" && e != ok {
				files++
				x.b = append([]byte(fmt.Sprintf("%0*d", mark, files)), x.b...)
			}
			if x.what == "Append" && e == ok {
				// A file that a Crash has left without its mark gets one of its own.
				if b, _ := d.Read(x.name); len(b) < mark {
					continue
				}
			}
			if x.do(d) != ok {
				continue
			}
			w.see(d, x, e == ok)
			if x.what == "Crash" {
				for n, s := range w.safe {
					if w.still[n] && s != "" {
						kept++
					}
				}
				w.check(t, d)
			}
			if t.Failed() {
				t.FailNow()
			}
		}
	}
	if kept < 1000 {
		t.Errorf("only %d files were safe: the sequences are too tame", kept)
	}
}

// P11.5 (safe): a safe file's bytes, for every number of changes and many cuts, whatever happens to other names.
func TestSafeWhateverCrash(t *testing.T) {
	for changes := range 256 {
		for _, cuts := range [][]uint8{nil, {0}, {1}, {255}, {0, 1}, {7, 0, 200}} {
			d := made(t, 100)
			must(t, d.Append("a", []byte("safe")), d.Sync("a"), d.Append("b", []byte("b")), d.SyncDir(), d.Append("a", []byte("12345")))
			must(t, d.Rename("b", "c"), d.Append("b", nil), d.Remove("c"), d.Append("d", []byte("d")), d.Rename("d", "b"), d.Crash(uint8(changes), cuts))
			b, e := d.Read("a")
			if e != ok || len(b) < 4 || !strings.HasPrefix("safe12345", string(b)) {
				t.Fatalf("Crash(%d, %v): %q, error %d", changes, cuts, b, e)
			}
		}
	}
}
