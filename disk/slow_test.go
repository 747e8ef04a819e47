package disk_test

import (
	"bytes"
	"maps"

	"trug/api"
)

// file is an inode of a slow disk.
type file struct {
	bytes   []byte
	durable int
}

// slow is a disk by the chapter's words: it keeps all inodes for ever, and a copy of all names for each name change.
type slow struct {
	room   int
	inodes []*file
	// states are the durable names, and the names behind each change since.
	states []map[string]int
	off    bool
	left   int
}

func newSlow(room int) *slow {
	return &slow{room: room, states: []map[string]int{{}}}
}

// names are the names as they are.
func (s *slow) names() map[string]int {
	return s.states[len(s.states)-1]
}

// change is a copy of the names, which is there to be changed, as one name change.
func (s *slow) change() map[string]int {
	s.states = append(s.states, maps.Clone(s.names()))
	return s.names()
}

// full counts a modifying call, if it is performed.
func (s *slow) full() bool {
	if s.off && s.left == 0 {
		return true
	}
	s.left--
	return false
}

func (s *slow) used() int {
	used := 0
	for _, number := range s.names() {
		used += len(s.inodes[number].bytes)
	}
	return used
}

func (s *slow) has(name string) bool {
	_, found := s.names()[name]
	return found
}

func badName(name string) bool {
	return len(name) == 0 || len(name) > 32
}

func (s *slow) Append(name string, b []byte) api.Errno {
	switch {
	case s.full():
		return api.ErrFull
	case badName(name), len(b) > 65536:
		return api.ErrArg
	case s.used()+len(b) > s.room:
		return api.ErrFull
	case !s.has(name) && len(s.inodes) >= 4096:
		return api.ErrFull
	case !s.has(name):
		s.inodes = append(s.inodes, &file{})
		s.change()[name] = len(s.inodes) - 1
	}
	f := s.inodes[s.names()[name]]
	f.bytes = append(bytes.Clone(f.bytes), b...)
	return api.OK
}

func (s *slow) Sync(name string) api.Errno {
	switch {
	case s.full():
		return api.ErrFull
	case !s.has(name):
		return api.ErrNone
	}
	f := s.inodes[s.names()[name]]
	f.durable = len(f.bytes)
	return api.OK
}

func (s *slow) Rename(from, to string) api.Errno {
	switch {
	case s.full():
		return api.ErrFull
	case !s.has(from):
		return api.ErrNone
	case badName(to):
		return api.ErrArg
	case from == to:
		return api.OK
	}
	names := s.change()
	names[to] = names[from]
	delete(names, from)
	return api.OK
}

func (s *slow) Remove(name string) api.Errno {
	switch {
	case s.full():
		return api.ErrFull
	case !s.has(name):
		return api.ErrNone
	}
	delete(s.change(), name)
	return api.OK
}

func (s *slow) SyncDir() api.Errno {
	if s.full() {
		return api.ErrFull
	}
	s.states = s.states[len(s.states)-1:]
	return api.OK
}

func (s *slow) Off(n int) api.Errno {
	if n < 0 {
		return api.ErrArg
	}
	if !s.off || n < s.left {
		s.left = n
	}
	s.off = true
	return api.OK
}

func (s *slow) Crash(changes uint8, cuts []uint8) api.Errno {
	s.off = false
	pending := len(s.states) - 1
	s.states = []map[string]int{s.states[int(changes)%(pending+1)]}
	for i, f := range s.inodes {
		c := 0
		if len(cuts) > 0 {
			c = int(cuts[i%len(cuts)]) % (len(f.bytes) - f.durable + 1)
		}
		f.bytes = f.bytes[:f.durable+c]
		f.durable = len(f.bytes)
	}
	return api.OK
}

// files are the bytes behind each name.
func (s *slow) files() map[string]string {
	all := map[string]string{}
	for name, number := range s.names() {
		all[name] = string(s.inodes[number].bytes)
	}
	return all
}
