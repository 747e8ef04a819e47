package roots

import (
	"bytes"

	"trug/api"
	"trug/frame"
	"trug/pack"
)

// Slot tells where an index stands among bytes: its version, the offset of its root, the offset behind all its pages, and how many items it has.
type Slot struct {
	Version        uint64
	At, End, Items uint32
}

// Encode returns the frame of the slot's fields.
func Encode(s Slot) []byte {
	w := pack.New()
	for _, n := range []uint64{s.Version, uint64(s.At), uint64(s.End), uint64(s.Items)} {
		w.Num(n)
	}
	// There is no error: four numbers have few bytes.
	fields, _ := w.All()
	encoding, _ := frame.Wrap(fields)
	return encoding
}

// Pick returns the slot with the greater version of those whose encodings a and b are.
func Pick(a, b []byte) (Slot, api.Errno) {
	s, e := decode(a)
	other, f := decode(b)
	if e != api.OK || f == api.OK && other.Version > s.Version {
		return other, f
	}
	return s, api.OK
}

// decode returns the slot whose encoding b is.
func decode(b []byte) (Slot, api.Errno) {
	fields, _, e := frame.First(b)
	if e != api.OK {
		return Slot{}, api.ErrNone
	}
	s := read(fields)
	// A field that is missing, that does not fit, or that is one too many: s has another encoding.
	if !bytes.Equal(Encode(s), b) {
		return Slot{}, api.ErrNone
	}
	return s, api.OK
}

// read makes some slot of any fields: one that its place can't hold, or that is missing, becomes another number.
func read(fields []byte) Slot {
	r := pack.Read(fields)
	// The reader keeps its first error, and each number behind it is 0.
	version, _ := r.Num()
	at, _ := r.Num()
	end, _ := r.Num()
	count, _ := r.Num()
	return Slot{Version: version, At: uint32(at), End: uint32(end), Items: uint32(count)}
}
