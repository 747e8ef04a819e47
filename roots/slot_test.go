package roots_test

import (
	"bytes"
	"math"
	"testing"

	"trug/api"
	"trug/roots"
)

// slots are some with each field at its least, at its greatest, and between, where its form gets longer.
func slots() []roots.Slot {
	const top = math.MaxUint32
	l := []roots.Slot{
		{},
		{Version: math.MaxUint64, At: top, End: top, Items: top},
		{Version: math.MaxUint64},
		{At: top},
		{End: top},
		{Items: top},
		{At: top, End: top, Items: top},
		{Version: math.MaxUint64, End: top, Items: top},
		{Version: math.MaxUint64, At: top, Items: top},
		{Version: math.MaxUint64, At: top, End: top},
		{Version: 1, At: 2, End: 3, Items: 4},
	}
	for bit := range 64 {
		low := uint32(1) << (bit % 32)
		l = append(l, roots.Slot{Version: 1 << bit, At: low, End: low + 7, Items: low ^ 1})
		l = append(l, roots.Slot{Version: 1<<bit - 1, At: low - 1, End: low, Items: low - 1})
	}
	return l
}

// P15.3: the bytes of each slot; Pick takes them for that slot, in both places.
func TestEncode(t *testing.T) {
	for _, s := range slots() {
		b := roots.Encode(s)
		if want := slowEncode(s); !bytes.Equal(b, want) {
			t.Errorf("Encode(%+v): % x, not % x", s, b, want)
		}
		picked(t, "one and nothing", b, nil, s)
		picked(t, "nothing and one", nil, b, s)
		picked(t, "one twice", b, b, s)
	}
}

// picked holds that Pick returns s, and leaves a and b as they are.
func picked(t *testing.T, what string, a, b []byte, s roots.Slot) {
	t.Helper()
	x, y := bytes.Clone(a), bytes.Clone(b)
	if got, e := roots.Pick(a, b); e != api.OK || got != s {
		t.Errorf("Pick of %s: %+v, %d, not %+v", what, got, e, s)
	}
	if !bytes.Equal(a, x) || !bytes.Equal(b, y) {
		t.Errorf("Pick of %s changes its arguments", what)
	}
}

// none holds that Pick returns ErrNone, and the zero value (R3).
func none(t *testing.T, what string, a, b []byte) {
	t.Helper()
	if s, e := roots.Pick(a, b); e != api.ErrNone || s != (roots.Slot{}) {
		t.Errorf("Pick of %s: %+v, %d", what, s, e)
	}
}

// P15.3: the slot with the greater version, a's if both are equal, whatever the other fields are.
func TestPick(t *testing.T) {
	const top = math.MaxUint32
	for i, v := range versions {
		for j, w := range versions {
			for _, x := range []uint32{0, 5, top} {
				s := roots.Slot{Version: v, At: x, End: 7, Items: x}
				other := roots.Slot{Version: w, At: top - x, End: 6, Items: top - x}
				want := s
				if j > i {
					want = other
				}
				picked(t, "two slots", roots.Encode(s), roots.Encode(other), want)
			}
		}
	}
	// A version of 0 is no less a slot than any other.
	picked(t, "a version of 0", roots.Encode(roots.Slot{At: 1}), []byte{1}, roots.Slot{At: 1})
	none(t, "nothing", nil, nil)
	none(t, "nothing", []byte{}, []byte{})
}

// faults are bytes that are no encoding of a slot, made of one with a great version.
func faults() map[string][]byte {
	s := roots.Slot{Version: 1 << 40, At: 300, End: 400, Items: 5}
	b := slowEncode(s)
	fields := list(s.Version, uint64(s.At), uint64(s.End), uint64(s.Items))
	m := map[string][]byte{
		"no byte":               {},
		"one byte":              {0},
		"a frame of nothing":    framed(nil),
		"a byte behind":         append(bytes.Clone(b), 0),
		"the slot twice":        concat(b, b),
		"a frame behind":        concat(b, framed(nil)),
		"a byte ahead":          concat([]byte{0}, b),
		"no frame":              fields,
		"a field more":          framed(list(1<<40, 300, 400, 5, 0)),
		"a field less":          framed(list(1<<40, 300, 400)),
		"one field":             framed(list(1 << 40)),
		"a byte in the frame":   framed(append(bytes.Clone(fields), 0x80)),
		"a needless byte":       framed(append(bytes.Clone(fields[:len(fields)-1]), 0x85, 0)),
		"a needless length":     summed(concat([]byte{0x80 + byte(len(fields)), 0}, fields)),
		"a length of 2^64 - 1":  concat(list(math.MaxUint64), fields, make([]byte, 20)),
		"a length above 4096":   framed(make([]byte, 4097)),
		"many fields":           framed(make([]byte, 4096)),
		"a version of 2^64":     framed(concat([]byte{0x80, 0x80, 0x80, 0x80, 0x80, 0x80, 0x80, 0x80, 0x80, 2}, list(300, 400, 5))),
		"an At of 2^32":         framed(list(1<<40, 1<<32, 400, 5)),
		"an End of 2^32":        framed(list(1<<40, 300, 1<<32, 5)),
		"Items of 2^32":         framed(list(1<<40, 300, 400, 1<<32)),
		"an At that wraps":      framed(list(1<<40, 1<<32+300, 400, 5)),
		"an End that wraps":     framed(list(1<<40, 300, 1<<32+400, 5)),
		"Items that wrap":       framed(list(1<<40, 300, 400, 1<<32+5)),
		"an At of 2^64 - 1":     framed(list(1<<40, math.MaxUint64, 400, 5)),
		"an End of 2^64 - 1":    framed(list(1<<40, 300, math.MaxUint64, 5)),
		"Items of 2^64 - 1":     framed(list(1<<40, 300, 400, math.MaxUint64)),
		"fields in byte fields": framed(concat([]byte{byte(len(fields))}, fields)),
	}
	return m
}

// P15.3: what is no encoding of a slot counts for nothing, in both places.
func TestPickFaults(t *testing.T) {
	s := roots.Slot{Version: 3, At: 4, End: 5, Items: 6}
	good := roots.Encode(s)
	for name, b := range faults() {
		picked(t, name+" in the first place", b, good, s)
		picked(t, name+" in the second place", good, b, s)
		for other, c := range faults() {
			none(t, name+" and "+other, b, c)
		}
	}
}

// P15.5: each byte of one slot changed in each of its bits, or cut away: the other one is picked, whichever of the two is newer.
func TestTorn(t *testing.T) {
	old := roots.Slot{Version: 6, At: 1000, End: 1200, Items: 40}
	young := roots.Slot{Version: 7, At: 70000, End: 80000, Items: 300}
	for _, two := range [][2]roots.Slot{{old, young}, {young, old}, {old, old}, {{}, young}, {young, {}}} {
		torn, other := roots.Encode(two[0]), roots.Encode(two[1])
		hold := func(b []byte) {
			t.Helper()
			picked(t, "a torn first slot", b, other, two[1])
			picked(t, "a torn second slot", other, b, two[1])
			none(t, "torn slots", b, b)
			none(t, "a torn slot alone", b, nil)
			none(t, "a torn slot alone", nil, b)
		}
		for i := range torn {
			hold(torn[:i])
			hold(torn[i+1:])
			hold(concat(torn[:i], torn[i+1:]))
			for bit := range 8 {
				torn[i] ^= 1 << bit
				hold(torn)
				torn[i] ^= 1 << bit
			}
		}
	}
}

// P15.5: a slot that is written over another one, but only up to some byte, counts for nothing either.
func TestTornOver(t *testing.T) {
	old := roots.Slot{Version: 6, At: 1000, End: 1200, Items: 40}
	young := roots.Slot{Version: 8, At: 1100, End: 1300, Items: 41}
	other := roots.Slot{Version: 7, At: 7, End: 7, Items: 7}
	a, b := roots.Encode(old), roots.Encode(young)
	for i := range b {
		torn := concat(b[:i], a[i:])
		if bytes.Equal(torn, b) {
			t.Fatalf("%d bytes make the whole slot", i)
		}
		picked(t, "a slot written in part", torn, roots.Encode(other), other)
		picked(t, "a slot written in part", roots.Encode(other), torn, other)
	}
}
