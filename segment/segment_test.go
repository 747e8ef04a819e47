package segment_test

import (
	"bytes"
	"math"
	"slices"
	"testing"

	"trug/api"
	"trug/segment"
)

// ids are numbers of segments: the least one, the largest one, and those at which the form gets longer.
var ids = []uint32{0, 1, 5, 127, 128, 300, 16383, 16384, 1 << 20, math.MaxUint16, 1 << 31, math.MaxUint32}

// flip changes each byte of b.
func flip(b []byte) {
	for i := range b {
		b[i] ^= 0xff
	}
}

// full is the vector of 16 times the same number, but for one replica's.
func full(n uint32, rep int, other uint32) api.Vec {
	var v api.Vec
	for i := range v {
		v[i] = n
	}
	v[rep] = other
	return v
}

// kinds are operations of each kind, small ones and those with the largest numbers that are valid.
func kinds() []api.Op {
	const top = math.MaxUint16
	last := api.Dot{Rep: 15, Seq: maxSeq}
	known := full(maxSeq, 15, maxSeq-1)
	return []api.Op{
		{Dot: api.Dot{Seq: 1}, Kind: api.Add, Cart: 3, Item: 4, Qty: 2, Tick: 5},
		{Dot: api.Dot{Seq: 1}, Kind: api.Add, Qty: 1},
		{Dot: api.Dot{Seq: 2}, Kind: api.Set, Cart: 3, Item: 4, Qty: 0, Tick: 6, Ctx: api.Vec{1}},
		{Dot: api.Dot{Rep: 1, Seq: 1}, Kind: api.Set, Cart: 200, Item: 300, Qty: 400, Tick: 500, Ctx: api.Vec{2}},
		{Dot: api.Dot{Rep: 1, Seq: 2}, Kind: api.Remove, Cart: 3, Item: 4, Tick: 7, Ctx: api.Vec{0, 1}},
		{Dot: api.Dot{Rep: 7, Seq: 1}, Kind: api.Out, Cart: 3, Tick: 8, Ctx: api.Vec{2, 2, 15: 1}},
		{Dot: api.Dot{Rep: 15, Seq: 1}, Kind: api.Clear, Cart: 3, Tick: 9, Ctx: api.Vec{2, 300}},
		{Dot: last, Kind: api.Add, Cart: top, Item: top, Qty: top, Tick: maxTick, Ctx: known},
		{Dot: last, Kind: api.Set, Cart: top, Item: top, Qty: top, Tick: maxTick, Ctx: known},
		{Dot: last, Kind: api.Remove, Cart: top, Item: top, Tick: maxTick, Ctx: known},
		{Dot: last, Kind: api.Out, Cart: top, Tick: maxTick, Ctx: known},
		{Dot: last, Kind: api.Clear, Cart: top, Tick: maxTick, Ctx: known},
		{Dot: api.Dot{Rep: 0, Seq: maxSeq}, Kind: api.Set, Ctx: full(0, 0, maxSeq-1)},
	}
}

// faults are operations that are not valid, each for one reason alone.
func faults() map[string]api.Op {
	add := api.Op{Dot: api.Dot{Rep: 1, Seq: 3}, Kind: api.Add, Cart: 3, Item: 4, Qty: 2, Tick: 5, Ctx: api.Vec{1, 2}}
	turned := func(turn func(o *api.Op)) api.Op {
		o := add
		turn(&o)
		return o
	}
	return map[string]api.Op{
		"nothing":                 {},
		"a replica 16":            turned(func(o *api.Op) { o.Dot.Rep = 16 }),
		"a replica 255":           turned(func(o *api.Op) { o.Dot.Rep = 255 }),
		"a number 0":              turned(func(o *api.Op) { o.Dot.Seq, o.Ctx[1] = 0, 0 }),
		"a number above MaxSeq":   turned(func(o *api.Op) { o.Dot.Seq, o.Ctx[1] = maxSeq+1, maxSeq }),
		"a Ctx that has the dot":  turned(func(o *api.Op) { o.Ctx[1] = 3 }),
		"a Ctx with a gap":        turned(func(o *api.Op) { o.Ctx[1] = 1 }),
		"a Ctx above MaxSeq":      turned(func(o *api.Op) { o.Ctx[9] = maxSeq + 1 }),
		"a Ctx of 2^32 - 1":       turned(func(o *api.Op) { o.Ctx[15] = math.MaxUint32 }),
		"a Tick above MaxTick":    turned(func(o *api.Op) { o.Tick = maxTick + 1 }),
		"a Tick of 2^32 - 1":      turned(func(o *api.Op) { o.Tick = math.MaxUint32 }),
		"no kind":                 turned(func(o *api.Op) { o.Kind = 0 }),
		"a kind 6":                turned(func(o *api.Op) { o.Kind = 6 }),
		"a kind 255":              turned(func(o *api.Op) { o.Kind = 255 }),
		"an Add of 0":             turned(func(o *api.Op) { o.Qty = 0 }),
		"a Remove of 1":           turned(func(o *api.Op) { o.Kind, o.Qty = api.Remove, 1 }),
		"a checkout of an item":   turned(func(o *api.Op) { o.Kind, o.Qty, o.Item = api.Out, 0, 1 }),
		"a checkout of a number":  turned(func(o *api.Op) { o.Kind, o.Qty, o.Item = api.Out, 1, 0 }),
		"a clearing of an item":   turned(func(o *api.Op) { o.Kind, o.Qty, o.Item = api.Clear, 0, 1 }),
		"a clearing of a number":  turned(func(o *api.Op) { o.Kind, o.Qty, o.Item = api.Clear, 1, 0 }),
		"all numbers at the most": {Dot: api.Dot{Rep: 255, Seq: math.MaxUint32}, Kind: 255, Cart: 65535, Item: 65535, Qty: 65535, Tick: math.MaxUint32, Ctx: full(math.MaxUint32, 0, math.MaxUint32)},
	}
}

// same tells whether two answers of Scan are the same (R8).
func same(a, b segment.Info) bool {
	return a.Id == b.Id && a.Sealed == b.Sealed && a.Used == b.Used && slices.Equal(a.Ops, b.Ops) && slices.Equal(a.At, b.At)
}

// zero tells whether s has zero values alone (R3).
func zero(s segment.Info) bool {
	return same(s, segment.Info{})
}

// scanned is what Scan returns for b, which it must not change.
func scanned(t *testing.T, name string, b []byte) (segment.Info, api.Errno) {
	t.Helper()
	before := bytes.Clone(b)
	s, e := segment.Scan(b)
	if !bytes.Equal(b, before) {
		t.Errorf("Scan has changed %s", name)
	}
	return s, e
}

// wantScan tells whether Scan(b) is s, and whether the chapter's words say so, too.
func wantScan(t *testing.T, name string, b []byte, s segment.Info) {
	t.Helper()
	got, e := scanned(t, name, b)
	if e != api.OK || !same(got, s) {
		t.Errorf("Scan of %s: %+v, %d, not %+v", name, got, e, s)
	}
	if slow, e := slowScan(b); e != api.OK || !same(slow, s) {
		t.Errorf("the chapter's words make of %s: %+v, %d, not %+v", name, slow, e, s)
	}
}

// wantForm tells whether Scan(b) is ErrForm, and nothing beside it.
func wantForm(t *testing.T, name string, b []byte) {
	t.Helper()
	s, e := scanned(t, name, b)
	if e != api.ErrForm || !zero(s) {
		t.Errorf("Scan of %s: %+v, %d", name, s, e)
	}
	if _, e := slowScan(b); e != api.ErrForm {
		t.Errorf("the chapter's words make of %s: %d", name, e)
	}
}

// must is b, made without an error.
func must(t *testing.T, b []byte, e api.Errno) []byte {
	t.Helper()
	if e != api.OK {
		t.Fatalf("an error: %d", e)
	}
	return b
}

// written is a segment that the package has written, and what is expected of it.
func written(t *testing.T, id uint32, ops []api.Op, sealed bool) ([]byte, segment.Info) {
	t.Helper()
	s := segment.Info{Id: id, Sealed: sealed}
	b := segment.Head(id)
	for _, o := range ops {
		s.Ops, s.At = append(s.Ops, o), append(s.At, len(b))
		r, e := segment.Record(o)
		b = append(b, must(t, r, e)...)
	}
	if sealed {
		f, e := segment.Foot(len(ops))
		b = append(b, must(t, f, e)...)
	}
	s.Used = len(b)
	return b, s
}

// P12.1, P12.2: the chapter's example.
func TestExample(t *testing.T) {
	head := segment.Head(5)
	foot, e := segment.Foot(0)
	if e != api.OK {
		t.Fatalf("Foot(0): %d", e)
	}
	wantScan(t, "a head and a foot", concat(head, foot), segment.Info{Id: 5, Sealed: true, Used: len(head) + len(foot)})
	record, e := segment.Record(kinds()[0])
	if e != api.OK {
		t.Fatalf("Record: %d", e)
	}
	half := record[:len(record)/2]
	wantScan(t, "a head and half a record", concat(head, half), segment.Info{Id: 5, Used: len(head)})
}

// P12.1 (Head), byte by byte.
func TestHead(t *testing.T) {
	for _, id := range ids {
		if b := segment.Head(id); !bytes.Equal(b, framed(numbered(1), numbered(uint64(id)))) {
			t.Errorf("Head(%d) = %x", id, b)
		}
	}
	for id, content := range map[uint32][]byte{0: {2, 1, 0}, 5: {2, 1, 5}, 300: {3, 1, 0xac, 2}, math.MaxUint32: {6, 1, 0xff, 0xff, 0xff, 0xff, 15}} {
		if b := segment.Head(id); !bytes.HasPrefix(b, content) || len(b) != len(content)+4 {
			t.Errorf("Head(%d) = %x", id, b)
		}
	}
}

// P12.1 (Record), byte by byte.
func TestRecord(t *testing.T) {
	for _, o := range kinds() {
		b, e := segment.Record(o)
		if e != api.OK || !bytes.Equal(b, framed(numbered(2), counted(encoded(o)))) {
			t.Errorf("Record(%+v) = %x, %d", o, b, e)
		}
	}
	o := api.Op{Dot: api.Dot{Rep: 1, Seq: 1}, Kind: api.Add, Cart: 300, Item: 4, Qty: 2, Tick: 5, Ctx: api.Vec{7}}
	content := []byte{13, 2, 11, 1, 1, 1, 0xac, 2, 4, 2, 5, 2, 1, 7}
	if b, e := segment.Record(o); e != api.OK || !bytes.HasPrefix(b, content) || len(b) != len(content)+4 {
		t.Errorf("Record(%+v) = %x, %d", o, b, e)
	}
}

// P12.1 (Record), R3: operations that are not valid.
func TestRecordFaults(t *testing.T) {
	for name, o := range faults() {
		if valid(o) {
			t.Errorf("an operation with %s is valid", name)
		}
		if b, e := segment.Record(o); e != api.ErrArg || len(b) != 0 {
			t.Errorf("Record of an operation with %s: %x, %d", name, b, e)
		}
	}
}

// P12.1 (Foot), byte by byte; R3.
func TestFoot(t *testing.T) {
	for _, n := range []int{0, 1, 2, 100, 127, 128, 300, 4095, 4096} {
		if b, e := segment.Foot(n); e != api.OK || !bytes.Equal(b, framed(numbered(3), numbered(uint64(n)))) {
			t.Errorf("Foot(%d) = %x, %d", n, b, e)
		}
	}
	if b, e := segment.Foot(4096); e != api.OK || !bytes.HasPrefix(b, []byte{3, 3, 0x80, 0x20}) || len(b) != 8 {
		t.Errorf("Foot(4096) = %x, %d", b, e)
	}
	for _, n := range []int{4097, 4098, 8192, 65536, 1 << 32, math.MaxInt, -1, -2, -4096, -1 << 32, math.MinInt} {
		if b, e := segment.Foot(n); e != api.ErrArg || len(b) != 0 {
			t.Errorf("Foot(%d) = %x, %d", n, b, e)
		}
	}
}

// P12.2, R3: bytes that begin with no Head, alone and with a whole segment behind them.
func TestScanNoHead(t *testing.T) {
	b, _ := written(t, 5, kinds(), true)
	one := numbered(1)
	for name, c := range map[string][]byte{
		"nothing":                             nil,
		"a byte":                              {0},
		"bytes that are no frame":             []byte("no frame at all"),
		"a length that is too long":           bytes.Repeat([]byte{0xff}, 11),
		"a frame of nothing":                  framed(),
		"a record":                            recorded(kinds()[0]),
		"a foot":                              footed(0),
		"another foot":                        footed(1),
		"a head with too few fields":          framed(one),
		"a head with too many fields":         framed(one, numbered(5), numbered(0)),
		"a head with too many numbers":        framed(one, numbered(5), numbered(5), numbered(5)),
		"a head with half a number":           framed(one, []byte{0x85}),
		"a head whose number is too long":     framed(one, []byte{0x85, 0}),
		"a head of 2^32":                      headed(1 << 32),
		"a head of 2^32 + 5":                  headed(1<<32 + 5),
		"a head of 2^63":                      headed(1 << 63),
		"a head of 2^64 - 1":                  headed(math.MaxUint64),
		"a head of bytes":                     framed(one, counted([]byte{5})),
		"a head whose kind is too long":       framed([]byte{0x81, 0}, numbered(5)),
		"a frame of kind 0":                   framed(numbered(0), numbered(5)),
		"a frame of kind 2":                   framed(numbered(2), numbered(5)),
		"a frame of kind 4":                   framed(numbered(4), numbered(5)),
		"a frame of kind 9":                   framed(numbered(9), numbered(9)),
		"a frame of kind 2^8 + 1":             framed(numbered(1<<8+1), numbered(5)),
		"a frame of kind 2^32 + 1":            framed(numbered(1<<32+1), numbered(5)),
		"a frame of the largest kind":         framed(numbered(math.MaxUint64), numbered(5)),
		"a frame of half a kind":              framed([]byte{0x81}),
		"a head behind a byte":                concat([]byte{0}, headed(5)),
		"a head behind a frame of nothing":    concat(framed(), headed(5)),
		"the fields of a head without frame":  list(1, 5),
		"a frame in a frame":                  framed(headed(5)),
		"a head whose checksum is turned":     slices.Concat(headed(5)[:6], []byte{headed(5)[6] ^ 1}),
		"a frame that is longer than allowed": framed(make([]byte, 4097)),
	} {
		wantForm(t, name, c)
		if name != "nothing" {
			wantForm(t, name+", and a segment", concat(c, b))
		}
	}
}

// P12.2: Ids.
func TestScanIds(t *testing.T) {
	for _, id := range ids {
		b := headed(uint64(id))
		wantScan(t, "a head", b, segment.Info{Id: id, Used: len(b)})
		wantScan(t, "a head, sealed", concat(b, footed(0)), segment.Info{Id: id, Sealed: true, Used: len(b) + len(footed(0))})
	}
}

// P12.2: a Head and Records, with a Foot that is right and with one that is not.
func TestScanFoot(t *testing.T) {
	for n := range len(kinds()) + 1 {
		b, s := written(t, 5, kinds()[:n], false)
		wantScan(t, "records", b, s)
		sealed := s
		sealed.Sealed, sealed.Used = true, len(b)+len(footed(n))
		wantScan(t, "records and their foot", concat(b, footed(n)), sealed)
		for _, other := range []int{0, 1, n - 1, n + 1, n + 256, n + 65536, n + 1<<32, 4096} {
			if other == n || other < 0 {
				continue
			}
			wantScan(t, "records and another foot", concat(b, footed(other)), s)
			wantScan(t, "records, another foot and theirs", concat(b, footed(other), footed(n)), s)
		}
		wantScan(t, "records and a foot of 2^64 - 1", concat(b, framed(list(3, math.MaxUint64))), s)
	}
}

// P12.2: frames that are not those of a segment end the scan; the Records behind them are not taken, nor is the Foot.
func TestScanEnds(t *testing.T) {
	two, three := numbered(2), numbered(3)
	add := kinds()[0]
	form := encoded(add)
	ends := map[string][]byte{
		"a second head":                     headed(5),
		"a second head of another number":   headed(6),
		"a frame of nothing":                framed(),
		"a record with too few fields":      framed(two),
		"a record with too many fields":     framed(two, counted(form), numbered(0)),
		"a record with two operations":      framed(two, counted(form), counted(form)),
		"a record of half an operation":     framed(two, counted(form[:len(form)/2])),
		"a record of too few bytes":         framed(two, numbered(uint64(len(form)+1)), form),
		"a record of too many bytes":        framed(two, numbered(uint64(len(form)-1)), form),
		"a record without a length":         framed(two, form),
		"a record whose length is too long": framed(two, []byte{byte(len(form)) | 128, 0}, form),
		"a record of nothing":               framed(two, counted(nil)),
		"a record of other bytes":           framed(two, counted([]byte("no operation"))),
		"a record of a number":              framed(two, numbered(0)),
		"a record with a longer number":     framed(two, counted(slices.Concat([]byte{0x80, 0}, form[1:]))),
		"a record of an operation and more": framed(two, counted(append(bytes.Clone(form), 0))),
		"a record of a replica 256":         framed(two, counted(slices.Concat(numbered(256), form[1:]))),
		"a record of a number 2^32 + 1":     framed(two, counted(slices.Concat(form[:1], numbered(1<<32+1), form[2:]))),
		"a foot with too few fields":        framed(three),
		"a foot with too many fields":       framed(three, numbered(2), numbered(2)),
		"a foot whose number is too long":   framed(three, []byte{0x82, 0}),
		"a foot of bytes":                   framed(three, counted([]byte{2})),
		"a foot of an operation":            framed(three, counted(form)),
		"a frame of kind 0":                 framed(numbered(0), numbered(2)),
		"a frame of kind 0, an operation":   framed(numbered(0), counted(form)),
		"a frame of kind 1, an operation":   framed(numbered(1), counted(form)),
		"a frame of kind 4":                 framed(numbered(4), numbered(2)),
		"a frame of kind 4, an operation":   framed(numbered(4), counted(form)),
		"a frame of kind 2^8 + 2":           framed(numbered(1<<8+2), counted(form)),
		"a frame of kind 2^32 + 2":          framed(numbered(1<<32+2), counted(form)),
		"a frame of kind 2^32 + 3":          framed(numbered(1<<32+3), numbered(2)),
		"a frame of the largest kind":       framed(numbered(math.MaxUint64), numbered(2)),
		"a kind that is too long":           framed([]byte{0x82, 0}, counted(form)),
		"a foot whose kind is too long":     framed([]byte{0x83, 0}, numbered(2)),
		"half a kind":                       framed([]byte{0x82}),
		"an operation alone":                framed(form),
		"a record's form without a frame":   concat(two, counted(form)),
		"bytes that are no frame":           {0xff, 0xff, 0xff, 0xff, 0xff, 0xff},
		"a turned record":                   slices.Concat(recorded(add)[:5], []byte{recorded(add)[5] ^ 1}, recorded(add)[6:]),
		"half a record":                     recorded(add)[:9],
		"a frame in a frame":                framed(recorded(add)),
	}
	for name, o := range faults() {
		ends["a record of an operation with "+name] = recorded(o)
	}
	for name, end := range ends {
		for n := range 3 {
			b, s := written(t, 5, kinds()[:n], false)
			wantScan(t, name, concat(b, end), s)
			wantScan(t, name+" and records", concat(b, end, recorded(add), recorded(kinds()[2]), footed(n), footed(n+2)), s)
		}
	}
}

// P12.2, P12.4: a Foot ends the scan, whatever is behind it.
func TestScanSealed(t *testing.T) {
	add := kinds()[0]
	for n := range 4 {
		b, s := written(t, 9, kinds()[:n], true)
		for name, tail := range map[string][]byte{
			"a byte":           {0},
			"a frame":          framed([]byte("a frame")),
			"an empty frame":   framed(),
			"a head":           headed(10),
			"a record":         recorded(add),
			"records":          concat(recorded(add), recorded(kinds()[2]), footed(n+2)),
			"the same foot":    footed(n),
			"the next foot":    footed(n + 1),
			"a whole segment":  b,
			"a broken segment": b[1:],
		} {
			wantScan(t, "a sealed segment and "+name, concat(b, tail), s)
		}
	}
}

// P12.2: At is where each record's frame begins in b, the records being of different lengths.
func TestScanAt(t *testing.T) {
	ops := kinds()
	b, _ := written(t, 300, ops, true)
	s, e := segment.Scan(b)
	if e != api.OK || len(s.At) != len(ops) || len(s.Ops) != len(ops) {
		t.Fatalf("Scan: %+v, %d", s, e)
	}
	for i, at := range s.At {
		if want := recorded(ops[i]); !bytes.HasPrefix(b[at:], want) {
			t.Errorf("At of record %d is %d, where %x stands", i, at, b[at:at+len(want)])
		}
	}
	if s.At[0] != len(headed(300)) {
		t.Errorf("At of the first record is %d", s.At[0])
	}
}

// many are n valid operations of a replica, one behind the other.
func many(n int) []api.Op {
	ops := make([]api.Op, n)
	for i := range ops {
		ops[i] = api.Op{Dot: api.Dot{Rep: 2, Seq: uint32(i + 1)}, Kind: api.Set, Cart: uint16(i), Item: 7, Qty: uint16(i % 3), Tick: uint32(i), Ctx: api.Vec{2: uint32(i)}}
	}
	return ops
}

// P12.2: as many operations as a Foot can tell, and one more, which none can.
func TestScanMany(t *testing.T) {
	b, s := written(t, 1, many(maxOps), true)
	wantScan(t, "4096 operations, sealed", b, s)
	b, s = written(t, 1, many(maxOps+1), false)
	wantScan(t, "4097 operations", b, s)
	wantScan(t, "4097 operations and a foot of 4096", concat(b, footed(maxOps)), s)
	wantScan(t, "4097 operations and what no foot is", concat(b, footed(maxOps+1)), s)
}

// R6: what was returned is not kept, nor is what was passed.
func TestApart(t *testing.T) {
	o := kinds()[0]
	for _, again := range []func() []byte{
		func() []byte { return segment.Head(5) },
		func() []byte { b, e := segment.Record(o); return must(t, b, e) },
		func() []byte { b, e := segment.Foot(5); return must(t, b, e) },
	} {
		before := bytes.Clone(again())
		first, second := again(), again()
		flip(first)
		if !bytes.Equal(second, before) || !bytes.Equal(again(), before) {
			t.Errorf("changing one %x changes another one", before)
		}
	}
	b, want := written(t, 5, kinds(), true)
	before := bytes.Clone(b)
	first, _ := segment.Scan(b)
	second, _ := segment.Scan(b)
	for i := range first.Ops {
		first.Ops[i], first.At[i] = api.Op{}, -1
	}
	if !bytes.Equal(b, before) {
		t.Errorf("changing what Scan returned changes its bytes")
	}
	flip(b)
	if !same(second, want) {
		t.Errorf("what Scan returned has changed: %+v", second)
	}
	wantScan(t, "the bytes as they were", before, want)
}
