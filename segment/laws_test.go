package segment_test

import (
	"slices"
	"testing"

	"trug/api"
	"trug/segment"
)

// random is a source of numbers that are the same in every run.
type random uint64

func (r *random) next() uint64 {
	*r ^= *r << 13
	*r ^= *r >> 7
	*r ^= *r << 17
	return uint64(*r)
}

func (r *random) below(n int) int {
	return int(r.next() >> 20 % uint64(n))
}

func (r *random) bytes(n int) []byte {
	b := make([]byte, n)
	for i := range b {
		b[i] = byte(r.next() >> 24)
	}
	return b
}

// number is often small, and now and then up to most.
func (r *random) number(most int) int {
	if r.below(2) == 0 {
		return r.below(min(most, 9) + 1)
	}
	return r.below(most + 1)
}

// op is a valid operation.
func (r *random) op() api.Op {
	o := api.Op{Kind: uint8(1 + r.below(5)), Cart: uint16(r.number(65535)), Tick: uint32(r.number(maxTick))}
	for i := range r.below(17) {
		o.Ctx[i] = uint32(r.number(maxSeq - 1))
	}
	o.Dot.Rep = uint8(r.below(16))
	o.Dot.Seq = o.Ctx[o.Dot.Rep] + 1
	if o.Kind <= api.Remove {
		o.Item = uint16(r.number(65535))
	}
	if o.Kind <= api.Set {
		o.Qty = uint16(1 + r.number(65534))
	}
	return o
}

func (r *random) ops(n int) []api.Op {
	ops := make([]api.Op, n)
	for i := range ops {
		ops[i] = r.op()
	}
	return ops
}

// segment is one that the package has written, and what is expected of it.
func (r *random) segment(t *testing.T) ([]byte, segment.Info) {
	t.Helper()
	return written(t, uint32(r.next()), r.ops(r.below(12)), r.below(2) == 0)
}

// within is what is expected of the first k bytes of a segment, of which s is expected, if they have all of its head.
func within(s segment.Info, k int) segment.Info {
	if k >= s.Used {
		return s
	}
	n, used := 0, len(headed(uint64(s.Id)))
	for n < len(s.Ops) && used+len(recorded(s.Ops[n])) <= k {
		used += len(recorded(s.Ops[n]))
		n++
	}
	return segment.Info{Id: s.Id, Ops: s.Ops[:n], At: s.At[:n], Used: used}
}

// P12.3: what was written is what Scan returns.
func TestBack(t *testing.T) {
	r := random(1)
	for range 2000 {
		b, s := r.segment(t)
		wantScan(t, "a segment", b, s)
	}
}

// P12.3: of each beginning of a segment, sealed or not, exactly what is complete.
func TestBeginnings(t *testing.T) {
	r := random(2)
	check := func(b []byte, s segment.Info) {
		head := len(headed(uint64(s.Id)))
		for k := range head {
			wantForm(t, "half a head", b[:k])
		}
		for k := head; k <= len(b); k++ {
			wantScan(t, "a beginning", b[:k], within(s, k))
		}
	}
	for _, sealed := range []bool{false, true} {
		for _, n := range []int{0, 1, 2, len(kinds())} {
			check(written(t, 300, kinds()[:n], sealed))
		}
	}
	for range 60 {
		check(r.segment(t))
	}
}

// tail are bytes of some kind: others, parts of frames, turned frames.
func (r *random) tail() []byte {
	f := [][]byte{headed(uint64(r.below(300))), recorded(r.op()), footed(r.below(9)), framed(r.bytes(r.below(9)))}[r.below(4)]
	switch r.below(4) {
	case 0:
		return r.bytes(r.below(40))
	case 1:
		return f[:r.below(len(f))]
	case 2:
		f[r.below(len(f))] ^= byte(1 + r.below(255))
		return f
	}
	return slices.Concat(f[:r.below(len(f))], recorded(r.op()), footed(r.below(9)))
}

// P12.4: bytes behind a segment, which do not begin with a whole frame if it is not sealed.
func TestTail(t *testing.T) {
	r := random(3)
	tried := map[bool]int{}
	for range 5000 {
		b, s := r.segment(t)
		tail := r.tail()
		if s.Sealed && r.below(2) == 0 {
			tail = concat(recorded(r.op()), footed(len(s.Ops)), footed(len(s.Ops)+1), tail)
		}
		if _, _, whole := cut(tail); whole && !s.Sealed {
			continue
		}
		tried[s.Sealed]++
		wantScan(t, "a segment and other bytes", concat(b, tail), s)
	}
	if tried[false] < 1000 || tried[true] < 1000 {
		t.Errorf("tried %d segments that were not sealed and %d that were", tried[false], tried[true])
	}
}

// P12.4: each beginning of each frame behind a segment that is not sealed, but for the whole frame.
func TestTailBeginnings(t *testing.T) {
	b, s := written(t, 5, kinds()[:3], false)
	for _, f := range [][]byte{headed(5), recorded(kinds()[7]), footed(3), framed(make([]byte, 300))} {
		for k := range f {
			wantScan(t, "a segment and half a frame", concat(b, f[:k]), s)
		}
	}
}

// P12.2, P12.3: with one byte turned, Scan returns what is ahead of the frame in which it stands.
func TestTurned(t *testing.T) {
	for _, sealed := range []bool{false, true} {
		b, s := written(t, 300, kinds(), sealed)
		for i := range b {
			for _, turn := range []byte{1, 2, 128, 255} {
				b[i] ^= turn
				got, e := segment.Scan(b)
				slow, f := slowScan(b)
				if e != f || !same(got, slow) {
					t.Errorf("Scan with byte %d turned: %+v, %d, not %+v, %d", i, got, e, slow, f)
				}
				b[i] ^= turn
				if i < s.At[0] {
					if e != api.ErrForm || !zero(got) {
						t.Errorf("Scan with byte %d of the head turned: %+v, %d", i, got, e)
					}
				} else if e != api.OK || !same(got, within(s, i)) {
					t.Errorf("Scan with byte %d turned: %+v, %d, not %+v", i, got, e, within(s, i))
				}
			}
		}
	}
}

// frames are frames in any order, often those of a segment, now and then not even whole.
func (r *random) frames() []byte {
	b := headed(uint64(r.number(1 << 33)))
	records := 0
	for range r.below(8) {
		var f []byte
		switch r.below(12) {
		default:
			f = recorded(r.op())
			records++
		case 0:
			f = headed(uint64(r.below(3)))
		case 1:
			f = footed(max(0, records+r.below(3)-1))
		case 2:
			f = framed(list(uint64(r.below(5)), uint64(r.below(5))))
		case 3:
			o := r.op()
			o.Kind, o.Qty, o.Tick = uint8(r.below(7)), uint16(r.below(2)), o.Tick*uint32(1+r.below(3))
			f = recorded(o)
			if valid(o) {
				records++
			}
		case 4:
			f = r.tail()
		}
		b = append(b, f...)
	}
	return b
}

// P12.2 over whatever frames: they are taken as the chapter's words say. R1: no bytes make it panic.
func TestFrames(t *testing.T) {
	r := random(4)
	answers := map[api.Errno]int{}
	sealed := map[bool]int{}
	for range 20000 {
		b := r.frames()
		if r.below(20) == 0 {
			b = r.bytes(r.below(60))
		}
		got, e := scanned(t, "frames", b)
		want, f := slowScan(b)
		if e != f || !same(got, want) {
			t.Fatalf("Scan of %x: %+v, %d, not %+v, %d", b, got, e, want, f)
		}
		answers[e]++
		sealed[got.Sealed]++
	}
	if answers[api.OK] < 5000 || answers[api.ErrForm] < 500 || sealed[true] < 500 {
		t.Errorf("answers %v, sealed %v", answers, sealed)
	}
}
