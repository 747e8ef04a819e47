package dots_test

import (
	"fmt"
	"math"
	"slices"
	"testing"

	"trug/api"
	"trug/dots"
)

const (
	top    = math.MaxUint32
	maxSeq = 1048576
)

// slow is a set that is read as the chapter's words say: a list of every dot above the vector that it started from.
type slow struct {
	start api.Vec
	more  []api.Dot
}

func (s *slow) has(d api.Dot) bool {
	if d.Rep > 15 || d.Seq < 1 || d.Seq > maxSeq {
		return false
	}
	return d.Seq <= s.start[d.Rep] || slices.Contains(s.more, d)
}

func (s *slow) closed() api.Vec {
	v := s.start
	for rep := range v {
		for s.has(api.Dot{Rep: uint8(rep), Seq: v[rep] + 1}) {
			v[rep]++
		}
	}
	return v
}

func (s *slow) greatest(rep uint8) uint32 {
	n := s.start[rep]
	for _, d := range s.more {
		if d.Rep == rep && d.Seq > n {
			n = d.Seq
		}
	}
	return n
}

// above returns the dots above Closed up to the greatest one of their replica: those in the set, and those not in it.
func (s *slow) above() (loose, missing []api.Dot) {
	v := s.closed()
	for rep := range uint8(16) {
		for seq := v[rep] + 1; seq <= s.greatest(rep); seq++ {
			d := api.Dot{Rep: rep, Seq: seq}
			if s.has(d) {
				loose = append(loose, d)
			} else {
				missing = append(missing, d)
			}
		}
	}
	return loose, missing
}

func (s *slow) add(d api.Dot) api.Errno {
	switch {
	case d.Rep > 15 || d.Seq < 1 || d.Seq > maxSeq:
		return api.ErrArg
	case s.has(d):
		return api.ErrHave
	case int64(d.Seq)-int64(s.closed()[d.Rep]) > 256:
		return api.ErrFull
	}
	s.more = append(s.more, d)
	return api.OK
}

// dot and list write dots shortly.
func dot(rep uint8, seq uint32) api.Dot { return api.Dot{Rep: rep, Seq: seq} }

func list(rep uint8, seqs ...uint32) []api.Dot {
	var l []api.Dot
	for _, seq := range seqs {
		l = append(l, dot(rep, seq))
	}
	return l
}

// from returns the dots of a replica with the numbers first to last.
func from(rep uint8, first, last uint32) []api.Dot {
	var l []api.Dot
	for seq := first; seq <= last; seq++ {
		l = append(l, dot(rep, seq))
	}
	return l
}

// full is the vector of 16 times the same number.
func full(number uint32) api.Vec {
	var v api.Vec
	for i := range v {
		v[i] = number
	}
	return v
}

func made(t *testing.T, v api.Vec) *dots.Group {
	t.Helper()
	s := dots.New(v)
	if s == nil {
		t.Fatalf("New(%v) = nil", v)
	}
	return s
}

func checkAdd(t *testing.T, s *dots.Group, d api.Dot, want api.Errno) {
	t.Helper()
	if got := s.Add(d); got != want {
		t.Errorf("Add(%v) = %d, want %d", d, got, want)
	}
}

func mustAdd(t *testing.T, s *dots.Group, l ...api.Dot) {
	t.Helper()
	for _, d := range l {
		if e := s.Add(d); e != api.OK {
			t.Fatalf("Add(%v) = %d, want OK", d, e)
		}
	}
}

func checkHas(t *testing.T, s *dots.Group, want bool, l ...api.Dot) {
	t.Helper()
	for _, d := range l {
		if s.Has(d) != want {
			t.Errorf("Has(%v) = %t, want %t", d, !want, want)
		}
	}
}

// shown is the beginning of a list: some fill screens.
func shown(l []api.Dot) string {
	if len(l) > 12 {
		return fmt.Sprint(l[:12], " and ", len(l)-12, " more")
	}
	return fmt.Sprint(l)
}

func checkParts(t *testing.T, s *dots.Group, closed api.Vec, loose, missing []api.Dot) {
	t.Helper()
	if got := s.Closed(); got != closed {
		t.Errorf("Closed = %v, want %v", got, closed)
	}
	if got := s.Loose(); !slices.Equal(got, loose) {
		t.Errorf("Loose = %s, want %s", shown(got), shown(loose))
	}
	if got := s.Missing(); !slices.Equal(got, missing) {
		t.Errorf("Missing = %s, want %s", shown(got), shown(missing))
	}
}

func checkModel(t *testing.T, s *dots.Group, m *slow) {
	t.Helper()
	loose, missing := m.above()
	checkParts(t, s, m.closed(), loose, missing)
}

// invalid are dots that can't name an operation.
func invalid() []api.Dot {
	return []api.Dot{
		{}, dot(15, 0), dot(16, 0), dot(16, 1), dot(17, 1), dot(32, 1), dot(128, 1), dot(255, 1), dot(255, 0), dot(16, maxSeq),
		dot(0, maxSeq+1), dot(15, maxSeq+1), dot(16, maxSeq+1), dot(0, maxSeq+256), dot(0, 1<<31), dot(0, top), dot(15, top), dot(255, top),
	}
}

// numbers is a source of numbers without a pattern that are the same in each run.
type numbers uint64

func (x *numbers) below(n uint32) uint32 {
	*x ^= *x << 13
	*x ^= *x >> 7
	*x ^= *x << 17
	return uint32(uint64(*x) >> 20 % uint64(n))
}

func (x *numbers) shuffled(l []api.Dot) []api.Dot {
	l = slices.Clone(l)
	for i := len(l) - 1; i > 0; i-- {
		j := x.below(uint32(i + 1))
		l[i], l[j] = l[j], l[i]
	}
	return l
}

// P5.1, P5.2: the chapter's example.
func TestExample(t *testing.T) {
	s := made(t, api.Vec{2})
	checkParts(t, s, api.Vec{2}, nil, nil)
	mustAdd(t, s, dot(0, 4))
	checkParts(t, s, api.Vec{2}, list(0, 4), list(0, 3))
	mustAdd(t, s, dot(0, 3))
	checkParts(t, s, api.Vec{4}, nil, nil)
	checkHas(t, s, true, list(0, 1, 2, 3, 4)...)
	checkHas(t, s, false, dot(0, 5), dot(1, 1))
}

// P5.1 (New): the set of all dots that a vector has.
func TestNew(t *testing.T) {
	for _, v := range []api.Vec{{}, {1}, {15: 1}, {2, 1}, {maxSeq}, {15: maxSeq}, {7: maxSeq - 1}, full(1), full(maxSeq)} {
		s := made(t, v)
		checkParts(t, s, v, nil, nil)
		for rep := range uint8(16) {
			number := v[rep]
			for _, seq := range []uint32{1, 2, number - 1, number, number + 1, number + 2} {
				d := dot(rep, seq)
				checkHas(t, s, seq >= 1 && seq <= number, d)
			}
		}
	}
}

// P5.1 (New): nil unless the vector is valid for 16 replicas.
func TestNewInvalid(t *testing.T) {
	for rep := range 16 {
		for _, number := range []uint32{maxSeq + 1, maxSeq + 2, 1 << 31, top} {
			for _, v := range []api.Vec{{}, {1, 2, 3}, full(maxSeq)} {
				v[rep] = number
				if dots.New(v) != nil {
					t.Errorf("New(%v) is not nil", v)
				}
			}
		}
	}
}

// P5.1 (Add): ErrArg if the dot is not valid, ahead of ErrHave and ErrFull (R2); R5.
func TestAddInvalid(t *testing.T) {
	for _, v := range []api.Vec{{}, {2}, full(2), full(maxSeq), full(maxSeq - 1)} {
		s := made(t, v)
		for _, d := range invalid() {
			checkAdd(t, s, d, api.ErrArg)
			checkHas(t, s, false, d)
			checkParts(t, s, v, nil, nil)
		}
	}
}

// P5.1 (Add): the least and the greatest Rep and Seq are valid.
func TestAddEdges(t *testing.T) {
	for _, rep := range []uint8{0, 1, 14, 15} {
		s := made(t, api.Vec{})
		mustAdd(t, s, dot(rep, 1))
		checkHas(t, s, true, dot(rep, 1))
		checkHas(t, s, false, dot(rep, 2), dot(rep^1, 1))
		var v api.Vec
		v[rep] = maxSeq - 1
		s = made(t, v)
		mustAdd(t, s, dot(rep, maxSeq))
		v[rep] = maxSeq
		checkParts(t, s, v, nil, nil)
		checkHas(t, s, true, dot(rep, maxSeq))
		checkAdd(t, s, dot(rep, maxSeq), api.ErrHave)
		checkAdd(t, s, dot(rep, maxSeq+1), api.ErrArg)
	}
}

// P5.1 (Add): ErrHave for a dot of the vector, of the part that has closed since, and for a loose one; R5.
func TestAddHave(t *testing.T) {
	s := made(t, api.Vec{2, 0, 300})
	mustAdd(t, s, dot(0, 3), dot(0, 6), dot(0, 259), dot(1, 2))
	had := append(append(append(list(0, 1, 2, 3, 6, 259), list(1, 2)...), from(2, 1, 3)...), list(2, 299, 300)...)
	missing := append(append(list(0, 4, 5), from(0, 7, 258)...), dot(1, 1))
	for _, d := range had {
		checkHas(t, s, true, d)
		checkAdd(t, s, d, api.ErrHave)
		checkParts(t, s, api.Vec{3, 0, 300}, append(list(0, 6, 259), dot(1, 2)), missing)
	}
}

// P5.1 (Add): ErrFull for a Seq more than 256 above Closed's number for its Rep, whatever the others' numbers are; R5.
func TestAddFull(t *testing.T) {
	for _, number := range []uint32{0, 1, 2, 255, 256, 257, 65535, maxSeq - 258, maxSeq - 257} {
		for _, rep := range []uint8{0, 3, 15} {
			v := full(maxSeq / 2)
			v[rep] = number
			s := made(t, v)
			for _, seq := range []uint32{number + 257, number + 258, number + 513, maxSeq} {
				if seq > number+256 && seq <= maxSeq {
					checkAdd(t, s, dot(rep, seq), api.ErrFull)
					checkHas(t, s, false, dot(rep, seq))
					checkParts(t, s, v, nil, nil)
				}
			}
			mustAdd(t, s, dot(rep, number+256))
			checkHas(t, s, true, dot(rep, number+256))
			checkParts(t, s, v, list(rep, number+256), from(rep, number+1, number+255))
			checkAdd(t, s, dot(rep, number+257), api.ErrFull)
			checkAdd(t, s, dot(rep, number+256), api.ErrHave)
		}
	}
}

// P5.1 (Add): at the numbers next to MaxSeq no dot is full, only invalid.
func TestAddFullAtTheEnd(t *testing.T) {
	s := made(t, api.Vec{maxSeq - 256})
	checkAdd(t, s, dot(0, maxSeq+1), api.ErrArg)
	mustAdd(t, s, dot(0, maxSeq))
	checkParts(t, s, api.Vec{maxSeq - 256}, list(0, maxSeq), from(0, maxSeq-255, maxSeq-1))
}

// P5.1 (Add): what counts for ErrFull is Closed's number, which loose dots do not raise; a refused dot is accepted later.
func TestAddFullLater(t *testing.T) {
	s := made(t, api.Vec{10})
	mustAdd(t, s, dot(0, 266))
	checkAdd(t, s, dot(0, 267), api.ErrFull)
	mustAdd(t, s, dot(0, 12))
	checkAdd(t, s, dot(0, 267), api.ErrFull)
	mustAdd(t, s, dot(0, 11))
	checkAdd(t, s, dot(0, 269), api.ErrFull)
	mustAdd(t, s, dot(0, 268))
	mustAdd(t, s, dot(0, 267))
	checkParts(t, s, api.Vec{12}, from(0, 266, 268), from(0, 13, 265))
	mustAdd(t, s, from(0, 13, 265)...)
	checkParts(t, s, api.Vec{268}, nil, nil)
	checkAdd(t, s, dot(0, 525), api.ErrFull)
	mustAdd(t, s, dot(0, 524))
}

// P5.1 (Add), P5.2 (Closed): one dot closes a gap below 255 loose ones, up to MaxSeq, and another replica stays as it is.
func TestAddReachesOver(t *testing.T) {
	for _, number := range []uint32{0, 7, maxSeq / 2, maxSeq - 256} {
		s := made(t, api.Vec{5: number, 6: number})
		mustAdd(t, s, from(6, number+2, number+256)...)
		mustAdd(t, s, from(5, number+2, number+256)...)
		checkParts(t, s, api.Vec{5: number, 6: number}, append(from(5, number+2, number+256), from(6, number+2, number+256)...), append(list(5, number+1), dot(6, number+1)))
		mustAdd(t, s, dot(5, number+1))
		checkParts(t, s, api.Vec{5: number + 256, 6: number}, from(6, number+2, number+256), list(6, number+1))
		checkHas(t, s, true, from(5, number+1, number+256)...)
		for _, d := range from(5, number+1, number+256) {
			checkAdd(t, s, d, api.ErrHave)
		}
	}
}

// P5.2 (Closed): it goes on to the next gap, and no farther.
func TestAddReachesToTheNextGap(t *testing.T) {
	s := made(t, api.Vec{})
	mustAdd(t, s, dot(0, 2), dot(0, 3), dot(0, 5), dot(0, 7), dot(0, 8))
	mustAdd(t, s, dot(0, 1))
	checkParts(t, s, api.Vec{3}, list(0, 5, 7, 8), list(0, 4, 6))
	mustAdd(t, s, dot(0, 6))
	checkParts(t, s, api.Vec{3}, list(0, 5, 6, 7, 8), list(0, 4))
	mustAdd(t, s, dot(0, 4))
	checkParts(t, s, api.Vec{8}, nil, nil)
}

// P5.1 (Has): a dot that is not valid is in no set, a full one among them.
func TestHasInvalid(t *testing.T) {
	s := made(t, full(maxSeq))
	checkHas(t, s, false, invalid()...)
	s = made(t, full(maxSeq-3))
	mustAdd(t, s, dot(0, maxSeq), dot(15, maxSeq))
	checkHas(t, s, false, invalid()...)
	checkHas(t, s, true, dot(0, maxSeq), dot(15, maxSeq))
}

// P5.2 (Loose, Missing): in order of Rep, then of Seq, with gaps of all replicas, in whatever order they came.
func TestInOrder(t *testing.T) {
	x := numbers(99)
	var loose, missing []api.Dot
	for rep := range uint8(16) {
		n := uint32(rep)
		loose = append(loose, list(rep, n+2, n+3, n+7, n+256)...)
		missing = append(missing, list(rep, n+1, n+4, n+5, n+6)...)
		missing = append(missing, from(rep, n+8, n+255)...)
	}
	var v api.Vec
	for i := range v {
		v[i] = uint32(i)
	}
	backwards := slices.Clone(loose)
	slices.Reverse(backwards)
	for _, l := range [][]api.Dot{loose, backwards, x.shuffled(loose), x.shuffled(loose), x.shuffled(loose)} {
		s := made(t, v)
		mustAdd(t, s, l...)
		for range 3 {
			checkParts(t, s, v, loose, missing)
		}
	}
}

// P5.2 (Loose, Missing): Rep counts ahead of Seq, where they are at odds.
func TestRepAheadOfSeq(t *testing.T) {
	s := made(t, api.Vec{1000, 500, 0, 7})
	mustAdd(t, s, dot(3, 9), dot(2, 2), dot(0, 1003), dot(1, 502))
	checkParts(t, s, api.Vec{1000, 500, 0, 7}, []api.Dot{dot(0, 1003), dot(1, 502), dot(2, 2), dot(3, 9)}, []api.Dot{dot(0, 1001), dot(0, 1002), dot(1, 501), dot(2, 1), dot(3, 8)})
}

// P5.1, P5.2, R2, R5: many calls held against the chapter's words.
func TestAgainstSlow(t *testing.T) {
	x := numbers(4711)
	for round := range 60 {
		start := api.Vec{x.below(4), x.below(4), 9: maxSeq - x.below(40), 15: x.below(2000)}
		s, m := made(t, start), &slow{start: start}
		for range 150 {
			rep := []uint8{0, 0, 1, 9, 15, 16}[x.below(6)]
			d := dot(rep, x.below(30))
			if rep < 16 && x.below(2) == 0 {
				d.Seq = m.closed()[rep] + x.below(6)
			} else if rep < 16 && x.below(4) == 0 {
				d.Seq = m.closed()[rep] + 254 + x.below(5)
			}
			had := m.has(d)
			checkHas(t, s, had, d)
			checkAdd(t, s, d, m.add(d))
			checkHas(t, s, m.has(d), d)
			checkModel(t, s, m)
		}
		if t.Failed() {
			t.Fatalf("round %d", round)
		}
	}
}

// P5.3 (any order): every order of a few dots, all of which are accepted.
func TestEveryOrder(t *testing.T) {
	all := []api.Dot{dot(0, 3), dot(0, 4), dot(0, 6), dot(1, 1), dot(1, 3), dot(15, 256)}
	var try func(done, rest []api.Dot)
	count := 0
	try = func(done, rest []api.Dot) {
		if len(rest) == 0 {
			count++
			s := made(t, api.Vec{2})
			mustAdd(t, s, done...)
			checkParts(t, s, api.Vec{4, 1}, []api.Dot{dot(0, 6), dot(1, 3), dot(15, 256)}, append(list(0, 5), append(list(1, 2), from(15, 1, 255)...)...))
			return
		}
		for i, d := range rest {
			try(append(slices.Clone(done), d), slices.Delete(slices.Clone(rest), i, i+1))
		}
	}
	try(nil, all)
	if count != 720 {
		t.Errorf("%d orders", count)
	}
}

// P5.3 (any order): many dots within 256 of the start, of which all are accepted in any order.
func TestAnyOrder(t *testing.T) {
	x := numbers(31)
	for range 20 {
		var start api.Vec
		var l []api.Dot
		for rep := range uint8(16) {
			start[rep] = x.below(maxSeq - 256)
			for _, d := range from(rep, start[rep]+1, start[rep]+256) {
				if x.below(8) > uint32(rep)%8 || x.below(40) == 0 {
					l = append(l, d)
				}
			}
		}
		first := made(t, start)
		mustAdd(t, first, l...)
		for range 4 {
			s := made(t, start)
			mustAdd(t, s, x.shuffled(l)...)
			checkParts(t, s, first.Closed(), first.Loose(), first.Missing())
			checkHas(t, s, true, l...)
		}
	}
}

// P5.3 (any order): a set that started lower and was filled up is the same as one that started higher.
func TestStartsLower(t *testing.T) {
	low, high := made(t, api.Vec{}), made(t, api.Vec{600, 3})
	mustAdd(t, low, dot(1, 2), dot(1, 1), dot(1, 3), dot(1, 5))
	mustAdd(t, low, from(0, 1, 600)...)
	mustAdd(t, low, dot(0, 602))
	mustAdd(t, high, dot(0, 602), dot(1, 5))
	checkParts(t, low, api.Vec{600, 3}, append(list(0, 602), dot(1, 5)), append(list(0, 601), dot(1, 4)))
	checkParts(t, high, low.Closed(), low.Loose(), low.Missing())
}

// P5.4 (parts): each dot is in just one of Closed, Loose, Missing or above all of them; Has tells the first two.
func TestParts(t *testing.T) {
	x := numbers(7)
	for range 30 {
		s := made(t, api.Vec{3, 0, 8})
		for range 60 {
			s.Add(dot(uint8(x.below(3)), 1+x.below(50)))
		}
		closed, loose, missing := s.Closed(), s.Loose(), s.Missing()
		for rep := range uint8(3) {
			above := false
			for seq := uint32(60); seq >= 1; seq-- {
				d := dot(rep, seq)
				in := seq <= closed[rep]
				isLoose, isMissing := slices.Contains(loose, d), slices.Contains(missing, d)
				checkHas(t, s, in || isLoose, d)
				above = above || isLoose
				if in && (isLoose || isMissing) || isLoose && isMissing || isMissing != (above && !in && !isLoose) {
					t.Fatalf("%v: closed %t, loose %t, missing %t", d, in, isLoose, isMissing)
				}
			}
			if slices.Contains(loose, dot(rep, closed[rep]+1)) {
				t.Fatalf("Closed %v, although %d is loose", closed, closed[rep]+1)
			}
		}
	}
}

// P5.4 (parts): a set that is made of Closed and Loose is the same set; with what is Missing added, nothing is loose.
func TestMadeOfItsParts(t *testing.T) {
	x := numbers(8)
	for range 30 {
		s := made(t, api.Vec{3, 0, 8})
		for range 40 {
			s.Add(dot(uint8(x.below(4)), 1+x.below(60)))
		}
		again := made(t, s.Closed())
		mustAdd(t, again, s.Loose()...)
		checkParts(t, again, s.Closed(), s.Loose(), s.Missing())
		greatest := s.Closed()
		for _, d := range s.Loose() {
			greatest[d.Rep] = max(greatest[d.Rep], d.Seq)
		}
		mustAdd(t, s, s.Missing()...)
		checkParts(t, s, greatest, nil, nil)
	}
}

// R6: what was returned is not changed by a later Add, whether it adds loose dots or closes gaps.
func TestResultsStay(t *testing.T) {
	s := made(t, api.Vec{2})
	mustAdd(t, s, dot(0, 5), dot(0, 7), dot(1, 3))
	closed, loose, missing := s.Closed(), s.Loose(), s.Missing()
	mustAdd(t, s, dot(0, 9), dot(0, 3), dot(0, 4), dot(0, 6), dot(1, 2), dot(1, 1), dot(2, 2))
	if closed != (api.Vec{2}) {
		t.Errorf("Closed became %v", closed)
	}
	if want := append(list(0, 5, 7), dot(1, 3)); !slices.Equal(loose, want) {
		t.Errorf("Loose became %v", loose)
	}
	if want := append(list(0, 3, 4, 6), list(1, 1, 2)...); !slices.Equal(missing, want) {
		t.Errorf("Missing became %v", missing)
	}
}

// R6: what a result is changed to is not seen in the set, nor by appending to it.
func TestChangedResults(t *testing.T) {
	s := made(t, api.Vec{2})
	mustAdd(t, s, dot(0, 5), dot(0, 7), dot(1, 3))
	for range 2 {
		closed, loose, missing := s.Closed(), s.Loose(), s.Missing()
		closed[0] = 77
		for i := range loose {
			loose[i] = dot(9, 9)
		}
		for i := range missing {
			missing[i] = dot(8, 8)
		}
		_, _ = append(loose[:0], dot(3, 3)), append(missing[:0], dot(4, 4))
		checkParts(t, s, api.Vec{2}, append(list(0, 5, 7), dot(1, 3)), append(list(0, 3, 4, 6), list(1, 1, 2)...))
	}
}

// R6: the vector that New was given is not the one that Add changes; R4: sets of one vector are apart.
func TestSetsApart(t *testing.T) {
	v := api.Vec{2}
	a, b := made(t, v), made(t, v)
	mustAdd(t, a, dot(0, 3), dot(0, 9))
	if v != (api.Vec{2}) {
		t.Errorf("the vector became %v", v)
	}
	v[0] = 50
	checkParts(t, a, api.Vec{3}, list(0, 9), from(0, 4, 8))
	checkParts(t, b, api.Vec{2}, nil, nil)
}

// R7: nil, and a Group that New did not create; ErrNil comes ahead of ErrArg (R2).
func TestNotCreated(t *testing.T) {
	for _, s := range []*dots.Group{nil, {}, new(dots.Group), dots.New(full(top))} {
		for range 2 {
			for _, d := range append(invalid(), dot(0, 1), dot(0, 2), dot(15, 256), dot(3, 257), dot(15, maxSeq)) {
				checkAdd(t, s, d, api.ErrNil)
				checkHas(t, s, false, d)
			}
			checkParts(t, s, api.Vec{}, nil, nil)
		}
	}
}
