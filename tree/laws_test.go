package tree_test

import (
	"math"
	"slices"
	"testing"

	"trug/api"
	"trug/page"
	"trug/tree"
)

// random is a source of numbers that are the same in every run.
type random uint64

func (r *random) next() uint64 {
	*r ^= *r << 13
	*r ^= *r >> 7
	*r ^= *r << 17
	return uint64(*r)
}

func (r *random) below(n int) int {
	return int(r.next() >> 20 % uint64(n))
}

// P14.5, P14.6: up to all 4096 items and back to none; rising drops the least item each time, falling puts a new least one.
func TestWhole(t *testing.T) {
	for name, numbers := range map[string][]int{"rising": rising(4096), "falling": falling(4096), "mixed": mixed(4096, 18)} {
		t.Run(name, func(t *testing.T) {
			t.Parallel()
			r := newRig(t)
			for i, n := range numbers {
				r.put(item(n))
				r.rest(i)
			}
			if e := r.put(tree.Item{}); e != api.ErrFull {
				t.Fatalf("Put of one more: %d", e)
			}
			for i, n := range numbers {
				r.drop(item(n).Key)
				r.rest(i)
			}
			r.trim()
			r.all()
			if len(r.pages) != 1 {
				t.Errorf("%d pages behind all", len(r.pages))
			}
		})
	}
}

// rest holds, now and then, all roots against what they were, and trims.
func (r *rig) rest(i int) {
	r.Helper()
	if i%256 != 255 {
		return
	}
	for _, s := range r.states {
		r.same(s)
	}
	r.trim()
}

// P14.6: each root keeps its items, over a long row without any Trim.
func TestOldRoots(t *testing.T) {
	r := filled(t, mixed(700, 12))
	for _, n := range mixed(700, 13) {
		r.drop(item(n).Key)
	}
	r.all()
	if len(r.states) != 1401 {
		t.Errorf("%d roots", len(r.states))
	}
}

// P14.1 to P14.6: calls of all kinds in no order, with few keys or many.
func TestCalls(t *testing.T) {
	for seed := range 60 {
		s := random(seed + 1)
		r := newRig(t)
		answers := map[api.Errno]int{}
		keys := 4 << (seed % 8)
		for i := range 1500 {
			x := item(s.below(keys))
			x.Loc.Seg = uint32(i)
			other := item(s.below(keys))
			// Now the tree grows, now it shrinks.
			puts := 4 + 3*(i/300%2)
			switch c := s.below(200); {
			case c == 0:
				r.trim()
			case c == 1:
				r.all()
			case c < 10:
				r.read(x.Key, other.Key)
				r.get(x.Key)
			case c < 20:
				r.same(r.states[s.below(len(r.states))])
			case c%10 < puts:
				answers[r.put(x)]++
			default:
				answers[r.drop(x.Key)]++
			}
		}
		r.all()
		if answers[api.OK] < 100 || answers[api.ErrHave] == 0 || answers[api.ErrNone] == 0 {
			t.Errorf("%d keys: answers %v", keys, answers)
		}
	}
}

// R4: the same calls on another tree have the same answers.
func TestAlike(t *testing.T) {
	a, b := tree.New(), tree.New()
	s := random(14)
	for range 1000 {
		x := item(s.below(200))
		if s.below(3) > 0 {
			if e, f := a.Put(x), b.Put(x); e != f {
				t.Fatalf("Put: %d, %d", e, f)
			}
		} else if e, f := a.Drop(x.Key), b.Drop(x.Key); e != f {
			t.Fatalf("Drop: %d, %d", e, f)
		}
		if a.Root() != b.Root() || s.below(50) == 0 && a.Trim() != b.Trim() {
			t.Fatalf("Root: %d, %d, or Trim", a.Root(), b.Root())
		}
		p, _ := a.Pages(a.Root())
		q, _ := b.Pages(b.Root())
		if !slices.EqualFunc(p, q, same) {
			t.Fatalf("Pages: %+v, %+v", p, q)
		}
	}
}

// R6: changing what was returned changes nothing else.
func TestApart(t *testing.T) {
	for _, n := range []int{1, 8, 9, 30, 100} {
		r := filled(t, mixed(n, 15))
		for _, i := range mixed(n, 16)[:n/2] {
			r.drop(item(i).Key)
		}
		for _, s := range r.states {
			pages, _ := r.x.Pages(s.root)
			again, _ := r.x.Pages(s.root)
			for _, p := range pages {
				turn(p)
			}
			pages, _ = r.x.Pages(s.root)
			if !slices.EqualFunc(again, pages, same) {
				t.Fatalf("changing the pages of %d changes those of another call", s.root)
			}
			l, _ := r.x.At(s.root)
			clear(l)
		}
		clear(r.x.Range(least, greatest))
		r.all()
		r.put(tree.Item{Key: greatest})
		r.drop(least)
		r.all()
	}
}

// turn changes all keys, Locs and Kids of p.
func turn(p page.Page) {
	for i := range p.Keys {
		p.Keys[i] = key(^p.Keys[i].Cart, 7, 7)
	}
	for i := range p.Locs {
		p.Locs[i] = page.Loc{Seg: ^p.Locs[i].Seg, At: 7}
	}
	for i := range p.Kids {
		p.Kids[i] = ^p.Kids[i]
	}
}

// R6: the lists of a page do not reach into each other, nor into those of another page, of the same answer or of another one.
func TestAppend(t *testing.T) {
	r := filled(t, mixed(100, 17))
	root := r.x.Root()
	want, _ := r.x.Pages(root)
	for i := range want {
		pages, _ := r.x.Pages(root)
		other, _ := r.x.Pages(root)
		p := pages[i]
		for range 10 {
			p.Keys = append(p.Keys, greatest)
			p.Locs = append(p.Locs, page.Loc{Seg: 1, At: 1})
			p.Kids = append(p.Kids, math.MaxUint32)
		}
		_ = append(pages[:i], page.Page{})
		pages[i] = want[i]
		if !slices.EqualFunc(pages, want, same) || !slices.EqualFunc(other, want, same) {
			t.Fatalf("appending to page %d changes something else", i)
		}
	}
	l, _ := r.x.At(root)
	_ = append(l[:50], tree.Item{})
	_ = append(r.x.Range(least, greatest)[:50], tree.Item{})
	r.all()
}
