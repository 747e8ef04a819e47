package tree

import (
	"slices"

	"trug/page"
)

// entry is a key, and what a page has for it: a Loc in a leaf, a Kid in an inner page.
type entry struct {
	key page.Key
	loc page.Loc
	kid uint32
}

// edit changes the entries of a leaf, where at is the place of a key among them.
type edit func(leaf []entry, at int) []entry

// entriesOf are the entries of a page, which can be changed without changing the page.
func entriesOf(p page.Page) []entry {
	list := make([]entry, len(p.Keys))
	for i, k := range p.Keys {
		list[i].key = k
		if p.Leaf {
			list[i].loc = p.Locs[i]
		} else {
			list[i].kid = p.Kids[i]
		}
	}
	return list
}

// pageOf is the page that has the entries.
func pageOf(leaf bool, list []entry) page.Page {
	p := page.Page{Leaf: leaf}
	for _, x := range list {
		p.Keys = append(p.Keys, x.key)
		if leaf {
			p.Locs = append(p.Locs, x.loc)
		} else {
			p.Kids = append(p.Kids, x.kid)
		}
	}
	return p
}

// change creates a root in which the leaf where the key k belongs is changed.
func (t *Tree) change(k page.Key, how edit) {
	t.plant(t.pages[t.root].Leaf, t.changed(t.root, k, how))
}

// changed returns the entries that a page has behind a change: for one page too few, perhaps, or too many. The new pages below it are created, but not that page.
func (t *Tree) changed(number uint32, k page.Key, how edit) []entry {
	p := t.pages[number]
	if p.Leaf {
		at, _ := page.Find(p, k)
		return how(entriesOf(p), at)
	}
	first := place(p, k)
	behind := first + 1
	leaf := t.pages[p.Kids[first]].Leaf
	kid := t.changed(p.Kids[first], k, how)
	if len(kid) < fewest {
		// What is too little for a page is joined to a Kid beside it: there is one, as no inner page has less than two.
		if behind < len(p.Kids) {
			kid = append(kid, entriesOf(t.pages[p.Kids[behind]])...)
			behind++
		} else {
			first--
			kid = append(entriesOf(t.pages[p.Kids[first]]), kid...)
		}
	}
	return slices.Replace(entriesOf(p), first, behind, t.cut(leaf, kid)...)
}

// cut creates a page of the entries, or two if they are too many for one, and returns the entries of these pages in the page above.
func (t *Tree) cut(leaf bool, list []entry) []entry {
	if len(list) <= page.Most {
		return []entry{t.create(leaf, list)}
	}
	half := len(list) / 2
	return []entry{t.create(leaf, list[:half]), t.create(leaf, list[half:])}
}

// create creates a page of the entries, at least one, and returns its entry in the page above.
func (t *Tree) create(leaf bool, list []entry) entry {
	return entry{key: list[0].key, kid: t.add(leaf, list)}
}

// add creates a page of the entries, and returns its number.
func (t *Tree) add(leaf bool, list []entry) uint32 {
	t.last++
	t.pages[t.last] = pageOf(leaf, list)
	return t.last
}

// plant makes a new page the root: that of the entries, or one above it if they are too many, or the one below it if that is the only one.
func (t *Tree) plant(leaf bool, list []entry) {
	if len(list) > page.Most {
		leaf, list = false, t.cut(leaf, list)
	}
	if !leaf && len(list) == 1 {
		// The page below is new: two Kids of the root were joined to it.
		t.root = list[0].kid
	} else {
		t.root = t.add(leaf, list)
	}
	t.roots[t.root] = struct{}{}
}
