package link_test

import (
	"fmt"
	"slices"
	"testing"

	"warmpath/api"
	"warmpath/link"
	"warmpath/machine"
	"warmpath/selecting"
)

// sizes are how many bytes the functions of a program take, by number.
func sizes(p api.Program, l api.Layout) (all []int) {
	for i, f := range p.Funcs {
		all = append(all, selecting.Size(f, l.Blocks[i]))
	}
	return all
}

// expected is the image of which the words of P14.2 speak: the entry of a function is what all those take that are ahead of it.
func expected(t *testing.T, p api.Program, l api.Layout) api.Image {
	t.Helper()
	m := api.Image{Callable: p.Callable, Counters: p.Counters, Globals: p.Globals}
	all := sizes(p, l)
	for i, f := range p.Funcs {
		entry := 0
		for _, ahead := range l.Funcs[:slices.Index(l.Funcs, i)] {
			entry += all[ahead]
		}
		m.Entries, m.Params, m.Frames = append(m.Entries, entry), append(m.Params, f.Params), append(m.Frames, f.Regs)
	}
	for _, i := range l.Funcs {
		codes, starts, e := selecting.Select(p.Funcs[i], l.Blocks[i])
		if e != api.OK {
			t.Fatalf("error %d of selecting.Select", e)
		}
		at := len(m.Code)
		for _, c := range codes {
			if c.Op == api.CodeCall {
				c.Value = m.Entries[c.Value]
			}
			b, e := machine.Encode(c)
			if e != api.OK {
				t.Fatalf("%v: error %d of machine.Encode", c, e)
			}
			m.Code = append(m.Code, b...)
		}
		for k, b := range l.Blocks[i] {
			end := len(m.Code)
			if k+1 < len(starts) {
				end = at + starts[k+1]
			}
			m.Places = append(m.Places, api.Place{Func: i, Block: b, Address: at + starts[k], Size: end - at - starts[k]})
		}
	}
	return m
}

func sameImage(a, b api.Image) bool {
	return slices.Equal(a.Code, b.Code) && slices.Equal(a.Entries, b.Entries) && slices.Equal(a.Params, b.Params) && slices.Equal(a.Frames, b.Frames) &&
		a.Callable == b.Callable && a.Counters == b.Counters && slices.Equal(a.Globals, b.Globals) && slices.Equal(a.Places, b.Places)
}

// isLinked demands the image that Link returns, and that it leaves its arguments as they are.
func isLinked(t *testing.T, p api.Program, l api.Layout, want api.Image) {
	t.Helper()
	isExpected(t, p)
	before := fmt.Sprint(p, l)
	m, e := link.Link(p, l)
	if e != api.OK || !sameImage(m, want) {
		t.Fatalf("%s: %v, error %d, not %v", before, m, e, want)
	}
	if e := link.Check(p, l); e != api.OK {
		t.Errorf("%s: error %d of Check", before, e)
	}
	if after := fmt.Sprint(p, l); after != before {
		t.Errorf("%s, not %s", after, before)
	}
}

// isRefused demands an error of Link, and the one of Check.
func isRefused(t *testing.T, p api.Program, l api.Layout, ofLink, ofCheck api.Errno) {
	t.Helper()
	isExpected(t, p)
	if m, e := link.Link(p, l); e != ofLink || !sameImage(m, api.Image{}) {
		t.Errorf("%v: %d places, error %d, not %d", l, len(m.Places), e, ofLink)
	}
	if e := link.Check(p, l); e != ofCheck {
		t.Errorf("%v: error %d of Check, not %d", l, e, ofCheck)
	}
}

// holder is what P14.3 says of an address: the one place whose bytes contain it.
func holder(t *testing.T, m api.Image, address int) (found api.Place, ok bool) {
	t.Helper()
	for _, x := range m.Places {
		if address >= x.Address && address-x.Address < x.Size {
			if ok {
				t.Fatalf("the address %d lies in two of %v", address, m.Places)
			}
			found, ok = x, true
		}
	}
	return found, ok
}

// isSearched demands what is found at each address, and of each block, of an image.
func isSearched(t *testing.T, m api.Image) {
	t.Helper()
	before := fmt.Sprint(m)
	addresses := []int{smallest, smallest + 1, greatest - 1, greatest, -1 << 32, 1 << 32}
	for a := -3; a < len(m.Code)+4; a++ {
		addresses = append(addresses, a)
	}
	for _, a := range addresses {
		want, has := holder(t, m, a)
		if has != (a >= 0 && a < len(m.Code)) {
			t.Fatalf("the address %d of %d bytes: %t", a, len(m.Code), has)
		}
		got, ok := link.Find(m, a)
		owner, owned := link.Owner(m, a)
		if got != want || ok != has || owner != want.Func || owned != has {
			t.Fatalf("the address %d of %v: %v, %t, owner %d, %t", a, m.Places, got, ok, owner, owned)
		}
	}
	isSearchedByBlock(t, m)
	if after := fmt.Sprint(m); after != before {
		t.Errorf("%s, not %s", after, before)
	}
}

func isSearchedByBlock(t *testing.T, m api.Image) {
	t.Helper()
	numbers := []int{smallest, -2, -1, 1 << 32, greatest - 1, greatest}
	for i := range len(m.Places) + 3 {
		numbers = append(numbers, i)
	}
	found := 0
	for _, f := range numbers {
		for _, b := range numbers {
			var want api.Place
			i := slices.IndexFunc(m.Places, func(x api.Place) bool { return x.Func == f && x.Block == b })
			if i >= 0 {
				want, found = m.Places[i], found+1
			}
			if got, ok := link.Block(m, f, b); got != want || ok != (i >= 0) {
				t.Fatalf("block %d of function %d of %v: %v, %t", b, f, m.Places, got, ok)
			}
		}
	}
	if found != len(m.Places) {
		t.Errorf("%d of %d places found", found, len(m.Places))
	}
}
