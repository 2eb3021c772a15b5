package link

import (
	"sort"

	"warmpath/api"
	"warmpath/fingerprint"
	"warmpath/machine"
)

// Find returns the place whose bytes contain an address.
func Find(m api.Image, address int) (api.Place, bool) {
	if address < 0 || address >= len(m.Code) {
		return api.Place{}, false
	}
	// Of the places that begin at one address only the last one has bytes.
	return m.Places[firstFrom(m, address+1)-1], true
}

// firstFrom returns the index of the first place that begins at an address or behind it, or the number of places.
func firstFrom(m api.Image, address int) int {
	return sort.Search(len(m.Places), func(i int) bool { return m.Places[i].Address >= address })
}

// Block returns the place of a block of a function.
func Block(m api.Image, fn, block int) (api.Place, bool) {
	if fn < 0 || fn >= len(m.Entries) {
		return api.Place{}, false
	}
	// What stands ahead of the first block of a function has bytes, as no function ends with nothing: its places are those from its entry on.
	for _, place := range m.Places[firstFrom(m, m.Entries[fn]):] {
		if place.Func != fn {
			break
		}
		if place.Block == block {
			return place, true
		}
	}
	return api.Place{}, false
}

// Owner returns the function that has an address in one of its blocks.
func Owner(m api.Image, address int) (int, bool) {
	place, found := Find(m, address)
	return place.Func, found
}

// Starts returns the addresses of all instructions.
func Starts(m api.Image) []int {
	var l []int
	for at := 0; at < len(m.Code); {
		_, size, e := machine.Decode(m.Code, at)
		if e != api.OK {
			break
		}
		l = append(l, at)
		at += size
	}
	return l
}

// Print returns the fingerprint of the code of an image.
func Print(m api.Image) uint64 { return fingerprint.Bytes(m.Code) }
