package predictor_test

import (
	"math"
	"math/rand"
	"slices"
	"testing"

	"warmpath/api"
	"warmpath/predictor"
)

func TestNew(t *testing.T) {
	for _, size := range []int{1, 2, 3, 7, 64, 4095, 4096} {
		l := predictor.New(size)
		if len(l) != size || slices.ContainsFunc(l, func(n int) bool { return n != 1 }) {
			t.Errorf("size %d: %v", size, l)
		}
	}
	for _, size := range []int{math.MinInt, -4096, -1, 0, 4097, 8192, 1 << 32, 1<<32 + 1, math.MaxInt} {
		if l := predictor.New(size); len(l) != 0 {
			t.Errorf("size %d: %d counters", size, len(l))
		}
	}
}

func TestNewIsNewEachTime(t *testing.T) {
	for _, size := range []int{1, 5, 4096} {
		predictor.New(size)[0] = 3
		if l := predictor.New(size); l[0] != 1 {
			t.Errorf("size %d: begins with %d", size, l[0])
		}
	}
}

// tables are all tables of small sizes.
func tables() (all [][]int) {
	last := [][]int{nil}
	for range 4 {
		var longer [][]int
		for _, l := range last {
			for count := range 4 {
				longer = append(longer, append(slices.Clone(l), count))
			}
		}
		all = append(all, longer...)
		last = longer
	}
	return all
}

// addresses are small and great ones, with all remainders modulo a size.
func addresses(size int) (all []int) {
	for i := range 3 * size {
		all = append(all, i, 1<<20+i, 1<<32+i, math.MaxInt-i)
	}
	return all
}

// predicted says by the counter of an address what is predicted.
var predicted = [4]bool{false, false, true, true}

func TestPredict(t *testing.T) {
	for _, l := range tables() {
		before := slices.Clone(l)
		for _, address := range addresses(len(l)) {
			if got, want := predictor.Predict(l, address), predicted[l[address%len(l)]]; got != want {
				t.Errorf("%v, address %d: %t", l, address, got)
			}
		}
		if !slices.Equal(l, before) {
			t.Errorf("%v was %v", l, before)
		}
	}
}

// after has what becomes of each counter, without and with a branch that is taken.
var after = [4][2]int{{0, 1}, {0, 2}, {1, 3}, {2, 3}}

func way(taken bool) int {
	if taken {
		return 1
	}
	return 0
}

func TestUpdate(t *testing.T) {
	for _, l := range tables() {
		for _, address := range addresses(len(l)) {
			for _, taken := range []bool{false, true} {
				before, want := slices.Clone(l), slices.Clone(l)
				index := address % len(l)
				want[index] = after[l[index]][way(taken)]
				if got := predictor.Update(l, address, taken); !slices.Equal(got, want) {
					t.Errorf("%v, address %d, %t: %v, not %v", l, address, taken, got, want)
				}
				if !slices.Equal(l, before) {
					t.Fatalf("%v was %v", l, before)
				}
			}
		}
	}
}

func TestGreatestTable(t *testing.T) {
	l, want := predictor.New(4096), slices.Repeat([]int{1}, 4096)
	for _, x := range []struct{ address, index int }{{0, 0}, {1, 1}, {4095, 4095}, {4096, 0}, {4097, 1}, {8190, 4094}, {math.MaxInt, 4095}, {1 << 40, 0}} {
		l = predictor.Update(l, x.address, true)
		want[x.index] = min(want[x.index]+1, 3)
		if !slices.Equal(l, want) {
			t.Errorf("address %d: counter %d is %d, not %d, or others have changed", x.address, x.index, l[x.index], want[x.index])
		}
		other := (x.index + 8) % 4096 // to this one no address belongs that is taken
		if !predictor.Predict(l, x.address) || !predictor.Predict(l, x.index) || predictor.Predict(l, other) {
			t.Errorf("address %d: predicted wrong", x.address)
		}
	}
}

func TestUpdateSharesNoMemory(t *testing.T) {
	for _, taken := range []bool{false, true} {
		whole := []int{2, 3, 0, 1, 9, 8}
		l := whole[:4]
		for address, stays := range []bool{false, taken, !taken, false} {
			got := predictor.Update(l, address, taken)
			if stays != slices.Equal(got, l) {
				t.Errorf("address %d, %t: %v", address, taken, got)
			}
			for i := range got {
				got[i] = 7
			}
			_ = append(got, 7, 7)
			if !slices.Equal(whole, []int{2, 3, 0, 1, 9, 8}) {
				t.Fatalf("address %d, %t: the argument is now %v", address, taken, whole)
			}
		}
	}
}

// branches are fetches at one address: T is a branch that is taken, N one that is not, and a digit the kind of another fetch.
func branches(address int, ways string) (l []api.Fetch) {
	for _, w := range ways {
		kind := int(w - '0')
		switch w {
		case 'T':
			kind = 1
		case 'N':
			kind = 2
		}
		l = append(l, api.Fetch{Address: address, Size: 3, Kind: kind})
	}
	return l
}

// marks has an x for each fetch that is predicted wrong, and a point for each other one.
func marks(each []bool) string {
	var b []byte
	for _, wrong := range each {
		b = append(b, ".x"[way(wrong)])
	}
	return string(b)
}

// isEach demands which fetches are predicted wrong (x), and how many, and that they stay what they are.
func isEach(t *testing.T, size int, l []api.Fetch, want string) {
	t.Helper()
	before := slices.Clone(l)
	each := predictor.Each(size, l)
	all, wrong := predictor.Count(size, l)
	got, many := marks(each), 0
	for _, x := range each {
		many += way(x)
	}
	there := 0
	for _, f := range l {
		there += way(f.Kind == 1 || f.Kind == 2)
	}
	if got != want || all != there || wrong != many {
		t.Fatalf("size %d, %v: %s, not %s; %d of %d branches, not %d of %d", size, l, got, want, wrong, all, many, there)
	}
	if !slices.Equal(l, before) {
		t.Fatalf("%v was %v", l, before)
	}
}

func TestKnownWays(t *testing.T) {
	for _, x := range []struct{ ways, want string }{
		{"", ""},
		{"T", "x"},
		{"N", "."},
		{"TTNT", "x.x."}, // the example of the chapter
		{"TTTTTTNT", "x.....x."},
		{"TTTNNTTT", "x..xxx.."},
		{"TTTNNNTT", "x..xx.xx"},
		{"NNNNTTNT", "....xxxx"},
		{"NTNT", ".x.x"},
		{"NTTN", ".xxx"},
		{"TNTN", "xxxx"},
		{"TTTTTTTTTTNNNN", "x.........xx.."},
		{"NNNNNNNNNNTTTT", "..........xx.."},
	} {
		for _, size := range []int{1, 2, 3, 64, 4096} {
			for _, address := range []int{0, 1, 63, 64, 5000, 1 << 20, math.MaxInt} {
				isEach(t, size, branches(address, x.ways), x.want)
			}
		}
	}
}

// TestAllWays has all ways of short runs, whose counter is kept by the table of this test.
func TestAllWays(t *testing.T) {
	for length := range 11 {
		for number := range 1 << length {
			ways, want, count := "", "", 1
			for i := range length {
				taken := number>>i&1 == 1
				ways += string("NT"[way(taken)])
				want += string(".x"[way(predicted[count] != taken)])
				count = after[count][way(taken)]
			}
			isEach(t, 1, branches(7, ways), want)
		}
	}
}

func TestOtherKinds(t *testing.T) {
	isEach(t, 1, branches(0, "0345"), "....")
	isEach(t, 1, branches(0, "0T34T5N0T"), ".x....x..")
	isEach(t, 1, branches(0, "T3T4T5T0N0N"), "x.......x.x")
	for _, kind := range []int{math.MinInt, -2, -1, 0, 3, 4, 5, 6, 257, 258, 1<<32 + 1, 1<<32 + 2, math.MaxInt} {
		// Between branches it changes no counter, whichever way this would be.
		other := slices.Repeat([]api.Fetch{{Address: 9, Kind: kind}}, 4)
		isEach(t, 2, other, "....")
		isEach(t, 2, slices.Concat(other, branches(9, "N"), other, branches(9, "T"), other), ".........x....")
		isEach(t, 2, slices.Concat(other, branches(9, "T"), other, branches(9, "T"), other), "....x.........")
		isEach(t, 2, slices.Concat(branches(9, "T"), other, branches(9, "N")), "x....x")
	}
}

func TestNoTable(t *testing.T) {
	for _, ways := range []string{"", "T", "N", "TTNT", "0T3N", "TTTTTNNNNN", "0345"} {
		want := ""
		for range ways {
			want += "."
		}
		isEach(t, 0, branches(4, ways), want)
	}
	if all, wrong := predictor.Count(0, branches(4, "0T3N5T")); all != 3 || wrong != 0 {
		t.Errorf("%d of %d branches", wrong, all)
	}
}

func TestNoFetches(t *testing.T) {
	for _, size := range []int{0, 1, 4096} {
		isEach(t, size, nil, "")
		isEach(t, size, []api.Fetch{}, "")
	}
}

// TestSharedCounters has branches whose addresses have one remainder, and others.
func TestSharedCounters(t *testing.T) {
	at := func(l ...[2]int) (all []api.Fetch) {
		for _, x := range l {
			all = append(all, api.Fetch{Address: x[0], Size: 1, Kind: x[1]})
		}
		return all
	}
	l := at([2]int{5, 1}, [2]int{9, 1}, [2]int{1, 2}, [2]int{6, 1}, [2]int{5, 2}, [2]int{2, 2})
	isEach(t, 4, l, "x.xxxx")
	isEach(t, 1, l, "x.x.xx")
	isEach(t, 2, l, "x.xxxx")
	isEach(t, 3, l, "xx..x.")
	isEach(t, 8, l, "xxxxx.")
	isEach(t, 4096, l, "xx.xx.")
}

// random are fetches of all kinds at some addresses.
func random(r *rand.Rand, length, places int) []api.Fetch {
	known := make([]int, places)
	for i := range known {
		known[i] = r.Int() >> r.Intn(63)
	}
	l := make([]api.Fetch, length)
	for i := range l {
		l[i] = api.Fetch{Address: known[r.Intn(places)], Size: r.Int(), Kind: r.Intn(7) - 1}
		if r.Intn(3) > 0 {
			l[i].Kind = 1 + r.Intn(2)
		}
	}
	return l
}

// read is which fetches are predicted wrong, by the words of the chapter, with counters that are kept by remainder.
func read(size int, l []api.Fetch) string {
	want, counts := make([]bool, len(l)), map[int]int{}
	for i := range size {
		counts[i] = 1
	}
	for i, f := range l {
		if size == 0 || f.Kind != 1 && f.Kind != 2 {
			continue
		}
		of, taken := f.Address%size, f.Kind == 1
		want[i] = (counts[of] >= 2) != taken
		switch {
		case taken && counts[of] < 3:
			counts[of]++
		case !taken && counts[of] > 0:
			counts[of]--
		}
	}
	return marks(want)
}

func TestRandom(t *testing.T) {
	r := rand.New(rand.NewSource(1))
	for range 4000 {
		size := r.Intn(20)
		if r.Intn(10) == 0 {
			size = r.Intn(api.MaxPredict + 1)
		}
		l := random(r, r.Intn(60), 1+r.Intn(12))
		isEach(t, size, l, read(size, l))
	}
}

// TestByTables goes through fetches with New, Predict and Update, as the chapter says it.
func TestByTables(t *testing.T) {
	r := rand.New(rand.NewSource(2))
	for range 1000 {
		size := 1 + r.Intn(30)
		l := random(r, r.Intn(60), 1+r.Intn(12))
		table, want := predictor.New(size), make([]bool, len(l))
		for i, f := range l {
			if taken := f.Kind == 1; taken || f.Kind == 2 {
				want[i] = predictor.Predict(table, f.Address) != taken
				table = predictor.Update(table, f.Address, taken)
			}
		}
		isEach(t, size, l, marks(want))
	}
}

// TestLongRun has as many fetches as a trace, and the greatest table.
func TestLongRun(t *testing.T) {
	r := rand.New(rand.NewSource(3))
	l := random(r, api.MaxTrace, 10000)
	isEach(t, api.MaxPredict, l, read(api.MaxPredict, l))
}

// TestSteadyBranches has branches that always go one way, at addresses with different remainders: each is wrong at most twice.
func TestSteadyBranches(t *testing.T) {
	r := rand.New(rand.NewSource(4))
	for range 300 {
		size := 1 + r.Intn(16)
		var l []api.Fetch
		for range 200 {
			of := r.Intn(size)
			l = append(l, api.Fetch{Address: of + 1000*size, Size: 3, Kind: 1 + of%2})
		}
		wrong := map[int]int{}
		for i, x := range predictor.Each(size, l) {
			wrong[l[i].Address] += way(x)
		}
		for address, many := range wrong {
			if many > 2 {
				t.Errorf("size %d, address %d: %d times wrong", size, address, many)
			}
		}
		if all, many := predictor.Count(size, l); many > all || all != len(l) {
			t.Errorf("size %d: %d of %d branches", size, many, all)
		}
	}
}

// TestSameAgain has the same fetches again: nothing is kept from call to call, and results share no memory.
func TestSameAgain(t *testing.T) {
	l := branches(3, "TTNTNNTT")
	for range 3 {
		isEach(t, 2, l, "x.x.xxx.")
		each := predictor.Each(2, l)
		for i := range each {
			each[i] = true
		}
	}
}
