package fingerprint

import (
	"bytes"
	"math"
	"math/big"
	"math/rand"
	"slices"
	"testing"
)

// modulo is the residue of a number modulo 2^64.
func modulo(n *big.Int) uint64 {
	return new(big.Int).And(n, new(big.Int).SetUint64(math.MaxUint64)).Uint64()
}

// product is a product modulo 2^64.
func product(a, b uint64) uint64 {
	return modulo(new(big.Int).Mul(new(big.Int).SetUint64(a), new(big.Int).SetUint64(b)))
}

// inverse is the number whose product with an odd number is 1 modulo 2^64.
func inverse(n uint64) uint64 {
	whole := new(big.Int).Lsh(big.NewInt(1), 64)
	return new(big.Int).ModInverse(new(big.Int).SetUint64(n), whole).Uint64()
}

// scrambled is Scramble as the promise describes it, with numbers of any size.
func scrambled(x uint64) uint64 {
	const half = 1 << 33
	x = product(x^(x/half), 0xFF51AFD7ED558CCD)
	x = product(x^(x/half), 0xC4CEB9FE1A85EC53)
	return x ^ (x / half)
}

// unscrambled undoes Scramble.
func unscrambled(x uint64) uint64 {
	x ^= x >> 33
	x = product(x, inverse(0xC4CEB9FE1A85EC53))
	x ^= x >> 33
	x = product(x, inverse(0xFF51AFD7ED558CCD))
	return x ^ x>>33
}

// numbers are 0, the borders at all bits, and numbers of all sizes, each once.
func numbers() []uint64 {
	r := rand.New(rand.NewSource(1))
	l := []uint64{0, math.MaxUint64}
	for bit := range 64 {
		n := uint64(1) << bit
		l = append(l, n-1, n, n+1, -n, r.Uint64()>>bit)
	}
	slices.Sort(l)
	return slices.Compact(l)
}

// lists are lists of all kinds: short and long, with repetitions and without.
func lists() [][]uint64 {
	r := rand.New(rand.NewSource(2))
	l := [][]uint64{nil, {}, {0}, {0, 0}, {0, 0, 0}, {1, 1, 2}, {math.MaxUint64, 0, math.MaxUint64}}
	for size := range 40 {
		few, many := make([]uint64, size), make([]uint64, size)
		for i := range size {
			few[i], many[i] = r.Uint64()%5, r.Uint64()
		}
		l = append(l, few, many)
	}
	return l
}

// shuffled is a copy in another order.
func shuffled(r *rand.Rand, l []uint64) []uint64 {
	c := slices.Clone(l)
	r.Shuffle(len(c), func(i, j int) { c[i], c[j] = c[j], c[i] })
	return c
}

func TestScrambleOfKnownNumbers(t *testing.T) {
	for x, want := range map[uint64]uint64{
		0:                  0,
		1:                  0xB456BCFC34C2CB2C,
		2:                  0x3ABF2A20650683E7,
		1 << 32:            0xBA3A9E160A5F1419,
		1<<33 - 1:          0xC08C4A56F3C4443D,
		1 << 33:            0x6B80F8591E1145C3,
		1 << 63:            0x8F780810AF31A493,
		math.MaxUint64:     0x64B5720B4B825F21,
		0xCBF29CE484222325: 0xEFD01F60BA992926,
	} {
		if got := Scramble(x); got != want {
			t.Errorf("%x: %x, not %x", x, got, want)
		}
	}
}

func TestScrambleAsDescribed(t *testing.T) {
	for _, x := range numbers() {
		if got, want := Scramble(x), scrambled(x); got != want {
			t.Errorf("%x: %x, not %x", x, got, want)
		}
	}
}

func TestScrambleIsABijection(t *testing.T) {
	for _, x := range numbers() {
		if got := unscrambled(Scramble(x)); got != x {
			t.Errorf("%x comes back as %x", x, got)
		}
		if got := Scramble(unscrambled(x)); got != x {
			t.Errorf("%x is that of %x", got, unscrambled(x))
		}
	}
}

func TestBytesAndTextOfKnownTexts(t *testing.T) {
	every := make([]byte, 256)
	for i := range every {
		every[i] = byte(i)
	}
	for text, want := range map[string]uint64{
		"":                     0xEFD01F60BA992926,
		"\x00":                 0xB9034AD37056F5FB,
		"a":                    0x82A2A958A9BECE5B,
		"foobar":               0x2C22194922D1672B,
		"\xff":                 0x1BBD5C813C69A8D7,
		"\xc3\xa4\xe2\x82\xac": 0xBAD0CBF6860C4751,
		string(every):          0x2067DB6DBD4EFA06,
	} {
		if got := Bytes([]byte(text)); got != want {
			t.Errorf("the bytes %q: %x, not %x", text, got, want)
		}
		if got := Text(text); got != want {
			t.Errorf("the text %q: %x, not %x", text, got, want)
		}
	}
}

func TestBytesOfNothing(t *testing.T) {
	for _, b := range [][]byte{nil, {}} {
		if got := Bytes(b); got != Scramble(0xCBF29CE484222325) {
			t.Errorf("no bytes: %x", got)
		}
	}
}

// chained is Bytes as the promise describes it, with numbers of any size.
func chained(b []byte) uint64 {
	h := uint64(0xCBF29CE484222325)
	for _, x := range b {
		h = product(h^uint64(x), 0x100000001B3)
	}
	return scrambled(h)
}

func TestBytesAndTextAsDescribed(t *testing.T) {
	r := rand.New(rand.NewSource(3))
	for size := range 300 {
		b := make([]byte, size)
		r.Read(b)
		if got, want := Bytes(b), chained(b); got != want {
			t.Errorf("the bytes %x: %x, not %x", b, got, want)
		}
		if got, want := Text(string(b)), chained(b); got != want {
			t.Errorf("the text %q: %x, not %x", b, got, want)
		}
	}
}

func TestBytesOfAnotherByteOrOrder(t *testing.T) {
	b := []byte("profile")
	for at := range b {
		for change := 1; change < 256; change++ {
			c := bytes.Clone(b)
			c[at] ^= byte(change)
			if Bytes(c) == Bytes(b) {
				t.Errorf("%q has the fingerprint of %q", c, b)
			}
		}
	}
	if Text("ab") == Text("ba") || Text("a") == Text("a\x00") || Text("") == Text("\x00") {
		t.Error("texts of another order or length have one fingerprint")
	}
}

func TestJoinOfKnownPairs(t *testing.T) {
	const most = math.MaxUint64
	for pair, want := range map[[2]uint64]uint64{
		{0, 0}:                         0x8944FFC6D823A3A8,
		{0, 1}:                         0x4DA1ED90BE177D74,
		{1, 0}:                         0x37849388AA3BF55C,
		{1, 2}:                         0x7B806E32106ECC4B,
		{2, 1}:                         0x8724B18EDA2B5A49,
		{most, 0}:                      0x738E2D7EC50EDDBD,
		{0, most}:                      0,
		{most, most}:                   0x64B5720B4B825F21,
		{0x61C8864680B583EB, most - 1}: 0xDED0D49971DC3283,
	} {
		if got := Join(pair[0], pair[1]); got != want {
			t.Errorf("%x: %x, not %x", pair, got, want)
		}
	}
}

func TestJoinIsABijectionInEachArgument(t *testing.T) {
	const stride = 0x9E3779B97F4A7C15
	for _, a := range numbers() {
		for _, b := range []uint64{0, 1, a, ^a, math.MaxUint64 - 1, math.MaxUint64} {
			sum := unscrambled(Join(a, b))
			if got := sum - product(stride, scrambled(b+1)); got != a {
				t.Errorf("%x, %x: the first one comes back as %x", a, b, got)
			}
			if got := unscrambled(product(sum-a, inverse(stride))) - 1; got != b {
				t.Errorf("%x, %x: the second one comes back as %x", a, b, got)
			}
		}
	}
}

func TestListOfKnownLists(t *testing.T) {
	for _, x := range []struct {
		l    []uint64
		want uint64
	}{
		{nil, 0},
		{[]uint64{}, 0},
		{[]uint64{0}, 0x37849388AA3BF55C},
		{[]uint64{0, 0}, 0x7972A9078E3D0D37},
		{[]uint64{1}, 0xE475955C145575DF},
		{[]uint64{1, 2}, 0xAD4A9763A14A0677},
		{[]uint64{2, 1}, 0x5C0283B6A41326DE},
		{[]uint64{1, 2, 3}, 0x2521C9A8173E9C97},
		{[]uint64{math.MaxUint64}, 0xB456BCFC34C2CB2C},
		{[]uint64{math.MaxUint64, 0}, 0xF1EDFC6D0275AB44},
	} {
		if got := List(x.l); got != x.want {
			t.Errorf("%x: %x, not %x", x.l, got, x.want)
		}
	}
}

func TestListJoinsItsElementsInOrder(t *testing.T) {
	for _, l := range lists() {
		want := uint64(len(l))
		for _, x := range l {
			want = Join(want, x)
		}
		if got := List(l); got != want {
			t.Errorf("%x: %x, not %x", l, got, want)
		}
	}
}

func TestListsThatDifferInOneElement(t *testing.T) {
	for _, l := range lists() {
		for at := range l {
			for _, change := range []uint64{1, 1 << 33, 1 << 63, math.MaxUint64} {
				c := slices.Clone(l)
				c[at] ^= change
				if List(c) == List(l) {
					t.Errorf("%x has the fingerprint of %x", c, l)
				}
			}
		}
	}
}

func TestSetOfKnownSets(t *testing.T) {
	for _, x := range []struct {
		l    []uint64
		want uint64
	}{
		{nil, 0x8944FFC6D823A3A8},
		{[]uint64{}, 0x8944FFC6D823A3A8},
		{[]uint64{0}, 0x1B18EBCF125FBD99},
		{[]uint64{0, 0}, 0x35059804ECF31D28},
		{[]uint64{1}, 0x5FBF04F94425D431},
		{[]uint64{1, 1}, 0x8ACCBB915FBCB582},
		{[]uint64{1, 2}, 0xAAB254CC27CCA238},
		{[]uint64{2, 1}, 0xAAB254CC27CCA238},
		{[]uint64{3, 1, 2}, 0x21D48DC2FE5C4013},
		{[]uint64{5, 5, 7}, 0x432FD2929DD18575},
		{[]uint64{0x61C8864680B583EB}, 0x37849388AA3BF55C}, // its Scramble is 0
		{[]uint64{math.MaxUint64}, 0xE3E63011526225A2},
		{[]uint64{math.MaxUint64, 0}, 0xBBE48A266A8646C3},
		{[]uint64{math.MaxUint64, math.MaxUint64, math.MaxUint64}, 0x4A6A3DFF368141F7},
	} {
		if got := Set(x.l); got != x.want {
			t.Errorf("%x: %x, not %x", x.l, got, x.want)
		}
	}
}

// summed is Set as the promise describes it, with numbers of any size.
func summed(l []uint64) uint64 {
	sum := new(big.Int)
	for _, x := range l {
		sum.Add(sum, new(big.Int).SetUint64(scrambled(x+0x9E3779B97F4A7C15)))
	}
	return Join(uint64(len(l)), modulo(sum))
}

func TestSetAsDescribed(t *testing.T) {
	for _, l := range lists() {
		if got, want := Set(l), summed(l); got != want {
			t.Errorf("%x: %x, not %x", l, got, want)
		}
	}
}

func TestSetsInAnyOrder(t *testing.T) {
	r := rand.New(rand.NewSource(4))
	for _, l := range lists() {
		for range 5 {
			c := shuffled(r, l)
			if Set(c) != Set(l) || Distinct(c) != Distinct(l) {
				t.Errorf("%x has not the fingerprints of %x", c, l)
			}
		}
	}
}

func TestSetCountsRepetitions(t *testing.T) {
	seen := map[uint64]int{}
	for size := range 50 {
		h := Set(make([]uint64, size))
		if other, ok := seen[h]; ok {
			t.Errorf("%d and %d times 0 have one fingerprint", other, size)
		}
		seen[h] = size
	}
}

func TestDistinctCountsEachElementOnce(t *testing.T) {
	for _, l := range lists() {
		var once []uint64
		for _, x := range l {
			if !slices.Contains(once, x) {
				once = append(once, x)
			}
		}
		want := summed(once)
		for _, c := range [][]uint64{l, once, slices.Concat(l, once), slices.Repeat(l, 3)} {
			if got := Distinct(c); got != want {
				t.Errorf("%x: %x, not %x", c, got, want)
			}
		}
	}
}

func TestDistinctOfKnownSets(t *testing.T) {
	for _, x := range []struct {
		l    []uint64
		want uint64
	}{
		{nil, 0x8944FFC6D823A3A8},
		{[]uint64{1, 1}, 0x5FBF04F94425D431},
		{[]uint64{3, 1, 2}, 0x21D48DC2FE5C4013},
		{[]uint64{5, 7, 5}, 0x9E008ABCEE82AA80},
		{[]uint64{math.MaxUint64, math.MaxUint64, math.MaxUint64}, 0xE3E63011526225A2},
	} {
		if got := Distinct(x.l); got != x.want {
			t.Errorf("%x: %x, not %x", x.l, got, x.want)
		}
	}
}

func TestArgumentsAndTheirRoomStay(t *testing.T) {
	whole := []uint64{3, 1, 3, 2, 1, 9, 8, 7}
	for name, f := range map[string]func([]uint64) uint64{"List": List, "Set": Set, "Distinct": Distinct} {
		f(whole[:5])
		if !slices.Equal(whole, []uint64{3, 1, 3, 2, 1, 9, 8, 7}) {
			t.Fatalf("%s: the argument is now %v", name, whole)
		}
	}
	b := []byte("profiles")
	Bytes(b[:3])
	if string(b) != "profiles" {
		t.Errorf("Bytes: the argument is now %q", b)
	}
}
