package interpret

import (
	"fmt"
	"testing"

	"warmpath/api"
)

// isSum checks a sum, in both orders.
func isSum(t *testing.T, a, b, want api.Counts) {
	t.Helper()
	before := fmt.Sprint(a, b)
	for range 2 {
		got, e := Add(a, b)
		if e != api.OK || fmt.Sprint(got) != fmt.Sprint(want) {
			t.Errorf("%v and %v: %v, error %d, not %v", a, b, got, e, want)
		}
		a, b = b, a
	}
	if after := fmt.Sprint(a, b); after != before {
		t.Errorf("%s, not %s", after, before)
	}
}

// isNoSum checks that counts cannot be added.
func isNoSum(t *testing.T, a, b api.Counts) {
	t.Helper()
	for range 2 {
		if got, e := Add(a, b); e != api.ErrCounts || len(got.Funcs) != 0 {
			t.Errorf("%v and %v: %v, error %d", a, b, got, e)
		}
		a, b = b, a
	}
}

func TestAdd(t *testing.T) {
	isSum(t, api.Counts{}, api.Counts{}, api.Counts{})
	a := counts(
		counted(1, []int{2, 3}, [][2]int{{4, 0}, {5, 6}}, site(0, 1, 1, 7, 3, 8), site(1, 0, 2, 1), site(1, 2, 0, 2)),
		counted(0, []int{9}, [][2]int{{}}),
	)
	b := counts(
		counted(10, []int{20, 30}, [][2]int{{40, 0}, {50, 60}}, site(0, 0, 1, 3), site(0, 1, 0, 1, 1, 10, 2, 20), site(1, 1, 5, 5), site(1, 2, 0, 40)),
		counted(100, []int{0}, [][2]int{{}}, site(0, 0, 1, 9)),
	)
	isSum(t, a, b, counts(
		counted(11, []int{22, 33}, [][2]int{{44, 0}, {55, 66}}, site(0, 0, 1, 3), site(0, 1, 0, 1, 1, 17, 2, 20, 3, 8), site(1, 0, 2, 1), site(1, 1, 5, 5), site(1, 2, 0, 42)),
		counted(100, []int{9}, [][2]int{{}}, site(0, 0, 1, 9)),
	))
	isSum(t, a, a, counts(
		counted(2, []int{4, 6}, [][2]int{{8, 0}, {10, 12}}, site(0, 1, 1, 14, 3, 16), site(1, 0, 2, 2), site(1, 2, 0, 4)),
		counted(0, []int{18}, [][2]int{{}}),
	))
	isSum(t, Zero(sited()), ofSited(), ofSited())
	// the order of blocks, instructions and functions is not that of their texts
	isSum(t,
		counts(counted(0, nil, nil, site(2, 10, 2, 1, 10, 1), site(10, 9, 100, 1)), counted(0, nil, nil, site(0, 0, 0, 1))),
		counts(counted(0, nil, nil, site(2, 9, 3, 1), site(10, 0, 7, 1, 20, 1)), counted(0, nil, nil)),
		counts(counted(0, nil, nil, site(2, 9, 3, 1), site(2, 10, 2, 1, 10, 1), site(10, 0, 7, 1, 20, 1), site(10, 9, 100, 1)), counted(0, nil, nil, site(0, 0, 0, 1))),
	)
}

// TestAddShapes has counts of programs that are different.
func TestAddShapes(t *testing.T) {
	two := counted(0, []int{0, 0}, [][2]int{{}, {}})
	one := counted(0, []int{0}, [][2]int{{}})
	isSum(t, counts(one, two), counts(one, two), counts(one, two))
	isNoSum(t, counts(one), api.Counts{})
	isNoSum(t, counts(one), counts(one, one))
	isNoSum(t, counts(one), counts(two))
	isNoSum(t, counts(one, two), counts(one, one))
	isNoSum(t, counts(two, one), counts(one, two))
	isNoSum(t, counts(one, one, two), counts(one, one, one))
	isNoSum(t, counts(one), counts(counted(0, []int{0}, nil)))
	isNoSum(t, counts(one), counts(counted(0, nil, [][2]int{{}})))
	isNoSum(t, counts(one), counts(counted(0, []int{0}, [][2]int{{}, {}})))
	isNoSum(t, counts(one), counts(counted(0, []int{0, 0}, [][2]int{{}})))
	isNoSum(t, counts(one, counted(api.MaxCount, []int{0}, [][2]int{{}})), counts(one, counted(1, []int{0, 0}, [][2]int{{}, {}})))
	// sites may be different
	isSum(t, counts(counted(0, []int{0}, [][2]int{{}}, site(0, 1, 1, 1))), counts(one), counts(counted(0, []int{0}, [][2]int{{}}, site(0, 1, 1, 1))))
}

// TestAddLimits has sums at the greatest count and beyond it, in all places.
func TestAddLimits(t *testing.T) {
	places := []func(n int) api.FuncCounts{
		func(n int) api.FuncCounts { return counted(n, []int{0, 0}, [][2]int{{}, {}}) },
		func(n int) api.FuncCounts { return counted(0, []int{n, 0}, [][2]int{{}, {}}) },
		func(n int) api.FuncCounts { return counted(0, []int{0, n}, [][2]int{{}, {}}) },
		func(n int) api.FuncCounts { return counted(0, []int{0, 0}, [][2]int{{n, 0}, {}}) },
		func(n int) api.FuncCounts { return counted(0, []int{0, 0}, [][2]int{{}, {0, n}}) },
		func(n int) api.FuncCounts { return counted(0, []int{0, 0}, [][2]int{{}, {}}, site(0, 1, 0, n)) },
		func(n int) api.FuncCounts {
			return counted(0, []int{0, 0}, [][2]int{{}, {}}, site(0, 1, 0, 1), site(1, 1, 0, 1, 3, n))
		},
	}
	plain := counted(1, []int{1, 1}, [][2]int{{1, 1}, {1, 1}})
	for i, of := range places {
		for _, n := range []int{1, 2, 1000, api.MaxCount / 2, api.MaxCount - 1, api.MaxCount} {
			rest := api.MaxCount - n
			if rest > 0 {
				a, b := of(n), of(rest)
				want, e := Add(counts(a, plain), counts(b, plain))
				if e != api.OK || fmt.Sprint(want.Funcs[0].Entries, want.Funcs[0].Blocks, want.Funcs[0].Edges) != fmt.Sprint(a.Entries+b.Entries, []int{a.Blocks[0] + b.Blocks[0], a.Blocks[1] + b.Blocks[1]}, [][2]int{{a.Edges[0][0] + b.Edges[0][0], 0}, {0, a.Edges[1][1] + b.Edges[1][1]}}) || i > 4 && want.Funcs[0].Sites[i-5].Targets[i-5].Count != api.MaxCount {
					t.Errorf("place %d, %d: %v, error %d", i, n, want, e)
				}
			}
			isNoSum(t, counts(of(n), plain), counts(of(rest+1), plain))
			isNoSum(t, counts(plain, of(n)), counts(plain, of(rest+1)))
			isNoSum(t, counts(of(n)), counts(of(api.MaxCount)))
		}
	}
	// two targets, or two sites, are no sum
	full := func(l ...api.Site) api.Counts { return counts(counted(0, []int{0}, [][2]int{{}}, l...)) }
	isSum(t, full(site(0, 0, 1, api.MaxCount)), full(site(0, 0, 2, api.MaxCount)), full(site(0, 0, 1, api.MaxCount, 2, api.MaxCount)))
	isSum(t, full(site(0, 0, 1, api.MaxCount)), full(site(0, 1, 1, api.MaxCount)), full(site(0, 0, 1, api.MaxCount), site(0, 1, 1, api.MaxCount)))
	isSum(t, counts(counted(api.MaxCount, []int{0}, [][2]int{{}})), counts(counted(0, []int{api.MaxCount}, [][2]int{{}})), counts(counted(api.MaxCount, []int{api.MaxCount}, [][2]int{{}})))
}

// tallied are counts as numbers with names.
func tallied(l ...api.Counts) map[string]int {
	names := map[string]int{}
	for _, c := range l {
		for i, f := range c.Funcs {
			names[fmt.Sprint("entries ", i)] += f.Entries
			for b := range f.Blocks {
				names[fmt.Sprint("block ", i, b)] += f.Blocks[b]
				names[fmt.Sprint("edge ", i, b, 0)] += f.Edges[b][0]
				names[fmt.Sprint("edge ", i, b, 1)] += f.Edges[b][1]
			}
			for _, s := range f.Sites {
				for _, target := range s.Targets {
					names[fmt.Sprint("site ", i, s.Block, s.Instr, target.Func)] += target.Count
				}
			}
		}
	}
	return names
}

// TestRandomSums adds the counts of runs of a program.
func TestRandomSums(t *testing.T) {
	m := newMaker(8)
	seen := noted{}
	for range 8000 {
		p := m.program()
		var l []api.Counts
		for range 3 {
			l = append(l, Run(p, m.input(), api.Limit{Steps: m.Intn(600), Depth: 1 + m.Intn(9)}).Counts)
		}
		ab, first := Add(l[0], l[1])
		ba, second := Add(l[1], l[0])
		bc, third := Add(l[1], l[2])
		left, fourth := Add(ab, l[2])
		right, fifth := Add(l[0], bc)
		same, sixth := Add(Zero(p), l[0])
		if first != api.OK || second != api.OK || third != api.OK || fourth != api.OK || fifth != api.OK || sixth != api.OK {
			t.Fatalf("errors %d, %d, %d, %d, %d, %d of %v", first, second, third, fourth, fifth, sixth, l)
		}
		if !Same(ab, ba) || !Same(left, right) || !Same(same, l[0]) || !Fits(p, ab) || !Fits(p, left) || !Conserved(p, api.Run{Counts: Zero(p)}) {
			t.Fatalf("%v: %v and %v, %v and %v, %v", l, ab, ba, left, right, same)
		}
		if fmt.Sprint(tallied(left)) != fmt.Sprint(tallied(l...)) {
			t.Fatalf("%v: %v, not %v", l, tallied(left), tallied(l...))
		}
		for i, f := range ab.Funcs {
			switch more := len(f.Sites); {
			case more > len(l[0].Funcs[i].Sites) && more > len(l[1].Funcs[i].Sites):
				seen.note("sites of both")
			case more > 0:
				seen.note("sites")
			}
			for _, s := range f.Sites {
				seen.note("targets ", min(len(s.Targets), 2))
			}
		}
	}
	seen.often(t, 200, "sites", "targets 1")
	seen.often(t, 10, "sites of both", "targets 2")
}
