package share_test

import (
	"maps"
	"math"
	"math/big"
	"slices"
	"strconv"
	"strings"
	"testing"

	"roundel/api"
	"roundel/nat"
	"roundel/ratio"
	"roundel/share"
	"roundel/tree"
)

// noIds are no group's id, whatever the forest: -1 is told as a root's parent.
var noIds = []int{0, -1, -2, 99, 1 << 20, 1 << 31, 1 << 32, 1<<32 + 1, -1<<32 + 1, math.MinInt, math.MinInt + 1, math.MaxInt}

// noCounts of cores can't be: the edges, and ones that a cut to fewer bits would take for one that can.
var noCounts = []int{0, -1, -2, -64, 65, 66, 128, 256, 257, 1 << 16, 1<<16 + 1, 1 << 32, 1<<32 + 1, -1<<32 + 1, math.MinInt, math.MinInt + 1, math.MaxInt}

// noWeights are none that can be.
var noWeights = []int{0, -1, -2, -10000, 10001, 10002, 1 << 16, 1<<16 + 1, 1 << 32, 1<<32 + 1, -1<<32 + 1, math.MinInt, math.MinInt + 1, math.MaxInt}

// mixed makes numbers by a fixed rule, so that each run tests the same ones.
type mixed uint64

func (m *mixed) next() uint64 {
	*m ^= *m << 13
	*m ^= *m >> 7
	*m ^= *m << 17
	return uint64(*m)
}

func (m *mixed) upTo(most int) int { return int(m.next() % uint64(most+1)) }

// weight is mostly a small one, so that several come to their caps at one level, at times any, the least, or the greatest.
func (m *mixed) weight() int {
	switch m.upTo(5) {
	case 0:
		return 1 + m.upTo(api.MaxWeight-1)
	case 1:
		return api.MaxWeight
	case 2:
		return 1
	}
	return 1 + m.upTo(5)
}

// group is one to be built: without a parent (0) it is a root.
type group struct{ parent, weight int }

// grow builds a forest of groups, whose ids are 1, 2 and so on, as they are told.
func grow(t *testing.T, groups ...group) *tree.Forest {
	t.Helper()
	f, errno := tree.New(api.MaxGroups)
	for k, g := range groups {
		if errno != api.OK {
			t.Fatalf("building %v: %d at %d", groups, errno, k)
		}
		if g.parent == 0 {
			_, errno = f.Root()
		} else {
			_, errno = f.Add(g.parent, g.weight)
		}
	}
	if errno != api.OK {
		t.Fatalf("building %v: %d", groups, errno)
	}
	return f
}

// same are so many leaves of one group, of one weight.
func same(n, group, weight int) []share.Leaf {
	return slices.Repeat([]share.Leaf{{Group: group, Weight: weight}}, n)
}

// words tells all rates by the chapter's words, from groups' parents and weights alone.
type words struct {
	groups map[int]tree.Group
	leaves []share.Leaf
}

func wordsOf(f *tree.Forest, leaves []share.Leaf) words {
	w := words{groups: map[int]tree.Group{}, leaves: leaves}
	for _, id := range f.Ids() {
		w.groups[id], _ = f.Group(id)
	}
	return w
}

func (w words) isBelow(g, top int) bool {
	for {
		told, isThere := w.groups[g]
		if !isThere || g == top {
			return isThere
		}
		g = told.Parent
	}
}

// count is how many leaves are below a group.
func (w words) count(top int) int {
	n := 0
	for _, leaf := range w.leaves {
		if w.isBelow(leaf.Group, top) {
			n++
		}
	}
	return n
}

// children are the groups and the leaves (by their places) that share what a group has.
func (w words) children(g int) (groups, leaves []int) {
	for id, told := range w.groups {
		if told.Parent == g && w.count(id) > 0 {
			groups = append(groups, id)
		}
	}
	for i, leaf := range w.leaves {
		if leaf.Group == g {
			leaves = append(leaves, i)
		}
	}
	return groups, leaves
}

// errno is the first error, in the chapter's order.
func (w words) errno(root, online int) api.Errno {
	if told, isThere := w.groups[root]; !isThere || told.Parent != -1 {
		return api.ErrGroup
	}
	if online < 1 || online > 64 {
		return api.ErrRange
	}
	if len(w.leaves) > 64 {
		return api.ErrFull
	}
	for _, leaf := range w.leaves {
		if !w.isBelow(leaf.Group, root) {
			return api.ErrGroup
		}
		if leaf.Weight < 1 || leaf.Weight > 10000 {
			return api.ErrWeight
		}
	}
	for id := range w.groups {
		if groups, leaves := w.children(id); len(groups)+len(leaves) > 32 {
			return api.ErrFull
		}
	}
	return api.OK
}

// solve tells the rates of leaves, by their places, and of groups, by their ids.
func (w words) solve(root, online int) (rates, groups map[int]*big.Rat) {
	rates, groups = map[int]*big.Rat{}, map[int]*big.Rat{}
	if len(w.leaves) == 0 {
		return rates, groups
	}
	groups[root] = whole(min(online, len(w.leaves)))
	for todo := []int{root}; len(todo) > 0; todo = todo[1:] {
		below, own := w.children(todo[0])
		var weights, caps []int
		for _, id := range below {
			weights, caps = append(weights, w.groups[id].Weight), append(caps, w.count(id))
		}
		for _, i := range own {
			weights, caps = append(weights, w.leaves[i].Weight), append(caps, 1)
		}
		gets := parted(groups[todo[0]], weights, caps)
		for k, id := range below {
			groups[id] = gets[k]
		}
		for k, i := range own {
			rates[i] = gets[len(below)+k]
		}
		todo = append(todo, below...)
	}
	return rates, groups
}

func whole(n int) *big.Rat { return new(big.Rat).SetInt64(int64(n)) }

// parted shares x by weights: whoever gets more than its cap so has its cap, and the rest is shared anew, until nobody does.
func parted(x *big.Rat, weights, caps []int) []*big.Rat {
	gets := make([]*big.Rat, len(weights)) // while it is none, its cap isn't met
	for {
		left, weight := new(big.Rat).Set(x), 0
		for i, got := range gets {
			if got == nil {
				weight += weights[i]
			} else {
				left.Sub(left, got)
			}
		}
		part := func(i int) *big.Rat { return new(big.Rat).Mul(left, big.NewRat(int64(weights[i]), int64(weight))) }
		var over []int
		for i, got := range gets {
			if got == nil && part(i).Cmp(whole(caps[i])) > 0 {
				over = append(over, i)
			}
		}
		for i := range gets {
			if len(over) == 0 && gets[i] == nil {
				gets[i] = part(i)
			}
		}
		if len(over) == 0 {
			return gets
		}
		for _, i := range over {
			gets[i] = whole(caps[i])
		}
	}
}

// texts tells rates by their numbers, these rising.
func texts(rates map[int]string) string {
	var out []string
	for _, k := range slices.Sorted(maps.Keys(rates)) {
		out = append(out, strconv.Itoa(k)+":"+rates[k])
	}
	return strings.Join(out, " ")
}

func wanted(rates map[int]*big.Rat) string {
	out := map[int]string{}
	for k, r := range rates {
		out[k] = r.RatString()
	}
	return texts(out)
}

func told(rates map[int]ratio.Ratio) string {
	out := map[int]string{}
	for k, r := range rates {
		out[k] = "no ratio"
		if r.Good() {
			out[k] = r.Text()
		}
	}
	return texts(out)
}

// byPlace is a list as a map.
func byPlace(rates []ratio.Ratio) map[int]ratio.Ratio {
	out := map[int]ratio.Ratio{}
	for i, r := range rates {
		out[i] = r
	}
	return out
}

// ask answers what both calls tell, as texts.
func ask(t *testing.T, f *tree.Forest, root, online int, leaves []share.Leaf) (rates, groups string) {
	t.Helper()
	r, errno := share.Rates(f, root, online, leaves)
	g, errnoGroups := share.Groups(f, root, online, leaves)
	if errno != api.OK || errnoGroups != api.OK {
		t.Errorf("P9.1: root %d, %d cores, leaves %v: %d, %d", root, online, leaves, errno, errnoGroups)
	}
	return told(byPlace(r)), told(g)
}

// check holds both calls against the words.
func check(t *testing.T, f *tree.Forest, root, online int, leaves []share.Leaf) {
	t.Helper()
	w := wordsOf(f, leaves)
	if errno := w.errno(root, online); errno != api.OK {
		checkRefused(t, "by the words", f, root, online, leaves, errno)
		return
	}
	wantRates, wantGroups := w.solve(root, online)
	rates, groups := ask(t, f, root, online, leaves)
	if rates != wanted(wantRates) {
		t.Errorf("P9.1: Rates of %v, root %d, %d cores, %v: %s; want %s", w.groups, root, online, leaves, rates, wanted(wantRates))
	}
	if groups != wanted(wantGroups) {
		t.Errorf("P9.1: Groups of %v, root %d, %d cores, %v: %s; want %s", w.groups, root, online, leaves, groups, wanted(wantGroups))
	}
	checkSum(t, f, root, online, leaves)
}

// checkSum holds what Rates answers against the second promise.
func checkSum(t *testing.T, f *tree.Forest, root, online int, leaves []share.Leaf) {
	t.Helper()
	rates, _ := share.Rates(f, root, online, leaves)
	if len(rates) != len(leaves) {
		t.Fatalf("P9.1: %d rates of %d leaves", len(rates), len(leaves))
	}
	sum := ratio.Int(0)
	for i, r := range rates {
		if ratio.Cmp(r, ratio.Int(0)) <= 0 || ratio.Cmp(r, ratio.Int(1)) > 0 {
			t.Errorf("P9.2: root %d, %d cores, %v: the rate of %d is %s", root, online, leaves, i, r.Text())
		}
		sum = ratio.Add(sum, r)
	}
	if want := ratio.Int(min(online, len(leaves))); ratio.Cmp(sum, want) != 0 {
		t.Errorf("P9.2: root %d, %d cores, %v: %s in all; want %s", root, online, leaves, sum.Text(), want.Text())
	}
}

// checkRefused holds both calls against an error, with nothing beside it.
func checkRefused(t *testing.T, why string, f *tree.Forest, root, online int, leaves []share.Leaf, want api.Errno) {
	t.Helper()
	rates, errno := share.Rates(f, root, online, leaves)
	if len(rates) != 0 || errno != want {
		t.Errorf("P9.1: Rates, %s: root %d, %d cores, %v: %v, %d; want %d", why, root, online, leaves, rates, errno, want)
	}
	groups, errno := share.Groups(f, root, online, leaves)
	if len(groups) != 0 || errno != want {
		t.Errorf("P9.1: Groups, %s: root %d, %d cores, %v: %v, %d; want %d", why, root, online, leaves, groups, errno, want)
	}
}

// TestByHand: rates that were reckoned by hand, in a root 1 with 2 and 3 below it, 4 below 3, and a heavy 5 without leaves.
func TestByHand(t *testing.T) {
	f := grow(t, group{}, group{1, 1}, group{1, 3}, group{3, 7}, group{1, 10000})
	deep := []share.Leaf{{4, 1}, {3, 7}, {2, 100}}
	both := []share.Leaf{{1, 4}, {2, 5}, {2, 1}, {3, 2}}
	many := []share.Leaf{{2, 1}, {2, 2}, {2, 3}, {3, 1}, {3, 1}}
	for _, c := range []struct {
		online        int
		leaves        []share.Leaf
		rates, groups string
	}{
		{1, nil, "", ""},
		{64, []share.Leaf{}, "", ""},
		{1, []share.Leaf{{1, 5}}, "0:1", "1:1"},
		{2, []share.Leaf{{1, 1}, {1, 1}, {1, 8}}, "0:1/2 1:1/2 2:1", "1:2"},
		{1, []share.Leaf{{1, 1}, {1, 3}}, "0:1/4 1:3/4", "1:1"},
		{1, []share.Leaf{{1, 10000}, {1, 1}}, "0:10000/10001 1:1/10001", "1:1"},
		{2, []share.Leaf{{1, 10000}, {1, 1}}, "0:1 1:1", "1:2"},
		{1, []share.Leaf{{4, 9}}, "0:1", "1:1 3:1 4:1"},
		{1, deep, "0:3/8 1:3/8 2:1/4", "1:1 2:1/4 3:3/4 4:3/8"},
		{2, deep, "0:3/4 1:3/4 2:1/2", "1:2 2:1/2 3:3/2 4:3/4"},
		{3, deep, "0:1 1:1 2:1", "1:3 2:1 3:2 4:1"},
		{64, deep, "0:1 1:1 2:1", "1:3 2:1 3:2 4:1"},
		{1, both, "0:1/2 1:5/48 2:1/48 3:3/8", "1:1 2:1/8 3:3/8"},
		{2, both, "0:1 1:5/24 2:1/24 3:3/4", "1:2 2:1/4 3:3/4"},
		{3, both, "0:1 1:5/6 2:1/6 3:1", "1:3 2:1 3:1"},
		{4, both, "0:1 1:1 2:1 3:1", "1:4 2:2 3:1"},
		{1, many, "0:1/24 1:1/12 2:1/8 3:3/8 4:3/8", "1:1 2:1/4 3:3/4"},
		{3, many, "0:1/6 1:1/3 2:1/2 3:1 4:1", "1:3 2:1 3:2"},
		{2, []share.Leaf{{2, 10000}, {2, 1}, {4, 1}}, "0:10000/10001 1:1/10001 2:1", "1:2 2:1 3:1 4:1"},
		{1, []share.Leaf{{5, 1}, {1, 10000}, {1, 10000}}, "0:1/3 1:1/3 2:1/3", "1:1 5:1/3"},
	} {
		if rates, groups := ask(t, f, 1, c.online, c.leaves); rates != c.rates || groups != c.groups {
			t.Errorf("P9.1: %d cores, %v: %s, groups %s; want %s, groups %s", c.online, c.leaves, rates, groups, c.rates, c.groups)
		}
		check(t, f, 1, c.online, c.leaves)
	}
}

// TestLeafHasTheseFields: a leaf's fields, in their order, tell it.
func TestLeafHasTheseFields(t *testing.T) {
	leaf := share.Leaf(struct{ Group, Weight int }{3, 5})
	if leaf != (share.Leaf{Group: 3, Weight: 5}) || leaf == (share.Leaf{Group: 5, Weight: 3}) {
		t.Errorf("R11: %v", leaf)
	}
}

// chain is a root with a row of groups of one weight below one another, to the greatest depth.
func chain(t *testing.T, weight int) *tree.Forest {
	t.Helper()
	groups := []group{{}}
	for k := 1; k < api.MaxDepth; k++ {
		groups = append(groups, group{k, weight})
	}
	return grow(t, groups...)
}

// TestNoLeaf: whatever the groups and the cores, nothing has a rate.
func TestNoLeaf(t *testing.T) {
	for _, f := range []*tree.Forest{grow(t, group{}), grow(t, group{}, group{1, 3}), chain(t, 1)} {
		for online := 1; online <= api.MaxCores; online++ {
			for _, leaves := range [][]share.Leaf{nil, {}} {
				if rates, groups := ask(t, f, 1, online, leaves); rates != "" || groups != "" {
					t.Errorf("P9.1: no leaf, %d cores: %s, groups %s", online, rates, groups)
				}
			}
		}
	}
}

// TestOneLeaf: at each depth, it and all groups over it have one core.
func TestOneLeaf(t *testing.T) {
	for _, weight := range []int{1, 7, api.MaxWeight} {
		f := chain(t, weight)
		for depth := 1; depth <= api.MaxDepth; depth++ {
			want := map[int]string{}
			for g := 1; g <= depth; g++ {
				want[g] = "1"
			}
			for _, online := range []int{1, 2, 3, api.MaxCores - 1, api.MaxCores} {
				for _, own := range []int{1, 7, api.MaxWeight} {
					rates, groups := ask(t, f, 1, online, same(1, depth, own))
					if rates != "0:1" || groups != texts(want) {
						t.Errorf("P9.1: one leaf at depth %d, %d cores: %s, groups %s", depth, online, rates, groups)
					}
				}
			}
		}
	}
}

// TestDeepest: in a row of groups to the greatest depth, with a leaf in each, what is left for the next is always the same part.
func TestDeepest(t *testing.T) {
	for _, c := range []struct{ group, leaf int }{{1, 1}, {1, api.MaxWeight}, {api.MaxWeight, 1}, {3, 5}} {
		f := chain(t, c.group)
		var leaves []share.Leaf
		rates, groups := map[int]*big.Rat{}, map[int]*big.Rat{}
		left := whole(1)
		for g := 1; g <= api.MaxDepth; g++ {
			leaves = append(leaves, share.Leaf{Group: g, Weight: c.leaf})
			groups[g] = left
			rates[g-1] = new(big.Rat).Mul(left, big.NewRat(int64(c.leaf), int64(c.leaf+c.group)))
			left = new(big.Rat).Sub(left, rates[g-1])
		}
		rates[api.MaxDepth-1] = groups[api.MaxDepth] // the last one has its group alone
		gotRates, gotGroups := ask(t, f, 1, 1, leaves)
		if gotRates != wanted(rates) || gotGroups != wanted(groups) {
			t.Errorf("P9.1: a row of groups of weight %d, leaves of %d: %s, groups %s; want %s, groups %s", c.group, c.leaf, gotRates, gotGroups, wanted(rates), wanted(groups))
		}
		for online := 1; online <= 9; online++ {
			check(t, f, 1, online, leaves)
		}
		check(t, f, 1, api.MaxCores, leaves)
	}
}

// TestAsManyLeavesAsCores: one less, as many, and one more, for each count of cores and beyond; with as many leaves or less each has a core, whatever the weights.
func TestAsManyLeavesAsCores(t *testing.T) {
	f := grow(t, group{}, group{1, 1}, group{1, 10000}, group{3, 5}, group{3, 2})
	m := mixed(88172645463325252)
	for n := 1; n <= api.MaxThreads; n++ {
		var leaves []share.Leaf
		for i := range n {
			leaves = append(leaves, share.Leaf{Group: 1 + i%5, Weight: m.weight()})
		}
		for _, online := range []int{1, n - 1, n, n + 1, api.MaxCores} {
			if online < 1 || online > api.MaxCores {
				continue
			}
			check(t, f, 1, online, leaves)
			if rates, _ := share.Rates(f, 1, online, leaves); online >= n && slices.ContainsFunc(rates, isNotOne) {
				t.Errorf("P9.1: %d cores, %v: %s; want 1 each", online, leaves, told(byPlace(rates)))
			}
		}
	}
}

func isNotOne(r ratio.Ratio) bool { return r.Text() != "1" }

// TestMostLeaves: as many as may be, in several spreads, for each count of cores.
func TestMostLeaves(t *testing.T) {
	wide := []group{{}}
	for k := range 31 {
		wide = append(wide, group{1, 1 + k*k*10})
	}
	m := mixed(362436069)
	var spread []share.Leaf
	for i := range api.MaxThreads {
		spread = append(spread, share.Leaf{Group: 1 + i/2, Weight: m.weight()})
	}
	two := append(same(32, 2, 1), same(32, 3, api.MaxWeight)...)
	for online := 1; online <= api.MaxCores; online++ {
		check(t, grow(t, wide...), 1, online, spread)
		check(t, grow(t, group{}, group{1, 1}, group{1, 1}), 1, online, two)
		check(t, grow(t, group{}, group{1, 10000}, group{2, 1}), 1, online, append(same(32, 3, 2), append(same(31, 2, 9), same(1, 1, 1)...)...))
	}
}

// TestMostChildren: a group has as many to share among as may be, and one more.
func TestMostChildren(t *testing.T) {
	wide := []group{{}}
	for k := range api.MaxFan {
		wide = append(wide, group{1, 1 + k})
	}
	each := func(n int) []share.Leaf { // a leaf in each of so many of these groups
		var leaves []share.Leaf
		for k := range n {
			leaves = append(leaves, share.Leaf{Group: 2 + k, Weight: 3})
		}
		return leaves
	}
	f, deep := grow(t, wide...), grow(t, group{}, group{1, 2}, group{2, 3}, group{1, 4})
	for _, c := range []struct {
		why    string
		f      *tree.Forest
		leaves []share.Leaf
		want   api.Errno
	}{
		{"32 leaves of the root, beside groups without any", f, same(32, 1, 2), api.OK},
		{"33 leaves of the root", f, same(33, 1, 2), api.ErrFull},
		{"64 leaves of the root", f, same(64, 1, 2), api.ErrFull},
		{"32 groups", f, each(32), api.OK},
		{"32 groups, and leaves of one", f, append(each(32), same(31, 7, 2)...), api.OK},
		{"32 groups, one of 33 leaves", f, append(each(32), same(32, 7, 2)...), api.ErrFull},
		{"32 groups, the last one of 33 leaves", f, append(each(32), same(32, 33, 2)...), api.ErrFull},
		{"32 groups, and a leaf", f, append(each(32), same(1, 1, 2)...), api.ErrFull},
		{"a leaf, and 32 groups", f, append(same(1, 1, 2), each(32)...), api.ErrFull},
		{"31 groups, and a leaf", f, append(each(31), same(1, 1, 2)...), api.OK},
		{"31 groups, and 2 leaves", f, append(each(31), same(2, 1, 2)...), api.ErrFull},
		{"16 groups, and 16 leaves", f, append(each(16), same(16, 1, 2)...), api.OK},
		{"16 groups, and 17 leaves", f, append(each(16), same(17, 1, 2)...), api.ErrFull},
		{"1 group, and 31 leaves", f, append(each(1), same(31, 1, 2)...), api.OK},
		{"1 group, and 32 leaves", f, append(each(1), same(32, 1, 2)...), api.ErrFull},
		{"32 leaves below another", deep, same(32, 3, 2), api.OK},
		{"33 leaves below another", deep, same(33, 3, 2), api.ErrFull},
		{"32 leaves below 31", deep, append(same(32, 3, 2), same(31, 2, 2)...), api.OK},
		{"31 leaves below 32", deep, append(same(31, 3, 2), same(32, 2, 2)...), api.ErrFull},
		{"32 and 32", deep, append(same(32, 2, 2), same(32, 4, 2)...), api.OK},
		{"33 and 31", deep, append(same(33, 2, 2), same(31, 4, 2)...), api.ErrFull},
		{"31 and 33", deep, append(same(31, 2, 2), same(33, 4, 2)...), api.ErrFull},
	} {
		for _, online := range []int{1, 2, 31, 33, 64} {
			if c.want == api.OK {
				check(t, c.f, 1, online, c.leaves)
			} else {
				checkRefused(t, c.why, c.f, 1, online, c.leaves, c.want)
			}
		}
		if errno := wordsOf(c.f, c.leaves).errno(1, 1); errno != c.want {
			t.Errorf("%s: by the words %d; want %d", c.why, errno, c.want)
		}
	}
}

// step counts the row on, each of its places to the base; false behind the last one.
func step(row []int, base int) bool {
	for k := range row {
		row[k]++
		if row[k] < base {
			return true
		}
		row[k] = 0
	}
	return false
}

// TestEveryRow: up to three leaves of light and heavy weights, in all places of all small trees, for few and enough cores.
func TestEveryRow(t *testing.T) {
	weights := []int{1, 3}
	for _, parents := range [][]int{{1, 1, 1}, {1, 1, 2}, {1, 1, 3}, {1, 2, 1}, {1, 2, 2}, {1, 2, 3}} {
		for heavy := range 4 { // at 0 none is: a root has no such weight
			groups := []group{{}}
			for _, parent := range parents {
				groups = append(groups, group{parent, 1})
			}
			groups[heavy].weight = 5
			f := grow(t, groups...)
			for n := 1; n <= 3; n++ {
				row := make([]int, n)
				for more := true; more; more = step(row, 8) {
					var leaves []share.Leaf
					for _, k := range row {
						leaves = append(leaves, share.Leaf{Group: 1 + k/2, Weight: weights[k%2]})
					}
					for online := 1; online <= n; online++ {
						check(t, f, 1, online, leaves)
					}
				}
			}
		}
	}
}

// shaken builds a forest of one or more roots by mixed calls: its groups are moved, weighed and dropped, and have members.
func shaken(t *testing.T, m *mixed, roots, calls int) *tree.Forest {
	t.Helper()
	f := grow(t, slices.Repeat([]group{{}}, roots)...)
	one := func() int {
		ids := f.Ids()
		return ids[m.upTo(len(ids)-1)]
	}
	for range calls {
		switch m.upTo(9) {
		case 0:
			f.Drop(one())
		case 1:
			f.SetWeight(one(), m.weight())
		case 2:
			f.Join(one())
		case 3:
			f.Wake(one())
		case 4, 5:
			f.Move(one(), one())
		default:
			f.Add(one(), m.weight())
		}
	}
	return f
}

// leavesBelow are some of groups below a root.
func leavesBelow(m *mixed, f *tree.Forest, root, most int) []share.Leaf {
	groups := slices.DeleteFunc(f.Ids(), func(id int) bool { return !f.Below(id, root) })
	groups = groups[m.upTo(len(groups)-1):] // else there would always be leaves of the root
	var leaves []share.Leaf
	for range m.upTo(most) {
		leaves = append(leaves, share.Leaf{Group: groups[m.upTo(len(groups)-1)], Weight: m.weight()})
	}
	return leaves
}

func TestMixed(t *testing.T) {
	m := mixed(0x9e3779b97f4a7c15)
	for _, size := range []struct{ roots, calls, leaves int }{{1, 5, 4}, {1, 20, 8}, {1, 60, 20}, {1, 300, 64}, {3, 30, 12}, {3, 200, 40}, {8, 400, 64}} {
		for range 12 {
			f := shaken(t, &m, size.roots, size.calls)
			for range 6 {
				root := 1 + m.upTo(size.roots-1)
				leaves := leavesBelow(&m, f, root, size.leaves)
				for _, online := range []int{1, 2, 1 + m.upTo(len(leaves)), 1 + m.upTo(api.MaxCores-1)} {
					check(t, f, root, online, leaves)
				}
			}
		}
	}
}

// TestMixedWrong: what is handed in may be wrong in one thing, or in several.
func TestMixedWrong(t *testing.T) {
	m := mixed(2463534242)
	seen := map[api.Errno]int{}
	for range 1500 {
		f := shaken(t, &m, 2, 20)
		root, online := 1+m.upTo(1), 1+m.upTo(5)
		leaves := leavesBelow(&m, f, root, 40)
		for range m.upTo(3) {
			if len(leaves) == 0 {
				break
			}
			leaf := &leaves[m.upTo(len(leaves)-1)]
			switch m.upTo(3) {
			case 0:
				leaf.Group = noIds[m.upTo(len(noIds)-1)]
			case 1:
				leaf.Group = 3 - root
			default:
				leaf.Weight = noWeights[m.upTo(len(noWeights)-1)]
			}
		}
		switch m.upTo(9) {
		case 0:
			root = m.upTo(20) - 1
		case 1:
			online = noCounts[m.upTo(len(noCounts)-1)]
		case 2:
			leaves = append(leaves, same(api.MaxThreads, root, 1)...)
		}
		seen[wordsOf(f, leaves).errno(root, online)]++
		check(t, f, root, online, leaves)
	}
	for _, errno := range []api.Errno{api.OK, api.ErrGroup, api.ErrRange, api.ErrFull, api.ErrWeight} {
		if seen[errno] == 0 {
			t.Errorf("none told %d: %v", errno, seen)
		}
	}
}

// TestOrderOfLeaves: a rate hangs on a leaf's group and weight, not on its place.
func TestOrderOfLeaves(t *testing.T) {
	m := mixed(521288629)
	for range 60 {
		f := shaken(t, &m, 1, 40)
		leaves := leavesBelow(&m, f, 1, 20)
		online := 1 + m.upTo(7)
		rates, _ := share.Rates(f, 1, online, leaves)
		_, groups := ask(t, f, 1, online, leaves)
		slices.Reverse(leaves)
		slices.Reverse(rates)
		turned, turnedGroups := ask(t, f, 1, online, leaves)
		if turned != told(byPlace(rates)) || turnedGroups != groups {
			t.Errorf("P9.1: %d cores, %v: %s, groups %s; the other way round %s, groups %s", online, leaves, turned, turnedGroups, told(byPlace(rates)), groups)
		}
	}
}

// TestOtherRoots: each root's own leaves have rates by that alone, whatever stands below another one.
func TestOtherRoots(t *testing.T) {
	f := grow(t, group{}, group{}, group{}, group{2, 3}, group{2, 1}, group{3, 10000}, group{1, 7}, group{4, 2})
	leaves := []share.Leaf{{4, 1}, {5, 1}, {8, 3}}
	if rates, groups := ask(t, f, 2, 1, leaves); rates != "0:1/4 1:1/4 2:1/2" || groups != "2:1 4:3/4 5:1/4 8:1/2" {
		t.Errorf("P9.1: below the second root: %s, groups %s", rates, groups)
	}
	for root := range 4 {
		for _, leaves := range [][]share.Leaf{nil, leaves, {{1, 1}}, {{7, 2}, {1, 2}}, {{3, 1}, {6, 1}}, {{3, 1}, {8, 1}}} {
			check(t, f, root, 2, leaves)
		}
	}
}

// TestChangedForest: each call goes by the forest as it is then: groups that are weighed, moved, and come and go.
func TestChangedForest(t *testing.T) {
	f := grow(t, group{}, group{1, 1}, group{1, 3}, group{2, 1})
	leaves := []share.Leaf{{2, 1}, {3, 1}, {4, 1}}
	expect := func(rates, groups string) {
		t.Helper()
		if gotRates, gotGroups := ask(t, f, 1, 1, leaves); gotRates != rates || gotGroups != groups {
			t.Errorf("P9.1, R8: %s, groups %s; want %s, groups %s", gotRates, gotGroups, rates, groups)
		}
		check(t, f, 1, 2, leaves)
	}
	expect("0:1/8 1:3/4 2:1/8", "1:1 2:1/4 3:3/4 4:1/8")
	f.SetWeight(2, 9)
	expect("0:3/8 1:1/4 2:3/8", "1:1 2:3/4 3:1/4 4:3/8")
	f.Move(2, 3) // below one with a greater id
	expect("0:9/20 1:1/10 2:9/20", "1:1 2:9/10 3:1 4:9/20")
	f.Move(4, 1)
	expect("0:27/40 1:3/40 2:1/4", "1:1 2:27/40 3:3/4 4:1/4")
	f.Drop(4)
	checkRefused(t, "a group that was dropped", f, 1, 1, leaves, api.ErrGroup)
	f.Add(1, 1)
	checkRefused(t, "another one came since", f, 1, 1, leaves, api.ErrGroup)
	leaves[2].Group = 5
	expect("0:27/40 1:3/40 2:1/4", "1:1 2:27/40 3:3/4 5:1/4")
}

// TestMembersDontCount: those that a forest has counted, asleep or awake, have no part in it: leaves alone have.
func TestMembersDontCount(t *testing.T) {
	f := grow(t, group{}, group{1, 1}, group{1, 3})
	leaves := []share.Leaf{{1, 4}, {2, 5}, {2, 1}, {3, 2}}
	rates, groups := ask(t, f, 1, 3, leaves)
	for _, g := range []int{1, 2, 3} {
		for range 32 {
			f.Join(g)
		}
		f.Wake(g)
	}
	if nowRates, nowGroups := ask(t, f, 1, 3, leaves); nowRates != rates || nowGroups != groups {
		t.Errorf("P9.1: with members: %s, groups %s; without %s, groups %s", nowRates, nowGroups, rates, groups)
	}
	check(t, f, 1, 1, same(32, 2, 1))
}

// newSmall is a root 1 with 2 and 3 below it in a row, and a root 4 with 5 below it; 6 was, and is there no more.
func newSmall(t *testing.T) *tree.Forest {
	t.Helper()
	f := grow(t, group{}, group{1, 2}, group{2, 3}, group{}, group{4, 5}, group{1, 6})
	f.Drop(6)
	return f
}

func TestNoRoot(t *testing.T) {
	f := newSmall(t)
	empty, _ := tree.New(4)
	for _, leaves := range [][]share.Leaf{nil, same(1, 1, 1), same(1, 2, 1), same(1, 3, 1), same(1, 5, 1), same(1, 0, 1), same(1, -1, 1)} {
		for _, root := range append(noIds, 2, 3, 5, 6, 7) {
			checkRefused(t, "no root", f, root, 1, leaves, api.ErrGroup)
		}
		for _, root := range append(noIds, 1, 2) {
			checkRefused(t, "no group at all", empty, root, 1, leaves, api.ErrGroup)
		}
	}
}

func TestNoCount(t *testing.T) {
	f := newSmall(t)
	for _, online := range noCounts {
		for _, leaves := range [][]share.Leaf{nil, same(1, 1, 1), same(3, 2, 1), same(64, 3, 1), same(1, 99, 0)} {
			checkRefused(t, "no count of cores", f, 1, online, leaves, api.ErrRange)
			checkRefused(t, "no count of cores", f, 4, online, leaves, api.ErrRange)
		}
	}
	for online := 1; online <= api.MaxCores; online++ {
		check(t, f, 1, online, same(3, 3, 1))
	}
}

// TestTooManyLeaves: each group has few enough.
func TestTooManyLeaves(t *testing.T) {
	f := grow(t, group{}, group{1, 1}, group{1, 1}, group{2, 1})
	leaves := append(append(same(22, 2, 1), same(22, 3, 1)...), same(20, 4, 1)...)
	check(t, f, 1, 5, leaves)
	for _, more := range []int{1, 2, 64, 1000} {
		checkRefused(t, "too many leaves", f, 1, 5, append(slices.Clone(leaves), same(more, 4, 1)...), api.ErrFull)
		checkRefused(t, "too many leaves", f, 1, 64, append(slices.Clone(leaves), same(more, 1, 1)...), api.ErrFull)
	}
}

// TestNoLeaves: a leaf that can't be stands first, in the midst, and last.
func TestNoLeaves(t *testing.T) {
	f := newSmall(t)
	for _, place := range []int{0, 7, 29} {
		refuse := func(leaf share.Leaf, want api.Errno) {
			t.Helper()
			leaves := append(same(10, 1, 1), append(same(10, 2, 1), same(10, 3, 1)...)...)
			check(t, f, 1, 3, leaves)
			leaves[place] = leaf
			checkRefused(t, "no leaf of this root", f, 1, 3, leaves, want)
			checkRefused(t, "no leaf of this root alone", f, 1, 3, []share.Leaf{leaf}, want)
		}
		for _, id := range append(noIds, 4, 5, 6, 7) {
			refuse(share.Leaf{Group: id, Weight: 1}, api.ErrGroup)
			refuse(share.Leaf{Group: id, Weight: 0}, api.ErrGroup)
		}
		for _, weight := range noWeights {
			refuse(share.Leaf{Group: 1, Weight: weight}, api.ErrWeight)
			refuse(share.Leaf{Group: 3, Weight: weight}, api.ErrWeight)
			refuse(share.Leaf{Group: 5, Weight: weight}, api.ErrGroup)
		}
	}
}

// TestOrderOfErrors: all things that may be wrong, each with each: the first in the chapter's order is told.
func TestOrderOfErrors(t *testing.T) {
	f := newSmall(t)
	first := func(errnos ...api.Errno) api.Errno {
		for _, errno := range errnos {
			if errno != api.OK {
				return errno
			}
		}
		return api.OK
	}
	behind := func(leaves []share.Leaf, more ...share.Leaf) []share.Leaf { return append(leaves, more...) }
	noGroup, otherRoot, noWeight, neither := share.Leaf{Group: 6, Weight: 1}, share.Leaf{Group: 5, Weight: 1}, share.Leaf{Group: 3, Weight: 0}, share.Leaf{Group: 4, Weight: 10001}
	for k, l := range []struct {
		leaves []share.Leaf
		want   api.Errno
	}{
		{nil, api.OK},
		{same(3, 2, 1), api.OK},
		{same(65, 2, 1), api.ErrFull},
		{same(65, 99, 1), api.ErrFull},
		{same(65, 2, 0), api.ErrFull},
		{same(65, 4, 0), api.ErrFull},
		{behind(same(1, 3, 1), noGroup), api.ErrGroup},
		{behind(same(1, 3, 1), otherRoot), api.ErrGroup},
		{behind(same(1, 3, 1), noWeight), api.ErrWeight},
		{behind(same(1, 3, 1), neither), api.ErrGroup},
		{[]share.Leaf{noGroup, noWeight}, api.ErrGroup},
		{[]share.Leaf{otherRoot, noWeight}, api.ErrGroup},
		{[]share.Leaf{noWeight, noGroup}, api.ErrWeight},
		{[]share.Leaf{noWeight, otherRoot}, api.ErrWeight},
		{[]share.Leaf{noWeight, neither}, api.ErrWeight},
		{same(33, 2, 1), api.ErrFull},
		{behind(same(33, 2, 1), noGroup), api.ErrGroup},
		{behind(same(33, 2, 1), otherRoot), api.ErrGroup},
		{behind(same(33, 2, 1), noWeight), api.ErrWeight},
		{behind(same(63, 1, 1), noWeight), api.ErrWeight},
		{behind(same(63, 1, 1), noWeight, noGroup), api.ErrFull},
		{behind([]share.Leaf{noWeight}, same(33, 2, 1)...), api.ErrWeight},
		{behind([]share.Leaf{neither}, same(33, 2, 1)...), api.ErrGroup},
	} {
		for _, root := range []struct {
			id   int
			want api.Errno
		}{{1, api.OK}, {2, api.ErrGroup}, {6, api.ErrGroup}, {0, api.ErrGroup}, {-1, api.ErrGroup}} {
			for _, online := range []struct {
				n    int
				want api.Errno
			}{{1, api.OK}, {64, api.OK}, {0, api.ErrRange}, {65, api.ErrRange}, {-1, api.ErrRange}} {
				want := first(root.want, online.want, l.want)
				if want != api.OK {
					checkRefused(t, "row "+strconv.Itoa(k), f, root.id, online.n, l.leaves, want)
				} else {
					check(t, f, root.id, online.n, l.leaves)
				}
			}
		}
	}
}

// tell is all that a forest tells, and the id that it gives next.
func tell(f *tree.Forest) string {
	var out []string
	for _, id := range f.Ids() {
		g, _ := f.Group(id)
		for _, n := range []int{g.Id, g.Parent, g.Weight, g.Depth, g.Root, g.Members, g.Awake, f.Active(id)} {
			out = append(out, strconv.Itoa(n))
		}
		for _, child := range f.Children(id) {
			out = append(out, "has "+strconv.Itoa(child))
		}
	}
	next, _ := f.Add(1, 1)
	f.Drop(next)
	return strings.Join(append(out, strconv.Itoa(next)), " ")
}

// TestForestStays: calls, rightly and wrongly made, change nothing of it.
func TestForestStays(t *testing.T) {
	m := mixed(123456789)
	for range 30 {
		seed := m
		f, twin := shaken(t, &m, 2, 40), shaken(t, &seed, 2, 40)
		leaves := leavesBelow(&m, f, 1, 40)
		for _, l := range [][]share.Leaf{nil, leaves, same(33, 1, 1), same(65, 1, 1), append(leaves, share.Leaf{Group: 2, Weight: 1})} {
			for _, root := range []int{1, 2, 3, 99} {
				for _, online := range []int{1, 3, 0, 65} {
					share.Rates(f, root, online, l)
					share.Groups(f, root, online, l)
				}
			}
		}
		if got, want := tell(f), tell(twin); got != want {
			t.Errorf("R4, R6: the forest became %s; want %s", got, want)
		}
	}
}

// TestMemory: leaves stay as they are, spare room included, and each list and natural that is answered is its own.
func TestMemory(t *testing.T) {
	m := mixed(987654321)
	for range 60 {
		f := shaken(t, &m, 1, 30)
		given := leavesBelow(&m, f, 1, 24)
		leaves := append(slices.Clip(slices.Clone(given)), same(5, 77, 77)...)[:len(given)]
		kept := slices.Clone(leaves[:cap(leaves)])
		online := 1 + m.upTo(9)
		rates, groups := ask(t, f, 1, online, leaves)
		limbs := answered(f, online, leaves)
		for i, list := range limbs {
			overwrite(list, uint64(1000+i))
		}
		for i, list := range limbs {
			for _, limb := range list[:cap(list)] {
				if limb != uint64(1000+i) {
					t.Fatalf("R6: the natural %d shares memory with %d", i, limb-1000)
				}
			}
		}
		if !slices.Equal(kept, leaves[:cap(leaves)]) {
			t.Errorf("R6: leaves became %v; were %v", leaves[:cap(leaves)], kept)
		}
		if again, groupsAgain := ask(t, f, 1, online, leaves); again != rates || groupsAgain != groups {
			t.Errorf("R6, R8: %s, groups %s became %s, groups %s", rates, groups, again, groupsAgain)
		}
	}
}

// answered are all naturals that both calls, made twice, answer; the lists and maps themselves are emptied.
func answered(f *tree.Forest, online int, leaves []share.Leaf) []nat.Nat {
	var limbs []nat.Nat
	for range 2 {
		rates, _ := share.Rates(f, 1, online, leaves)
		groups, _ := share.Groups(f, 1, online, leaves)
		for _, r := range slices.Concat(rates, slices.Collect(maps.Values(groups))) {
			limbs = append(limbs, r.Num, r.Den)
		}
		clear(rates[:cap(rates)])
		clear(groups)
	}
	return limbs
}

func overwrite(list nat.Nat, n uint64) {
	whole := list[:cap(list)]
	for i := range whole {
		whole[i] = n
	}
}
