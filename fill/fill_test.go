package fill_test

import (
	"math"
	"math/big"
	"slices"
	"strings"
	"testing"

	"roundel/api"
	"roundel/fill"
	"roundel/nat"
	"roundel/ratio"
)

// mixed makes numbers by a fixed rule, so that each run tests the same ones.
type mixed uint64

func (m *mixed) next() uint64 {
	*m ^= *m << 13
	*m ^= *m >> 7
	*m ^= *m << 17
	return uint64(*m)
}

func (m *mixed) upTo(most int) int { return int(m.next() % uint64(most+1)) }

func (m *mixed) list(n int, one func() int) []int {
	out := make([]int, n)
	for i := range out {
		out[i] = one()
	}
	return out
}

// weight is mostly a small one, so that several children come to their caps at one level, at times any, or the greatest.
func (m *mixed) weight() int {
	switch m.upTo(4) {
	case 0:
		return 1 + m.upTo(api.MaxWeight-1)
	case 1:
		return api.MaxWeight
	}
	return 1 + m.upTo(5)
}

func (m *mixed) cap() int {
	switch m.upTo(5) {
	case 0:
		return m.upTo(api.MaxThreads)
	case 1:
		return 0
	}
	return m.upTo(4)
}

func total(numbers []int) *big.Rat {
	sum := 0
	for _, n := range numbers {
		sum += n
	}
	return whole(sum)
}

func whole(n int) *big.Rat { return new(big.Rat).SetInt64(int64(n)) }

func repeat(n, times int) []int { return slices.Repeat([]int{n}, times) }

// rational reads a text by other means than the package under test.
func rational(t *testing.T, text string) *big.Rat {
	t.Helper()
	x, ok := new(big.Rat).SetString(text)
	if !ok {
		t.Fatalf("%q is no number", text)
	}
	return x
}

func of(t *testing.T, x *big.Rat) ratio.Ratio {
	t.Helper()
	r, errno := ratio.Read(x.RatString())
	if errno != api.OK {
		t.Fatalf("%s can't be read: %d", x, errno)
	}
	return r
}

// atLevel is what a child gets at a level, by the words.
func atLevel(level *big.Rat, weight, limit int) *big.Rat {
	got := new(big.Rat).Mul(whole(weight), level)
	if got.Cmp(whole(limit)) > 0 {
		return whole(limit)
	}
	return got
}

func allAtLevel(level *big.Rat, weights, caps []int) *big.Rat {
	sum := new(big.Rat)
	for i := range weights {
		sum.Add(sum, atLevel(level, weights[i], caps[i]))
	}
	return sum
}

// wantLevel finds the level between two neighbours of the levels at which children come to their caps: between them what all get rises evenly.
func wantLevel(x *big.Rat, weights, caps []int) *big.Rat {
	low, lowGets := new(big.Rat), new(big.Rat)
	for lowGets.Cmp(x) < 0 {
		high := nextFull(low, weights, caps)
		highGets := allAtLevel(high, weights, caps)
		if highGets.Cmp(x) >= 0 {
			part := new(big.Rat).Quo(new(big.Rat).Sub(x, lowGets), new(big.Rat).Sub(highGets, lowGets))
			return low.Add(low, part.Mul(part, new(big.Rat).Sub(high, low)))
		}
		low, lowGets = high, highGets
	}
	return low
}

// nextFull is the least level above another one at which a child comes to its cap.
func nextFull(above *big.Rat, weights, caps []int) *big.Rat {
	var next *big.Rat
	for i := range weights {
		full := big.NewRat(int64(caps[i]), int64(weights[i]))
		if full.Cmp(above) > 0 && (next == nil || full.Cmp(next) < 0) {
			next = full
		}
	}
	return next
}

// checkFill holds both calls against another reckoning of the level, and the words; it answers what each child gets.
func checkFill(t *testing.T, x *big.Rat, weights, caps []int) []*big.Rat {
	t.Helper()
	gets, errno := fill.Fill(of(t, x), weights, caps)
	level, errnoLevel := fill.Level(of(t, x), weights, caps)
	if errno != api.OK || errnoLevel != api.OK {
		t.Fatalf("P4.1: %s among %v, caps %v: Fill %d, Level %d", x.RatString(), weights, caps, errno, errnoLevel)
	}
	want := wantLevel(x, weights, caps)
	if !level.Good() || level.Text() != want.RatString() {
		t.Fatalf("P4.1: %s among %v, caps %v: level %s; want %s", x.RatString(), weights, caps, level.Text(), want.RatString())
	}
	if len(gets) != len(weights) {
		t.Fatalf("P4.1: %s among %v, caps %v: %d get something", x.RatString(), weights, caps, len(gets))
	}
	sum := new(big.Rat)
	parts := make([]*big.Rat, len(gets))
	for i, got := range gets {
		if part := atLevel(want, weights[i], caps[i]); !got.Good() || got.Text() != part.RatString() {
			t.Fatalf("P4.1: %s among %v, caps %v: child %d gets %s; want %s", x.RatString(), weights, caps, i, got.Text(), part.RatString())
		}
		parts[i] = rational(t, got.Text())
		sum.Add(sum, parts[i])
	}
	if sum.Cmp(x) != 0 {
		t.Fatalf("P4.1: %s among %v, caps %v: %s in all", x.RatString(), weights, caps, sum.RatString())
	}
	return parts
}

// checkRefused looks for one error of both calls, and nothing beside it.
func checkRefused(t *testing.T, what string, x ratio.Ratio, weights, caps []int, want api.Errno) {
	t.Helper()
	if gets, errno := fill.Fill(x, weights, caps); len(gets) != 0 || errno != want {
		t.Errorf("P4.1, R2, R3: Fill of %s: %v, %d; want nothing, %d", what, gets, errno, want)
	}
	if level, errno := fill.Level(x, weights, caps); len(level.Num) != 0 || len(level.Den) != 0 || errno != want {
		t.Errorf("P4.1, R2, R3: Level of %s: %v, %d; want nothing, %d", what, level, errno, want)
	}
}

// TestTold: sharings whose answers are written out.
func TestTold(t *testing.T) {
	for _, c := range []struct {
		x             string
		weights, caps []int
		gets, level   string
	}{
		{"2", []int{1, 1, 8}, []int{1, 1, 1}, "1/2 1/2 1", "1/2"},
		{"2", []int{8, 1, 1}, []int{1, 1, 1}, "1 1/2 1/2", "1/2"},
		{"1", []int{1, 2, 3}, []int{1, 1, 1}, "1/6 1/3 1/2", "1/6"},
		{"2", []int{1, 2, 3}, []int{1, 1, 1}, "1/3 2/3 1", "1/3"},
		{"5/2", []int{1, 2, 3}, []int{1, 1, 1}, "1/2 1 1", "1/2"},
		{"11/4", []int{1, 2, 3}, []int{1, 1, 1}, "3/4 1 1", "3/4"},
		{"3", []int{1, 2, 3}, []int{1, 1, 1}, "1 1 1", "1"},
		{"0", []int{1, 2, 3}, []int{1, 1, 1}, "0 0 0", "0"},
		{"0", nil, nil, "", "0"},
		{"0", []int{}, []int{}, "", "0"},
		{"0", []int{7}, []int{0}, "0", "0"},
		{"0", []int{7}, []int{3}, "0", "0"},
		{"1/2", []int{7}, []int{3}, "1/2", "1/14"},
		{"3", []int{7}, []int{3}, "3", "3/7"},
		{"64", []int{1}, []int{64}, "64", "64"},
		{"64", []int{10000}, []int{64}, "64", "4/625"},
		{"3", []int{5, 1, 9, 2}, []int{0, 4, 0, 2}, "0 1 0 2", "1"},
		{"6", []int{5, 1, 9, 2}, []int{0, 4, 0, 2}, "0 4 0 2", "4"},
		{"1", []int{10000, 1}, []int{1, 64}, "10000/10001 1/10001", "1/10001"},
		{"65", []int{10000, 1}, []int{1, 64}, "1 64", "64"},
	} {
		x := of(t, rational(t, c.x))
		gets, errno := fill.Fill(x, c.weights, c.caps)
		level, errnoLevel := fill.Level(x, c.weights, c.caps)
		texts := make([]string, len(gets))
		for i, got := range gets {
			texts[i] = got.Text()
		}
		if out := strings.Join(texts, " "); errno != api.OK || errnoLevel != api.OK || out != c.gets || level.Text() != c.level {
			t.Errorf("P4.1: %s among %v, caps %v: %s, level %s, %d, %d; want %s, level %s", c.x, c.weights, c.caps, out, level.Text(), errno, errnoLevel, c.gets, c.level)
		}
	}
}

// edges are children whose weights and caps stand at their limits, or come to their caps in ways of their own.
func edges() [][2][]int {
	rising := make([]int, api.MaxFan)
	for i := range rising {
		rising[i] = i + 1
	}
	falling := slices.Clone(rising)
	slices.Reverse(falling)
	return [][2][]int{
		{nil, nil},
		{{1}, {0}}, {{1}, {1}}, {{1}, {64}}, {{10000}, {0}}, {{10000}, {1}}, {{10000}, {64}},
		{{1, 1}, {0, 0}}, {{1, 10000}, {64, 64}}, {{1, 10000}, {64, 0}}, {{1, 10000}, {0, 64}}, {{9999, 10000}, {63, 64}},
		{{1, 2, 4, 8}, {1, 2, 4, 8}}, {{8, 4, 2, 1}, {1, 2, 4, 8}}, {{1, 2, 4, 8}, {1, 1, 1, 1}}, {{3, 3, 3, 3}, {4, 3, 2, 1}}, {{6, 4, 2}, {3, 2, 1}},
		{{1, 1, 10000}, {0, 0, 1}}, {{5, 5, 5}, {0, 1, 0}},
		{repeat(1, 32), repeat(0, 32)}, {repeat(1, 32), repeat(1, 32)}, {repeat(10000, 32), repeat(64, 32)}, {repeat(1, 32), repeat(64, 32)},
		{rising, repeat(1, 32)}, {repeat(1, 32), rising}, {rising, rising}, {rising, falling}, {falling, rising},
	}
}

// amounts to share: nothing, all, each at which a child comes to its cap, their neighbours, and ones between.
func amounts(weights, caps []int) []*big.Rat {
	most := total(caps)
	near := big.NewRat(1, 1_000_003)
	var out []*big.Rat
	add := func(x *big.Rat) {
		if x.Sign() >= 0 && x.Cmp(most) <= 0 {
			out = append(out, x)
		}
	}
	around := func(x *big.Rat) {
		add(x)
		add(new(big.Rat).Add(x, near))
		add(new(big.Rat).Sub(x, near))
	}
	around(new(big.Rat))
	around(most)
	for i := range weights {
		around(allAtLevel(big.NewRat(int64(caps[i]), int64(weights[i])), weights, caps))
	}
	for _, part := range []*big.Rat{big.NewRat(1, 2), big.NewRat(1, 3), big.NewRat(9, 10), big.NewRat(1, math.MaxInt64), big.NewRat(math.MaxInt64-1, math.MaxInt64)} {
		add(new(big.Rat).Mul(most, part))
	}
	return out
}

func TestEdges(t *testing.T) {
	for _, e := range edges() {
		for _, x := range amounts(e[0], e[1]) {
			checkFill(t, x, e[0], e[1])
		}
	}
}

// TestAllCapsAreGot: x is the sum of the caps, the level the greatest at which one comes to its cap.
func TestAllCapsAreGot(t *testing.T) {
	for _, e := range edges() {
		weights, caps := e[0], e[1]
		for i, got := range checkFill(t, total(caps), weights, caps) {
			if got.Cmp(whole(caps[i])) != 0 {
				t.Errorf("P4.1: all caps %v shared by %v: child %d gets %s", caps, weights, i, got.RatString())
			}
		}
	}
}

// TestSmallOnes: every two and three children of small weights and caps, with every amount by quarters.
func TestSmallOnes(t *testing.T) {
	for n := range 3 * 3 * 3 * 3 * 3 * 3 {
		digit := func(k int) int { return n / []int{1, 3, 9, 27, 81, 243}[k] % 3 }
		weights := []int{digit(0) + 1, digit(1) + 1, digit(2) + 1}
		caps := []int{digit(3), digit(4), digit(5)}
		for _, children := range []int{2, 3} {
			w, c := weights[:children], caps[:children]
			for x := new(big.Rat); x.Cmp(total(c)) <= 0; x.Add(x, big.NewRat(1, 4)) {
				checkFill(t, x, w, c)
			}
		}
	}
}

func TestMixed(t *testing.T) {
	m := mixed(88172645463325252)
	for range 400 {
		n := m.upTo(api.MaxFan)
		weights, caps := m.list(n, m.weight), m.list(n, m.cap)
		some := amounts(weights, caps)
		for range 4 {
			checkFill(t, some[m.upTo(len(some)-1)], weights, caps)
		}
	}
}

// TestLongRatios: what is shared has many limbs.
func TestLongRatios(t *testing.T) {
	long := new(big.Int).Lsh(big.NewInt(1), 4000)
	odd := new(big.Int).Add(long, big.NewInt(1))
	for _, e := range edges() {
		for _, part := range []*big.Rat{new(big.Rat).SetFrac(big.NewInt(1), odd), new(big.Rat).SetFrac(long, odd), new(big.Rat).SetFrac(new(big.Int).Rsh(long, 1), odd)} {
			checkFill(t, new(big.Rat).Mul(part, total(e[1])), e[0], e[1])
		}
	}
}

// TestMoreToShare: of more, none gets less.
func TestMoreToShare(t *testing.T) {
	m := mixed(0x9e3779b97f4a7c15)
	all := edges()
	for range 60 {
		n := 1 + m.upTo(api.MaxFan-1)
		all = append(all, [2][]int{m.list(n, m.weight), m.list(n, m.cap)})
	}
	for _, e := range all {
		some := amounts(e[0], e[1])
		slices.SortFunc(some, (*big.Rat).Cmp)
		checkRising(t, some, e[0], e[1])
	}
}

func checkRising(t *testing.T, some []*big.Rat, weights, caps []int) {
	t.Helper()
	var before []ratio.Ratio
	for _, x := range some {
		gets, errno := fill.Fill(of(t, x), weights, caps)
		if errno != api.OK || len(gets) != len(weights) {
			t.Fatalf("P4.2: %s among %v, caps %v: %v, %d", x.RatString(), weights, caps, gets, errno)
		}
		for i, less := range before {
			if ratio.Cmp(less, gets[i]) > 0 {
				t.Errorf("P4.2: %s among %v, caps %v: child %d gets %s, and had %s of less", x.RatString(), weights, caps, i, gets[i].Text(), less.Text())
			}
		}
		before = gets
	}
}

// TestOrderOfChildren: what a child gets hangs on the others' weights and caps, not on its place.
func TestOrderOfChildren(t *testing.T) {
	m := mixed(362436069)
	for range 50 {
		n := 2 + m.upTo(api.MaxFan-2)
		weights, caps := m.list(n, m.weight), m.list(n, m.cap)
		x := new(big.Rat).Mul(total(caps), big.NewRat(2, 3))
		gets := checkFill(t, x, weights, caps)
		slices.Reverse(weights)
		slices.Reverse(caps)
		turned := checkFill(t, x, weights, caps)
		slices.Reverse(turned)
		if !slices.EqualFunc(gets, turned, func(a, b *big.Rat) bool { return a.Cmp(b) == 0 }) {
			t.Errorf("P4.1: %s among %v, caps %v, turned round: %v; was %v", x.RatString(), weights, caps, turned, gets)
		}
	}
}

// noRatios: no denominator, limbs with zeros behind, and ones that aren't in lowest terms.
func noRatios() []ratio.Ratio {
	one, two := nat.Of(1), nat.Of(2)
	return []ratio.Ratio{
		{}, {Num: one}, {Num: two, Den: nat.Nat{}}, {Den: nat.Nat{0}}, {Num: one, Den: nat.Nat{0, 0}},
		{Num: nat.Nat{0}, Den: one}, {Num: nat.Nat{1, 0}, Den: one}, {Num: one, Den: nat.Nat{2, 0}},
		{Den: two}, {Num: two, Den: two}, {Num: two, Den: nat.Of(4)}, {Num: nat.Of(4), Den: two}, {Num: nat.Nat{0, 2}, Den: nat.Nat{0, 0, 3}},
	}
}

func TestNoRatio(t *testing.T) {
	for _, x := range noRatios() {
		checkRefused(t, "no ratio", x, []int{1, 2}, []int{3, 4}, api.ErrForm)
		checkRefused(t, "no ratio among none", x, nil, nil, api.ErrForm)
		checkRefused(t, "no ratio and all else wrong", x, append(repeat(0, 33), 1), repeat(-1, 33), api.ErrForm)
		checkRefused(t, "no ratio and too many", x, repeat(1, 33), repeat(1, 33), api.ErrForm)
		checkRefused(t, "no ratio and no weight", x, []int{0}, []int{1}, api.ErrForm)
		checkRefused(t, "no ratio and no cap", x, []int{1}, []int{-1}, api.ErrForm)
		checkRefused(t, "no ratio and no caps to share", x, []int{1}, []int{0}, api.ErrForm)
	}
}

func TestNotAsManyCaps(t *testing.T) {
	for _, c := range []struct{ weights, caps int }{{0, 1}, {1, 0}, {1, 2}, {2, 1}, {31, 32}, {32, 31}, {32, 33}, {33, 32}, {33, 34}, {0, 33}, {33, 0}, {1000, 1}} {
		for _, x := range []int{0, 1, 5000} {
			checkRefused(t, "not as many caps", ratio.Int(x), repeat(1, c.weights), repeat(1, c.caps), api.ErrForm)
			checkRefused(t, "not as many caps, and none that can be", ratio.Int(x), repeat(0, c.weights), repeat(-1, c.caps), api.ErrForm)
		}
	}
}

func TestTooManyChildren(t *testing.T) {
	for _, n := range []int{api.MaxFan + 1, api.MaxFan + 2, 64, 10000} {
		for _, x := range []int{0, 1, 1 << 30} {
			checkRefused(t, "too many", ratio.Int(x), repeat(1, n), repeat(1, n), api.ErrFull)
			checkRefused(t, "too many without weights", ratio.Int(x), repeat(0, n), repeat(1, n), api.ErrFull)
			checkRefused(t, "too many with no caps", ratio.Int(x), repeat(1, n), repeat(65, n), api.ErrFull)
		}
	}
}

// TestNoWeights: the one that can't be stands first, in the midst, and last.
func TestNoWeights(t *testing.T) {
	for _, weight := range []int{0, -1, api.MaxWeight + 1, math.MaxInt, math.MinInt} {
		for _, i := range []int{0, 3, api.MaxFan - 1} {
			weights, caps := repeat(1, api.MaxFan), repeat(1, api.MaxFan)
			weights[i] = weight
			checkRefused(t, "no weight", ratio.Int(0), weights, caps, api.ErrWeight)
			checkRefused(t, "no weight, and too much", ratio.Int(33), weights, caps, api.ErrWeight)
			checkRefused(t, "no weight, and caps that can't be", ratio.Int(33), weights, repeat(-1, api.MaxFan), api.ErrWeight)
		}
		checkRefused(t, "no weight of a cap of 0", ratio.Int(0), []int{weight}, []int{0}, api.ErrWeight)
		checkRefused(t, "no cap, ahead of no weight", ratio.Int(0), []int{1, weight}, []int{65, 1}, api.ErrWeight)
	}
}

func TestNoCaps(t *testing.T) {
	for _, limit := range []int{-1, api.MaxThreads + 1, math.MaxInt, math.MinInt} {
		for _, i := range []int{0, 3, api.MaxFan - 1} {
			weights, caps := repeat(1, api.MaxFan), repeat(1, api.MaxFan)
			caps[i] = limit
			checkRefused(t, "no cap", ratio.Int(0), weights, caps, api.ErrRange)
			checkRefused(t, "no cap, and much to share", ratio.Int(5000), weights, caps, api.ErrRange)
		}
		checkRefused(t, "no cap of the greatest weight", ratio.Int(0), []int{api.MaxWeight}, []int{limit}, api.ErrRange)
	}
	checkRefused(t, "caps that are good in all alone", ratio.Int(1), []int{1, 1}, []int{-1, 2}, api.ErrRange)
	checkRefused(t, "caps whose sum goes round", ratio.Int(1), []int{1, 1, 1}, []int{math.MaxInt, math.MaxInt, 3}, api.ErrRange)
}

// TestTooMuch: by one, and by as little as one likes.
func TestTooMuch(t *testing.T) {
	huge := new(big.Int).Lsh(big.NewInt(1), 5000)
	for _, e := range edges() {
		for _, more := range []*big.Rat{big.NewRat(1, 1), big.NewRat(1, 2), new(big.Rat).SetFrac(big.NewInt(1), huge), new(big.Rat).SetInt(huge)} {
			x := new(big.Rat).Add(total(e[1]), more)
			checkRefused(t, "more than all caps", of(t, x), e[0], e[1], api.ErrRange)
		}
	}
}

// room is a list with others' numbers in its spare room.
func room[E any](list []E, spare E) []E {
	return append(slices.Clip(slices.Clone(list)), spare, spare, spare)[:len(list)]
}

// TestMemory: arguments stay as they are, spare room included, and each list that is answered is its own.
func TestMemory(t *testing.T) {
	for _, e := range edges() {
		for _, amount := range amounts(e[0], e[1]) {
			clean := of(t, amount)
			x := ratio.Ratio{Num: room(clean.Num, 77), Den: room(clean.Den, 77)}
			weights, caps := room(e[0], 77), room(e[1], 77)
			limbs, numbers := wholes(x.Num, x.Den), wholes(weights, caps)
			lists := answered(x, weights, caps)
			for i, list := range lists {
				overwrite(list, uint64(1000+i))
			}
			checkOwn(t, lists)
			if !slices.EqualFunc(limbs, wholes(x.Num, x.Den), slices.Equal[nat.Nat]) || !slices.EqualFunc(numbers, wholes(weights, caps), slices.Equal[[]int]) {
				t.Fatalf("R6: arguments became %v, %v; were %v, %v", wholes(x.Num, x.Den), wholes(weights, caps), limbs, numbers)
			}
		}
	}
}

// wholes are copies of lists, with their spare room.
func wholes[L ~[]E, E any](lists ...L) []L {
	var out []L
	for _, list := range lists {
		out = append(out, slices.Clone(list[:cap(list)]))
	}
	return out
}

// answered are all limbs that both calls, made twice, answer.
func answered(x ratio.Ratio, weights, caps []int) []nat.Nat {
	var all []ratio.Ratio
	for range 2 {
		gets, _ := fill.Fill(x, weights, caps)
		level, _ := fill.Level(x, weights, caps)
		all = append(append(all, gets...), level)
	}
	var lists []nat.Nat
	for _, r := range all {
		lists = append(lists, r.Num, r.Den)
	}
	return lists
}

func overwrite(list nat.Nat, n uint64) {
	whole := list[:cap(list)]
	for i := range whole {
		whole[i] = n
	}
}

func checkOwn(t *testing.T, lists []nat.Nat) {
	t.Helper()
	for i, list := range lists {
		for _, n := range list[:cap(list)] {
			if n != uint64(1000+i) {
				t.Fatalf("R6: the answer %d shares memory with %d", i, n-1000)
			}
		}
	}
}

// TestSameAnswers: what was asked before is not in an answer.
func TestSameAnswers(t *testing.T) {
	ask := func() []nat.Nat { return answered(ratio.Int(2), []int{1, 1, 8}, []int{1, 1, 1}) }
	before := ask()
	fill.Fill(ratio.Int(7), []int{5, 3}, []int{4, 4})
	fill.Level(ratio.Int(9), []int{5, 3}, []int{4, 4})
	if after := ask(); !slices.EqualFunc(before, after, slices.Equal[nat.Nat]) {
		t.Errorf("R8: %v became %v", before, after)
	}
}
