package slice_test

import (
	"math"
	"math/big"
	"slices"
	"testing"

	"roundel/api"
	"roundel/nat"
	"roundel/ratio"
	"roundel/slice"
)

// noQuanta can't be: the edges, and ones that a cut to fewer bits would take for one that can.
var noQuanta = []int{0, -1, -2, -1000, 1001, 1002, 10000, 1 << 16, 1<<16 + 1, 1 << 32, 1<<32 + 1, -1<<32 + 1, math.MinInt, math.MinInt + 1, math.MaxInt}

// quanta are the edges, and some between.
var quanta = []int{1, 2, 3, 4, 7, 10, 30, 64, 97, 255, 256, 257, 500, 998, 999, 1000}

// mixed makes numbers by a fixed rule, so that each run tests the same ones.
type mixed uint64

func (m *mixed) next() uint64 {
	*m ^= *m << 13
	*m ^= *m >> 7
	*m ^= *m << 17
	return uint64(*m)
}

func (m *mixed) upTo(most int) int { return int(m.next() % uint64(most+1)) }

// long is a number of up to so many limbs, some of them at their edges, and isn't 0.
func (m *mixed) long(most int) *big.Int {
	n := big.NewInt(1)
	for range m.upTo(most - 1) {
		x := m.next()
		switch m.upTo(3) {
		case 0:
			x = 0
		case 1:
			x = math.MaxUint64
		}
		n.Lsh(n, 64).Or(n, new(big.Int).SetUint64(x))
	}
	return n
}

// rate is at most 1, its numerator and its denominator of up to five limbs.
func (m *mixed) rate() *big.Rat {
	a, b := m.long(5), m.long(5)
	if a.Cmp(b) > 0 {
		a, b = b, a
	}
	return new(big.Rat).SetFrac(a, b)
}

func power(n uint) *big.Int { return new(big.Int).Lsh(big.NewInt(1), n) }

// specks are amounts by which a rate is just beside another one, of one limb and of several.
func specks() []*big.Rat {
	one := big.NewInt(1)
	return []*big.Rat{big.NewRat(1, 1_000_003), new(big.Rat).SetFrac(one, power(64)), new(big.Rat).SetFrac(one, power(1000))}
}

// rational reads a text by other means than the package under test.
func rational(t *testing.T, text string) *big.Rat {
	t.Helper()
	x, ok := new(big.Rat).SetString(text)
	if !ok {
		t.Fatalf("%q is no number", text)
	}
	return x
}

func of(t *testing.T, x *big.Rat) ratio.Ratio {
	t.Helper()
	r, errno := ratio.Read(x.RatString())
	if errno != api.OK {
		t.Fatalf("%s can't be read: %d", x.RatString(), errno)
	}
	return r
}

func allOf(t *testing.T, some []*big.Rat) []ratio.Ratio {
	t.Helper()
	var out []ratio.Ratio
	for _, x := range some {
		out = append(out, of(t, x))
	}
	return out
}

func times(quantum int, x *big.Rat) *big.Rat {
	return new(big.Rat).Mul(new(big.Rat).SetInt64(int64(quantum)), x)
}

// want is a rate's slice by the words.
func want(quantum int, x *big.Rat) int {
	exact := times(quantum, x)
	whole := new(big.Int).Div(exact.Num(), exact.Denom())
	return int(max(whole.Int64(), 1))
}

// checkOf holds Of against the words, and what it answers against the promises.
func checkOf(t *testing.T, quantum int, x *big.Rat) int {
	t.Helper()
	got, errno := slice.Of(quantum, of(t, x))
	if got != want(quantum, x) || errno != api.OK {
		t.Fatalf("P10.1: Of(%d, %s): %d, %d; want %d", quantum, x.RatString(), got, errno, want(quantum, x))
	}
	if got < 1 || got > quantum {
		t.Fatalf("P10.2: Of(%d, %s): %d isn't from 1 to the quantum", quantum, x.RatString(), got)
	}
	apart := new(big.Rat).SetInt64(int64(got))
	apart.Abs(apart.Sub(apart, times(quantum, x)))
	if isLess := apart.Cmp(big.NewRat(1, 1)) < 0; isLess == (x.Sign() == 0) { // the rate 0 alone is a whole tick below its slice
		t.Fatalf("P10.2: Of(%d, %s): %d differs by %s", quantum, x.RatString(), got, apart.RatString())
	}
	return got
}

// checkAll holds All against the words, rate by rate.
func checkAll(t *testing.T, quantum int, some []*big.Rat) {
	t.Helper()
	got, errno := slice.All(quantum, allOf(t, some))
	if errno != api.OK || len(got) != len(some) {
		t.Fatalf("P10.1: All(%d) of %d rates: %v, %d", quantum, len(some), got, errno)
	}
	total := 0
	for i, x := range some {
		if got[i] != want(quantum, x) {
			t.Fatalf("P10.1: All(%d): rate %d, %s: %d; want %d", quantum, i, x.RatString(), got[i], want(quantum, x))
		}
		total += got[i]
	}
	if sum := slice.Sum(got); sum != total {
		t.Fatalf("P10.1: Sum(%v): %d; want %d", got, sum, total)
	}
}

// refuseOf looks for one error of Of, and nothing beside it.
func refuseOf(t *testing.T, what string, quantum int, rate ratio.Ratio, want api.Errno) {
	t.Helper()
	if got, errno := slice.Of(quantum, rate); got != 0 || errno != want {
		t.Errorf("P10.1, R2, R3: Of(%d), %s %v: %d, %d; want 0, %d", quantum, what, rate, got, errno, want)
	}
}

// refuseAll looks for one error of All, and nothing beside it.
func refuseAll(t *testing.T, what string, quantum int, rates []ratio.Ratio, want api.Errno) {
	t.Helper()
	if got, errno := slice.All(quantum, rates); len(got) != 0 || errno != want {
		t.Errorf("P10.1, R2, R3: All(%d), %s: %v, %d; want nothing, %d", quantum, what, got, errno, want)
	}
}

// TestTold: slices that are written out.
func TestTold(t *testing.T) {
	for _, c := range []struct {
		quantum int
		rate    string
		want    int
	}{
		{10, "1/3", 3}, {10, "1/20", 1}, // the chapter's examples
		{10, "0", 1}, {10, "1/1000000", 1}, {10, "99/1000", 1}, {10, "1/10", 1}, {10, "199/1000", 1}, {10, "1/5", 2}, {10, "1/2", 5}, {10, "2/3", 6}, {10, "99/100", 9}, {10, "1", 10},
		{1, "0", 1}, {1, "1/1000", 1}, {1, "1/2", 1}, {1, "999/1000", 1}, {1, "1", 1},
		{2, "1/2", 1}, {2, "999/1000", 1}, {2, "1", 2},
		{3, "1/3", 1}, {3, "2/3", 2}, {3, "33333333/50000000", 1}, {3, "66666667/100000000", 2},
		{1000, "0", 1}, {1000, "1/1000", 1}, {1000, "1/1001", 1}, {1000, "1/999", 1}, {1000, "1/501", 1}, {1000, "1/500", 2}, {1000, "1/499", 2}, {1000, "1/3", 333}, {1000, "2/3", 666}, {1000, "3/8", 375}, {1000, "998/999", 998}, {1000, "999/1000", 999}, {1000, "1000/1001", 999}, {1000, "1", 1000},
		{1000, "1/18446744073709551616", 1}, {1000, "9223372036854775807/18446744073709551616", 499}, {1000, "9223372036854775809/18446744073709551616", 500},
		{1000, "18446744073709551615/18446744073709551616", 999}, {1, "18446744073709551615/18446744073709551616", 1},
		{1000, "113427455640312821154458202477256070485/340282366920938463463374607431768211456", 333}, // 2^128 by 3, rounded down, by 2^128
		{3, "113427455640312821154458202477256070485/340282366920938463463374607431768211456", 1},
	} {
		x := rational(t, c.rate)
		if got, errno := slice.Of(c.quantum, of(t, x)); got != c.want || errno != api.OK {
			t.Errorf("P10.1: Of(%d, %s): %d, %d; want %d", c.quantum, c.rate, got, errno, c.want)
		}
		if got, errno := slice.All(c.quantum, []ratio.Ratio{of(t, x)}); !slices.Equal(got, []int{c.want}) || errno != api.OK {
			t.Errorf("P10.1: All(%d) of %s alone: %v, %d; want %d", c.quantum, c.rate, got, errno, c.want)
		}
		checkOf(t, c.quantum, x)
	}
}

// around are those rates that a slice may change at, with what is just below and just above each: k by the quantum, for each k.
func around(quantum int) []*big.Rat {
	var out []*big.Rat
	for k := range quantum + 1 {
		x := big.NewRat(int64(k), int64(quantum))
		out = append(out, x)
		for _, speck := range specks() {
			if k > 0 {
				out = append(out, new(big.Rat).Sub(x, speck))
			}
			if k < quantum {
				out = append(out, new(big.Rat).Add(x, speck))
			}
		}
	}
	return out
}

func TestEachStep(t *testing.T) {
	for _, quantum := range quanta {
		for _, x := range around(quantum) {
			checkOf(t, quantum, x)
		}
	}
}

// TestEachQuantum: the rate 0, the least ones, ones just at 1, and some between, of each quantum that can be.
func TestEachQuantum(t *testing.T) {
	for quantum := 1; quantum <= 1000; quantum++ {
		q := int64(quantum)
		some := []*big.Rat{new(big.Rat), big.NewRat(1, 1), big.NewRat(1, q), big.NewRat(q-1, q), big.NewRat(1, q+1), big.NewRat(q, q+1), big.NewRat(2, q+1), big.NewRat(1, 2), big.NewRat(1, 3), big.NewRat(2, 3), big.NewRat(9999, 10000), big.NewRat(1, 10000)}
		for _, speck := range specks() {
			some = append(some, speck, new(big.Rat).Sub(big.NewRat(1, 1), speck), new(big.Rat).Sub(big.NewRat(1, q), speck))
		}
		for _, x := range some {
			if x.Sign() >= 0 && x.Cmp(big.NewRat(1, 1)) <= 0 {
				checkOf(t, quantum, x)
			}
		}
		checkOf(t, quantum, new(big.Rat).SetFrac(power(5000), new(big.Int).Add(power(5000), big.NewInt(1))))
		if got := checkOf(t, quantum, big.NewRat(1, 1)); got != quantum {
			t.Errorf("P10.1: Of(%d, 1): %d", quantum, got)
		}
		if got := checkOf(t, quantum, new(big.Rat)); got != 1 {
			t.Errorf("P10.1: Of(%d, 0): %d", quantum, got)
		}
	}
}

// TestSmallRates: every rate of a small denominator.
func TestSmallRates(t *testing.T) {
	for _, quantum := range quanta {
		for b := int64(1); b <= 50; b++ {
			for a := range b + 1 {
				checkOf(t, quantum, big.NewRat(a, b))
			}
		}
	}
}

func TestMixedRates(t *testing.T) {
	m := mixed(88172645463325252)
	for range 4000 {
		checkOf(t, 1+m.upTo(api.MaxQuantum-1), m.rate())
	}
}

// TestVeryLongRates: of hundreds of limbs.
func TestVeryLongRates(t *testing.T) {
	odd := new(big.Int).Add(power(20000), big.NewInt(1))
	for _, quantum := range []int{1, 10, 1000} {
		for _, above := range []*big.Int{big.NewInt(1), power(64), power(19999), power(19992), power(20000)} {
			checkOf(t, quantum, new(big.Rat).SetFrac(above, odd))
		}
	}
}

// TestGreaterRate: it has no less a slice.
func TestGreaterRate(t *testing.T) {
	m := mixed(362436069)
	for _, quantum := range quanta {
		some := around(quantum)
		for range 200 {
			some = append(some, m.rate())
		}
		slices.SortFunc(some, (*big.Rat).Cmp)
		got, errno := slice.All(quantum, allOf(t, some))
		if errno != api.OK || len(got) != len(some) {
			t.Fatalf("P10.2: All(%d) of %d rates: %d slices, %d", quantum, len(some), len(got), errno)
		}
		if !slices.IsSorted(got) {
			t.Errorf("P10.2: quantum %d: slices of rising rates: %v", quantum, got)
		}
		if got[0] != 1 || got[len(got)-1] != quantum {
			t.Errorf("P10.2: quantum %d: slices from %d to %d", quantum, got[0], got[len(got)-1])
		}
	}
}

// TestAll: lists of any length, in any order, with one rate several times.
func TestAll(t *testing.T) {
	m := mixed(0x9e3779b97f4a7c15)
	for _, quantum := range quanta {
		for n := range 70 {
			var some []*big.Rat
			for range n {
				switch x := m.rate(); m.upTo(4) {
				case 0:
					some = append(some, big.NewRat(1, 1))
				case 1:
					some = append(some, new(big.Rat))
				case 2:
					some = append(some, x, x)
				default:
					some = append(some, x)
				}
			}
			checkAll(t, quantum, some)
		}
	}
	steps := around(1000)
	checkAll(t, 1000, steps)
	slices.Reverse(steps)
	checkAll(t, 1000, steps)
}

func TestAllOfNone(t *testing.T) {
	for quantum := 1; quantum <= 1000; quantum++ {
		for _, none := range [][]ratio.Ratio{nil, {}, make([]ratio.Ratio, 0, 5)} {
			if got, errno := slice.All(quantum, none); len(got) != 0 || errno != api.OK {
				t.Errorf("P10.1, R5: All(%d) of none: %v, %d", quantum, got, errno)
			}
		}
	}
}

func TestSum(t *testing.T) {
	for _, c := range []struct {
		numbers []int
		want    int
	}{
		{nil, 0}, {[]int{}, 0}, {[]int{0}, 0}, {[]int{7}, 7}, {[]int{-7}, -7}, {[]int{1, 2, 3}, 6}, {[]int{3, 2, 1}, 6}, {[]int{5, 5, 5, 5}, 20},
		{[]int{-1, -2, -3}, -6}, {[]int{10, -3}, 7}, {[]int{-10, 3}, -7}, {[]int{4, -4}, 0}, {[]int{0, 0, 9, 0}, 9}, {[]int{1001, 0, -1}, 1000},
		{[]int{1 << 31, 1 << 31}, 1 << 32}, {[]int{-1 << 40, 1}, -1<<40 + 1}, {[]int{1<<53 + 1, 1}, 1<<53 + 2},
		{[]int{math.MaxInt}, math.MaxInt}, {[]int{math.MinInt}, math.MinInt}, {[]int{math.MaxInt, math.MinInt}, -1}, {[]int{math.MinInt, math.MaxInt}, -1}, {[]int{math.MaxInt - 1, 1}, math.MaxInt}, {[]int{math.MinInt + 1, -1}, math.MinInt},
		{slices.Repeat([]int{1000}, 64), 64000}, {slices.Repeat([]int{-3}, 10000), -30000}, {slices.Repeat([]int{1, -1}, 5000), 0},
	} {
		if got := slice.Sum(c.numbers); got != c.want {
			t.Errorf("P10.1: Sum of %d numbers, %.200v: %d; want %d", len(c.numbers), c.numbers, got, c.want)
		}
	}
}

// noRatios: no denominator, limbs with zeros behind, and ones that aren't in lowest terms; below 1, 1, and above it.
func noRatios() []ratio.Ratio {
	one, two, long := nat.Of(1), nat.Of(2), nat.Nat{0, 6}
	return []ratio.Ratio{
		{}, {Num: nat.Nat{}, Den: nat.Nat{}}, {Num: one}, {Num: two, Den: nat.Nat{}}, {Num: long}, {Num: one, Den: nat.Nat{0}}, {Den: nat.Nat{0}}, {Num: nat.Nat{0}}, {Num: nat.Nat{0}, Den: nat.Nat{0}}, {Num: one, Den: nat.Nat{0, 0, 0}},
		{Num: nat.Nat{0}, Den: one}, {Num: nat.Nat{1, 0}, Den: one}, {Den: nat.Nat{1, 0}}, {Num: one, Den: nat.Nat{2, 0}}, {Num: nat.Nat{1, 0}, Den: two}, {Num: nat.Nat{2, 0}, Den: nat.Nat{3, 0}}, {Num: nat.Nat{0, 1, 0}, Den: one}, {Num: two, Den: nat.Nat{1, 1, 0}},
		{Den: two}, {Den: long}, {Den: nat.Of(math.MaxUint64)}, {Num: two, Den: two}, {Num: long, Den: long}, {Num: two, Den: nat.Of(4)}, {Num: nat.Of(4), Den: two}, {Num: nat.Of(6), Den: nat.Of(4)}, {Num: long, Den: two}, {Num: two, Den: long}, {Num: nat.Of(3), Den: nat.Of(math.MaxUint64)}, {Num: nat.Nat{0, 1}, Den: nat.Nat{0, 0, 1}}, {Num: nat.Nat{0, 0, 1}, Den: nat.Nat{0, 1}},
	}
}

// aboveOne are ratios just above 1, and far above it.
func aboveOne(t *testing.T) []ratio.Ratio {
	t.Helper()
	out := []ratio.Ratio{ratio.Int(2), ratio.Int(1000), ratio.Int(math.MaxInt)}
	for _, text := range []string{"11/10", "3/2", "1001/1000", "10001/10000", "18446744073709551616", "18446744073709551617/2", "18446744073709551617/18446744073709551616", "18446744073709551616/18446744073709551615"} {
		out = append(out, of(t, rational(t, text)))
	}
	for _, speck := range specks() {
		out = append(out, of(t, new(big.Rat).Add(big.NewRat(1, 1), speck)))
	}
	return append(out, of(t, new(big.Rat).SetInt(power(5000))))
}

// TestNoQuantum: its error comes ahead of all a rate's.
func TestNoQuantum(t *testing.T) {
	good := []ratio.Ratio{ratio.Int(0), ratio.Int(1), of(t, big.NewRat(1, 2))}
	for _, quantum := range noQuanta {
		for _, rate := range slices.Concat(good, noRatios(), aboveOne(t)) {
			refuseOf(t, "no quantum", quantum, rate, api.ErrRange)
			refuseAll(t, "no quantum", quantum, []ratio.Ratio{rate}, api.ErrRange)
		}
		refuseAll(t, "no quantum, and no rates", quantum, nil, api.ErrRange)
		refuseAll(t, "no quantum, and no rates", quantum, []ratio.Ratio{}, api.ErrRange)
		refuseAll(t, "no quantum, and good rates", quantum, good, api.ErrRange)
		refuseAll(t, "no quantum, and no ratios", quantum, noRatios(), api.ErrRange)
		refuseAll(t, "no quantum, and a later rate wrong", quantum, append(slices.Clone(good), ratio.Ratio{}, ratio.Int(2)), api.ErrRange)
	}
}

// TestNoRatio: also one that would be above 1, were it one.
func TestNoRatio(t *testing.T) {
	for _, quantum := range quanta {
		for _, rate := range noRatios() {
			refuseOf(t, "no ratio", quantum, rate, api.ErrForm)
			refuseAll(t, "no ratio", quantum, []ratio.Ratio{rate}, api.ErrForm)
		}
	}
}

func TestAboveOne(t *testing.T) {
	for _, quantum := range quanta {
		for _, rate := range aboveOne(t) {
			refuseOf(t, "above 1", quantum, rate, api.ErrRange)
			refuseAll(t, "above 1", quantum, []ratio.Ratio{rate}, api.ErrRange)
		}
	}
}

// TestOneWrong: each wrong one at each place among good ones.
func TestOneWrong(t *testing.T) {
	const n = 9
	for at := range n {
		rates := slices.Repeat([]ratio.Ratio{of(t, big.NewRat(2, 3))}, n)
		for _, rate := range noRatios() {
			rates[at] = rate
			refuseAll(t, "one is no ratio", 10, rates, api.ErrForm)
		}
		for _, rate := range aboveOne(t) {
			rates[at] = rate
			refuseAll(t, "one is above 1", 10, rates, api.ErrRange)
		}
	}
}

// TestTwoWrong: in different ways, in either order, wherever they stand: the first one tells.
func TestTwoWrong(t *testing.T) {
	const n = 7
	for _, quantum := range []int{1, 10, 1000} {
		for first := range n {
			for second := first + 1; second < n; second++ {
				for k, none := range noRatios() {
					above := aboveOne(t)
					rates := slices.Repeat([]ratio.Ratio{ratio.Int(1)}, n)
					rates[first], rates[second] = none, above[k%len(above)]
					refuseAll(t, "no ratio, then one above 1", quantum, rates, api.ErrForm)
					rates[first], rates[second] = rates[second], rates[first]
					refuseAll(t, "one above 1, then no ratio", quantum, rates, api.ErrRange)
				}
			}
		}
	}
}

// roomy is a list with spare room behind it, filled.
func roomy[L ~[]E, E any](list L, fill E) L {
	room := append(slices.Clone(list), slices.Repeat([]E{fill}, 5)...)
	return room[:len(list)]
}

// keptRates are copies of all that rates have, with their spare room.
func keptRates(rates []ratio.Ratio) []nat.Nat {
	var out []nat.Nat
	for _, r := range rates[:cap(rates)] {
		out = append(out, slices.Clone(r.Num[:cap(r.Num)]), slices.Clone(r.Den[:cap(r.Den)]))
	}
	return out
}

// TestArgumentsStay: as they were, spare room included, whether a call fails or not.
func TestArgumentsStay(t *testing.T) {
	some := append(noRatios(), aboveOne(t)...)
	for _, x := range []*big.Rat{new(big.Rat), big.NewRat(1, 1), big.NewRat(1, 3), new(big.Rat).SetFrac(power(500), new(big.Int).Add(power(501), big.NewInt(1)))} {
		some = append(some, of(t, x))
	}
	for _, r := range some {
		for _, quantum := range []int{0, 1, 10, 1000, 1001} {
			rate := ratio.Ratio{Num: roomy(r.Num, 77), Den: roomy(r.Den, 77)}
			rates := roomy([]ratio.Ratio{ratio.Int(1), rate, ratio.Int(0)}, ratio.Int(7))
			before := keptRates(rates)
			slice.Of(quantum, rate)
			slice.All(quantum, rates)
			if after := keptRates(rates); !slices.EqualFunc(before, after, slices.Equal[nat.Nat]) {
				t.Fatalf("R6: All(%d): rates became %v; were %v", quantum, after, before)
			}
		}
	}
	numbers := roomy([]int{3, -4, 5}, 77)
	slice.Sum(numbers)
	if room := numbers[:cap(numbers)]; !slices.Equal(room[:8], []int{3, -4, 5, 77, 77, 77, 77, 77}) {
		t.Errorf("R6: Sum's numbers became %v", room)
	}
}

// TestAnswersAreNewMemory: an answer that is written over, spare room included, leaves the others, and what is asked later, as they were.
func TestAnswersAreNewMemory(t *testing.T) {
	rates := allOf(t, []*big.Rat{big.NewRat(1, 3), big.NewRat(1, 1), new(big.Rat)})
	wanted := []int{3, 10, 1}
	first, _ := slice.All(10, rates)
	second, _ := slice.All(10, rates)
	for i := range first[:cap(first)] {
		first[:cap(first)][i] = 99
	}
	third, _ := slice.All(10, rates)
	if !slices.Equal(second, wanted) || !slices.Equal(third, wanted) {
		t.Errorf("R6: beside an answer that was written over: %v, %v; want %v", second, third, wanted)
	}
	rates[1].Num[0] = 0
	rates[0] = ratio.Int(1)
	if !slices.Equal(second, wanted) {
		t.Errorf("R6: an answer became %v with its argument", second)
	}
}

// TestSameAnswers: what was asked before, and failed, is not in an answer.
func TestSameAnswers(t *testing.T) {
	rates := allOf(t, []*big.Rat{big.NewRat(1, 3), big.NewRat(1, 20), big.NewRat(1, 1)})
	for range 3 {
		if got, errno := slice.All(10, rates); !slices.Equal(got, []int{3, 1, 10}) || errno != api.OK || slice.Sum(got) != 14 {
			t.Errorf("R8: All(10): %v, %d", got, errno)
		}
		refuseAll(t, "no ratio, last", 1000, append(slices.Clone(rates), ratio.Ratio{}), api.ErrForm)
		refuseOf(t, "above 1", 7, ratio.Int(2), api.ErrRange)
		slice.Of(1000, rates[0])
		slice.Sum([]int{100, -7})
	}
}
