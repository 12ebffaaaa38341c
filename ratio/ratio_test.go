package ratio_test

import (
	"math"
	"math/big"
	"slices"
	"strings"
	"testing"

	"roundel/api"
	"roundel/nat"
	"roundel/ratio"
)

const top = math.MaxUint64

// mixed makes numbers by a fixed rule, so that each run tests the same ones.
type mixed uint64

func (m *mixed) next() uint64 {
	*m ^= *m << 13
	*m ^= *m >> 7
	*m ^= *m << 17
	return uint64(*m)
}

// number has up to so many limbs, some of them at their edges, and isn't 0.
func (m *mixed) number(most int) *big.Int {
	n := big.NewInt(0)
	for range m.next()%uint64(most) + 1 {
		x := m.next()
		switch x % 5 {
		case 0:
			x = 0
		case 1:
			x = top
		case 2:
			x >>= m.next() % 64
		}
		n.Lsh(n, 64).Or(n, new(big.Int).SetUint64(x))
	}
	if n.Sign() == 0 {
		n.SetUint64(m.next())
	}
	return n
}

// numbers: edges of one limb and of more, without 0.
func numbers() []*big.Int {
	var out []*big.Int
	for _, n := range []uint64{1, 2, 3, 4, 6, 7, 10, 12, 10000, 1 << 32, 1 << 62, 1<<63 - 1, 1 << 63, top - 1, top} {
		out = append(out, new(big.Int).SetUint64(n))
	}
	one := big.NewInt(1)
	for _, bits := range []uint{64, 128, 192} {
		power := new(big.Int).Lsh(one, bits)
		out = append(out, power, new(big.Int).Add(power, one), new(big.Int).Mul(power, big.NewInt(3)))
		if bits > 64 {
			out = append(out, new(big.Int).Sub(power, one))
		}
	}
	return out
}

// fractions: 0, whole ones, ones below and above 1, of one limb and of several.
func fractions() []*big.Rat {
	out := []*big.Rat{new(big.Rat)}
	some := numbers()
	for i, a := range some {
		for j, b := range some {
			if (i+j)%6 == 0 || j == 0 {
				out = append(out, new(big.Rat).SetFrac(a, b))
			}
		}
	}
	m := mixed(0x9e3779b97f4a7c15)
	for range 40 {
		out = append(out, new(big.Rat).SetFrac(m.number(5), m.number(5)))
	}
	return out
}

// limbs are those of a number by the words: limb i counts 2^(64 i), the last one isn't 0.
func limbs(n *big.Int) nat.Nat {
	var out nat.Nat
	low := new(big.Int).SetUint64(top)
	for rest := new(big.Int).Set(n); rest.Sign() > 0; rest.Rsh(rest, 64) {
		out = append(out, new(big.Int).And(rest, low).Uint64())
	}
	return out
}

// count is what limbs count.
func count(a ...uint64) *big.Int {
	sum := new(big.Int)
	for _, x := range slices.Backward(a) {
		sum.Lsh(sum, 64).Or(sum, new(big.Int).SetUint64(x))
	}
	return sum
}

func of(x *big.Rat) ratio.Ratio {
	return ratio.Ratio{Num: limbs(x.Num()), Den: limbs(x.Denom())}
}

// text is a fraction's by the words.
func text(x *big.Rat) string {
	if x.IsInt() {
		return x.Num().String()
	}
	return x.Num().String() + "/" + x.Denom().String()
}

func isNothing(r ratio.Ratio) bool { return len(r.Num) == 0 && len(r.Den) == 0 }

// same holds an answer against a fraction, limb by limb: a ratio has just one numerator, and one denominator.
func same(r ratio.Ratio, x *big.Rat) bool {
	want := of(x)
	return slices.Equal(r.Num, want.Num) && slices.Equal(r.Den, want.Den)
}

func check(t *testing.T, what string, x, y *big.Rat, got ratio.Ratio, want *big.Rat) {
	t.Helper()
	if !same(got, want) {
		t.Errorf("P3.1: %s of %s and %s: %v; want %s", what, text(x), text(y), got, text(want))
	}
	if !got.Good() {
		t.Errorf("P3.1: %s of %s and %s: %v isn't good", what, text(x), text(y), got)
	}
}

func TestExamples(t *testing.T) {
	r, errno := ratio.Of(nat.Of(6), nat.Of(4))
	if errno != api.OK || r.Text() != "3/2" || !slices.Equal(r.Floor(), nat.Nat{1}) {
		t.Errorf("P3.1: 6 by 4: %s, %v, %d", r.Text(), r.Floor(), errno)
	}
	for _, n := range []int{0, 1, 7} {
		if r := ratio.Int(n); !same(r, big.NewRat(int64(n), 1)) || r.Text() != nat.Text(nat.Of(uint64(n))) {
			t.Errorf("P3.1: Int(%d): %v, %s", n, r, r.Text())
		}
	}
}

// TestOf: naturals with nothing in common, with some, each by itself, 0 by each, and ones of which one divides the other.
func TestOf(t *testing.T) {
	some := append(numbers(), big.NewInt(0))
	m := mixed(88172645463325252)
	for range 20 {
		some = append(some, m.number(4))
	}
	for _, a := range some {
		for _, b := range some {
			if b.Sign() == 0 {
				continue
			}
			for _, common := range []*big.Int{big.NewInt(1), big.NewInt(6), new(big.Int).SetUint64(top), new(big.Int).Lsh(big.NewInt(5), 100)} {
				x, y := new(big.Int).Mul(a, common), new(big.Int).Mul(b, common)
				got, errno := ratio.Of(limbs(x), limbs(y))
				if !same(got, new(big.Rat).SetFrac(a, b)) || errno != api.OK || !got.Good() {
					t.Fatalf("P3.1: Of(%s, %s): %v, %d", x, y, got, errno)
				}
			}
		}
	}
}

func TestOfByZero(t *testing.T) {
	for _, a := range append(numbers(), big.NewInt(0)) {
		for _, zero := range []nat.Nat{nil, {}, {0}, {0, 0}} {
			if got, errno := ratio.Of(limbs(a), zero); !isNothing(got) || errno != api.ErrZero {
				t.Errorf("P3.1, R3: Of(%s, %v): %v, %d; want nothing, ErrZero", a, zero, got, errno)
			}
		}
	}
}

func TestInt(t *testing.T) {
	for _, n := range []int{0, 1, 2, 63, 64, 10000, 1<<32 - 1, 1 << 32, 1 << 62, math.MaxInt} {
		if got := ratio.Int(n); !same(got, new(big.Rat).SetInt64(int64(n))) || !got.Good() {
			t.Errorf("P3.1: Int(%d): %v", n, got)
		}
	}
	for _, n := range []int{-1, -2, -1 << 32, math.MinInt + 1, math.MinInt} {
		if got := ratio.Int(n); !same(got, new(big.Rat)) || !got.Good() {
			t.Errorf("P3.1: Int(%d): %v; want 0", n, got)
		}
	}
}

func TestGood(t *testing.T) {
	for _, x := range fractions() {
		if r := of(x); !r.Good() {
			t.Errorf("P3.1: Good of %s: false", text(x))
		}
	}
	if r := (ratio.Ratio{Num: nat.Nat{}, Den: nat.Of(1)}); !r.Good() {
		t.Error("P3.1, R5: Good of an empty list by 1: false")
	}
	room := nat.Nat{1, 0, 0}
	if r := (ratio.Ratio{Num: room[:0], Den: room[:1]}); !r.Good() {
		t.Error("P3.1: Good looks at spare room")
	}
}

// noRatios: no denominator, limbs with zeros behind, and ones that aren't in lowest terms.
func noRatios() []ratio.Ratio {
	one, two, long := nat.Of(1), nat.Of(2), nat.Nat{0, 6}
	return []ratio.Ratio{
		{}, {Num: one}, {Num: two}, {Num: long}, {Num: one, Den: nat.Nat{0}}, {Den: nat.Nat{0}}, {Num: nat.Nat{0}}, {Num: nat.Nat{0}, Den: nat.Nat{0}}, {Num: one, Den: nat.Nat{0, 0, 0}},
		{Num: nat.Nat{0}, Den: one}, {Num: nat.Nat{1, 0}, Den: one}, {Den: nat.Nat{1, 0}}, {Num: two, Den: nat.Nat{3, 0}}, {Num: nat.Nat{2, 0}, Den: nat.Nat{3, 0}}, {Num: nat.Nat{0, 1, 0}, Den: one}, {Num: two, Den: nat.Nat{1, 1, 0}},
		{Den: two}, {Den: long}, {Den: nat.Of(top)}, {Num: two, Den: two}, {Num: long, Den: long}, {Num: two, Den: nat.Of(4)}, {Num: nat.Of(4), Den: two}, {Num: nat.Of(6), Den: nat.Of(4)}, {Num: long, Den: two}, {Num: two, Den: long}, {Num: long, Den: nat.Of(9)}, {Num: nat.Of(top), Den: nat.Of(3)}, {Num: nat.Nat{0, 1}, Den: nat.Nat{0, 0, 1}},
	}
}

func TestGoodOfNoRatios(t *testing.T) {
	for _, r := range noRatios() {
		if r.Good() {
			t.Errorf("P3.1: Good of %v: true", r)
		}
	}
	for _, x := range fractions() {
		for _, common := range []*big.Int{big.NewInt(2), big.NewInt(17), new(big.Int).Lsh(big.NewInt(1), 70)} {
			r := ratio.Ratio{Num: limbs(new(big.Int).Mul(x.Num(), common)), Den: limbs(new(big.Int).Mul(x.Denom(), common))}
			if r.Good() {
				t.Errorf("P3.1: Good of %s, both times %s: true", text(x), common)
			}
		}
	}
}

func TestTwo(t *testing.T) {
	all := fractions()
	for _, x := range all {
		for _, y := range all {
			r, s := of(x), of(y)
			if got := ratio.Cmp(r, s); got != x.Cmp(y) {
				t.Errorf("P3.1: Cmp of %s and %s: %d", text(x), text(y), got)
			}
			check(t, "Add", x, y, ratio.Add(r, s), new(big.Rat).Add(x, y))
			check(t, "Mul", x, y, ratio.Mul(r, s), new(big.Rat).Mul(x, y))
			checkSub(t, x, y)
			checkDiv(t, x, y)
		}
	}
}

func checkSub(t *testing.T, x, y *big.Rat) {
	t.Helper()
	got, errno := ratio.Sub(of(x), of(y))
	if x.Cmp(y) < 0 {
		if !isNothing(got) || errno != api.ErrRange {
			t.Errorf("P3.1, R3: Sub of %s and %s: %v, %d; want nothing, ErrRange", text(x), text(y), got, errno)
		}
		return
	}
	if errno != api.OK {
		t.Errorf("P3.1: Sub of %s and %s: %d", text(x), text(y), errno)
	}
	check(t, "Sub", x, y, got, new(big.Rat).Sub(x, y))
}

func checkDiv(t *testing.T, x, y *big.Rat) {
	t.Helper()
	got, errno := ratio.Div(of(x), of(y))
	if y.Sign() == 0 {
		if !isNothing(got) || errno != api.ErrZero {
			t.Errorf("P3.1, R3: Div of %s and 0: %v, %d; want nothing, ErrZero", text(x), got, errno)
		}
		return
	}
	if errno != api.OK {
		t.Errorf("P3.1: Div of %s and %s: %d", text(x), text(y), errno)
	}
	check(t, "Div", x, y, got, new(big.Rat).Quo(x, y))
}

// TestNeighbours: ratios that differ by as little as their denominators allow, where a reckoning that rounds would go wrong.
func TestNeighbours(t *testing.T) {
	one := big.NewInt(1)
	for _, n := range numbers() {
		x := new(big.Rat).SetFrac(n, new(big.Int).Add(n, one))
		y := new(big.Rat).SetFrac(new(big.Int).Add(n, one), new(big.Int).Add(n, big.NewInt(2)))
		if ratio.Cmp(of(x), of(y)) != -1 || ratio.Cmp(of(y), of(x)) != 1 || ratio.Cmp(of(x), of(x)) != 0 {
			t.Errorf("P3.1: Cmp of %s and %s", text(x), text(y))
		}
		checkSub(t, x, y)
		checkSub(t, y, x)
		checkSub(t, x, x)
	}
}

// TestSums: many parts of one whole give just the whole.
func TestSums(t *testing.T) {
	for _, n := range []int{1, 2, 3, 7, 64, 97, 1000} {
		part, _ := ratio.Of(nat.Of(5), nat.Of(uint64(n)))
		sum := ratio.Int(0)
		for range n {
			sum = ratio.Add(sum, part)
		}
		if sum.Text() != "5" {
			t.Errorf("P3.1: %d times %s: %s", n, part.Text(), sum.Text())
		}
		for range n {
			less, errno := ratio.Sub(sum, part)
			if errno != api.OK {
				t.Fatalf("P3.1: %s less %s: %d", sum.Text(), part.Text(), errno)
			}
			sum = less
		}
		if !same(sum, new(big.Rat)) {
			t.Errorf("P3.1: what is left of %d parts: %v", n, sum)
		}
	}
}

func TestFloor(t *testing.T) {
	for _, x := range fractions() {
		want := new(big.Int).Div(x.Num(), x.Denom())
		if got := of(x).Floor(); !slices.Equal(got, limbs(want)) {
			t.Errorf("P3.1: Floor of %s: %v; want %s", text(x), got, want)
		}
	}
	for s, want := range map[string]string{
		"0": "0", "1": "1", "7": "7", "1/2": "0", "2/3": "0", "3/2": "1", "5/3": "1", "7/3": "2", "99/100": "0", "100/99": "1", "199/100": "1",
		"18446744073709551615/18446744073709551616": "0", "18446744073709551617/18446744073709551616": "1", "36893488147419103231/2": "18446744073709551615", "18446744073709551616": "18446744073709551616",
	} {
		r, errno := ratio.Read(s)
		if got := nat.Text(r.Floor()); errno != api.OK || got != want {
			t.Errorf("P3.1: Floor of %s: %s, %d; want %s", s, got, errno, want)
		}
	}
}

func TestTextRead(t *testing.T) {
	for _, x := range fractions() {
		want := text(x)
		if got := of(x).Text(); got != want {
			t.Errorf("P3.1: Text of %s: %s", want, got)
		}
		if got, errno := ratio.Read(want); !same(got, x) || errno != api.OK {
			t.Errorf("P3.1: Read(%s): %v, %d", want, got, errno)
		}
	}
}

func TestReadNoTexts(t *testing.T) {
	long := strings.Repeat("1234567890", 50)
	for _, s := range []string{
		"", " ", "/", "//", "1/", "/1", "/2", "0/", "/0", "1//2", "/1/2", "1/2/", "1/2/3", "1/2/1", "2/1/1", "1\\2", "1:2", "1-2", "1,2", "1.5", "½", "1\u20442", "1\u22152",
		"0/0", "1/0", "0/1", "0/2", "0/5", "1/1", "5/1", "2/2", "6/4", "4/6", "10/5", "5/10", "9/12", "18446744073709551616/18446744073709551616", "36893488147419103232/2", "2/36893488147419103232", "18446744073709551616/6",
		"00", "01", "00/2", "01/2", "1/02", "1/00", "1/01", "1/002", "-1", "+1", "-1/2", "1/-2", "+1/2", "1/+2", "-0", " 1/2", "1/2 ", "1 /2", "1/ 2", "1/2\n", "\n1/2", "1/2\x00", "\x001/2", "a/2", "1/b", "0x1/2", "1/1e5", "1_0/3", "1/3_0", "\u0661/2", "1/\u0662", "\xff/2", "1/\xff",
		"0/" + long, long + "/1", long + "/" + long, long + "/0", long + "/", "/" + long, "0" + long + "/7", long + "/07", strings.Repeat("/", 5000), strings.Repeat("1/", 5000) + "2",
	} {
		if got, errno := ratio.Read(s); !isNothing(got) || errno != api.ErrForm {
			t.Errorf("P3.1, R3: Read(%.50q): %v, %d; want nothing, ErrForm", s, got, errno)
		}
	}
}

// wantRead reads by other means: a text is a ratio's just if it is the text of what it reads as.
func wantRead(s string) (*big.Rat, bool) {
	if strings.Trim(s, "0123456789/") != "" {
		return nil, false
	}
	x, ok := new(big.Rat).SetString(s)
	return x, ok && text(x) == s
}

func checkRead(t *testing.T, s string) {
	t.Helper()
	want, ok := wantRead(s)
	got, errno := ratio.Read(s)
	if ok && (errno != api.OK || !same(got, want)) || !ok && (errno != api.ErrForm || !isNothing(got)) {
		t.Errorf("P3.1: Read(%q): %v, %d; is it a text: %v", s, got, errno, ok)
	}
}

// TestReadShortTexts: every text of up to five of these bytes.
func TestReadShortTexts(t *testing.T) {
	texts := []string{""}
	for range 6 {
		var longer []string
		for _, s := range texts {
			checkRead(t, s)
			for _, b := range "012369/-" {
				longer = append(longer, s+string(b))
			}
		}
		texts = longer
	}
}

// TestReadAlteredTexts: texts with one byte taken, put in or changed: what is another ratio's is read as such, the rest refused.
func TestReadAlteredTexts(t *testing.T) {
	for _, s := range []string{"0", "10", "21/10", "105/64", "18446744073709551617/18446744073709551616"} {
		for i := range len(s) + 1 {
			for _, b := range "0123456789/ +.\x00" {
				checkRead(t, s[:i]+string(b)+s[i:])
				if i < len(s) {
					checkRead(t, s[:i]+string(b)+s[i+1:])
				}
			}
			if i < len(s) {
				checkRead(t, s[:i]+s[i+1:])
			}
		}
	}
}

// answers are all lists that the calls answer of r and s.
func answers(r, s ratio.Ratio) []nat.Nat {
	made, _ := ratio.Of(r.Num, r.Den)
	diff, _ := ratio.Sub(r, s)
	less, _ := ratio.Sub(s, r)
	quotient, _ := ratio.Div(r, s)
	read, _ := ratio.Read(r.Text())
	again, _ := ratio.Read(r.Text())
	out := []nat.Nat{r.Floor()}
	for _, a := range []ratio.Ratio{made, ratio.Add(r, s), diff, less, ratio.Mul(r, s), quotient, read, again, ratio.Int(3), ratio.Int(3), ratio.Int(0)} {
		out = append(out, a.Num, a.Den)
	}
	return out
}

// TestAnswersAreNewMemory writes over each answer, spare room included, and looks whether anything else went with it.
func TestAnswersAreNewMemory(t *testing.T) {
	some := []*big.Rat{new(big.Rat), big.NewRat(1, 1), big.NewRat(7, 1), big.NewRat(2, 3), big.NewRat(5, 2),
		new(big.Rat).SetInt(count(0, 1)), new(big.Rat).SetFrac(count(1, 2, 3), count(5, 7)), new(big.Rat).SetFrac(big.NewInt(1), count(0, 0, 9))}
	for _, x := range some {
		for _, y := range some {
			var rooms, kept []nat.Nat
			roomy := func(a nat.Nat) nat.Nat {
				room := append(slices.Clone(a), 11, 12, 13, 14)
				rooms = append(rooms, room)
				kept = append(kept, slices.Clone(room))
				return room[:len(a)]
			}
			r := ratio.Ratio{Num: roomy(of(x).Num), Den: roomy(of(x).Den)}
			s := ratio.Ratio{Num: roomy(of(y).Num), Den: roomy(of(y).Den)}
			r.Good()
			ratio.Cmp(r, s)
			checkApart(t, answers(r, s))
			if !slices.EqualFunc(rooms, kept, slices.Equal[nat.Nat]) {
				t.Fatalf("R6: of %s and %s arguments became %v; were %v", text(x), text(y), rooms, kept)
			}
		}
	}
}

func checkApart(t *testing.T, lists []nat.Nat) {
	t.Helper()
	for i, list := range lists {
		whole := list[:cap(list)]
		for j := range whole {
			whole[j] = uint64(1000 + i)
		}
	}
	for i, list := range lists {
		for _, x := range list[:cap(list)] {
			if x != uint64(1000+i) {
				t.Fatalf("R6: the answer %d shares memory with %d", i, x-1000)
			}
		}
	}
}

func TestOneRatioTwice(t *testing.T) {
	for _, x := range fractions() {
		r := of(x)
		check(t, "Add", x, x, ratio.Add(r, r), new(big.Rat).Add(x, x))
		check(t, "Mul", x, x, ratio.Mul(r, r), new(big.Rat).Mul(x, x))
		checkSub(t, x, x)
		checkDiv(t, x, x)
	}
}

// TestNoRatiosEnd: calls of what is no ratio end without a panic.
func TestNoRatiosEnd(t *testing.T) {
	some := append(noRatios(), ratio.Int(0), ratio.Int(5), of(big.NewRat(2, 3)))
	for _, r := range some {
		for _, s := range some {
			ratio.Cmp(r, s)
			answers(r, s)
		}
	}
}
