package nat_test

import (
	"math"
	"math/big"
	"slices"
	"strings"
	"testing"

	"roundel/api"
	"roundel/nat"
)

const top = math.MaxUint64

// mixed makes numbers by a fixed rule, so that each run tests the same ones.
type mixed uint64

func (m *mixed) next() uint64 {
	*m ^= *m << 13
	*m ^= *m >> 7
	*m ^= *m << 17
	return uint64(*m)
}

// natural has n limbs, some of them edges.
func (m *mixed) natural(n int) nat.Nat {
	a := make(nat.Nat, n)
	for i := range a {
		switch m.next() % 5 {
		case 0:
			a[i] = 0
		case 1:
			a[i] = top
		case 2:
			a[i] = m.next() >> (m.next() % 64)
		default:
			a[i] = m.next()
		}
	}
	for n > 0 && a[n-1] == 0 {
		a[n-1] = m.next() >> (m.next() % 64)
	}
	return a
}

// edges: all naturals of up to so many limbs, each of these limbs.
func edges(most int, limbs ...uint64) []nat.Nat {
	out := []nat.Nat{nil}
	rows := [][]uint64{nil}
	for range most {
		var longer [][]uint64
		for _, row := range rows {
			for _, x := range limbs {
				longer = append(longer, append(slices.Clone(row), x))
			}
		}
		rows = longer
		for _, row := range rows {
			if row[len(row)-1] != 0 {
				out = append(out, row)
			}
		}
	}
	return out
}

// samples: edges, and some of up to twelve limbs.
func samples() []nat.Nat {
	out := edges(3, 0, 1, 1<<63, top)
	m := mixed(0x9e3779b97f4a7c15)
	for i := range 60 {
		out = append(out, m.natural(i%12+1))
	}
	return out
}

// number is what limbs count, by the words: limb i counts 2^(64 i).
func number(a nat.Nat) *big.Int {
	sum := new(big.Int)
	for i, x := range a {
		sum.Add(sum, new(big.Int).Lsh(new(big.Int).SetUint64(x), uint(64*i)))
	}
	return sum
}

// check holds an answer against a number: it must be a natural, and count the same.
func check(t *testing.T, what string, got nat.Nat, want *big.Int) {
	t.Helper()
	if len(got) > 0 && got[len(got)-1] == 0 {
		t.Errorf("P2.1: %s: %v is no natural", what, got)
	}
	if number(got).Cmp(want) != 0 {
		t.Errorf("P2.1: %s: %v; want %s", what, got, want)
	}
}

func TestOf(t *testing.T) {
	if a := nat.Of(0); len(a) != 0 {
		t.Errorf("P2.1: Of(0): %v", a)
	}
	for _, n := range []uint64{1, 2, 1 << 32, 1 << 62, 1 << 63, top - 1, top} {
		if a := nat.Of(n); !slices.Equal(a, nat.Nat{n}) {
			t.Errorf("P2.1: Of(%d): %v", n, a)
		}
	}
}

func TestGood(t *testing.T) {
	for _, a := range append(samples(), nat.Nat{}, nat.Nat{0, 0, 1}) {
		if !nat.Good(a) {
			t.Errorf("P2.1: Good(%v): false", a)
		}
	}
	for _, a := range []nat.Nat{{0}, {1, 0}, {0, 0}, {top, 0}, {0, 1, 0}, {1, 1, 1, 0, 0}} {
		if nat.Good(a) {
			t.Errorf("P2.1: Good(%v): true", a)
		}
	}
	if room := (nat.Nat{1, 0, 0}); !nat.Good(room[:1]) || !nat.Good(room[:0]) {
		t.Error("P2.1: Good looks at spare room")
	}
}

func TestTwo(t *testing.T) {
	for _, a := range samples() {
		for _, b := range samples() {
			x, y := number(a), number(b)
			if c := nat.Cmp(a, b); c != x.Cmp(y) {
				t.Errorf("P2.1: Cmp(%v, %v): %d", a, b, c)
			}
			check(t, "Add", nat.Add(a, b), new(big.Int).Add(x, y))
			check(t, "Mul", nat.Mul(a, b), new(big.Int).Mul(x, y))
			check(t, "Gcd", nat.Gcd(a, b), new(big.Int).GCD(nil, nil, x, y))
			checkSub(t, a, b)
			checkDivMod(t, a, b)
		}
	}
}

func checkSub(t *testing.T, a, b nat.Nat) {
	t.Helper()
	want := new(big.Int).Sub(number(a), number(b))
	got, errno := nat.Sub(a, b)
	if want.Sign() < 0 {
		if len(got) != 0 || errno != api.ErrRange {
			t.Errorf("P2.1, R3: Sub(%v, %v): %v, %d; want 0, ErrRange", a, b, got, errno)
		}
		return
	}
	if errno != api.OK {
		t.Errorf("P2.1: Sub(%v, %v): %d", a, b, errno)
	}
	check(t, "Sub", got, want)
}

func checkDivMod(t *testing.T, a, b nat.Nat) {
	t.Helper()
	quotient, rest, errno := nat.DivMod(a, b)
	x, y := number(a), number(b)
	if y.Sign() == 0 {
		if len(quotient) != 0 || len(rest) != 0 || errno != api.ErrZero {
			t.Errorf("P2.1, R3: DivMod(%v, 0): %v, %v, %d; want 0, 0, ErrZero", a, quotient, rest, errno)
		}
		return
	}
	if errno != api.OK {
		t.Errorf("P2.1: DivMod(%v, %v): %d", a, b, errno)
	}
	q, r := new(big.Int).QuoRem(x, y, new(big.Int))
	check(t, "DivMod, the quotient", quotient, q)
	check(t, "DivMod, what is left", rest, r)
	if !slices.Equal(nat.Add(nat.Mul(quotient, b), rest), a) || nat.Cmp(rest, b) >= 0 {
		t.Errorf("P2.2: DivMod(%v, %v): %v, %v", a, b, quotient, rest)
	}
}

func TestCarryThroughAllLimbs(t *testing.T) {
	for n := range 20 {
		all := slices.Repeat(nat.Nat{top}, n)
		power := append(make(nat.Nat, n), 1)
		if sum := nat.Add(all, nat.Of(1)); !slices.Equal(sum, power) {
			t.Errorf("P2.1: a carry through %d limbs: %v", n, sum)
		}
		if sum := nat.Add(nat.Of(1), all); !slices.Equal(sum, power) {
			t.Errorf("P2.1: a carry through %d limbs: %v", n, sum)
		}
		if diff, errno := nat.Sub(power, nat.Of(1)); !slices.Equal(diff, all) || errno != api.OK {
			t.Errorf("P2.1: a borrow through %d limbs: %v, %d", n, diff, errno)
		}
		if diff, errno := nat.Sub(power, all); !slices.Equal(diff, nat.Of(1)) || errno != api.OK {
			t.Errorf("P2.1: a difference that loses %d limbs: %v, %d", n, diff, errno)
		}
		if diff, errno := nat.Sub(all, power); len(diff) != 0 || errno != api.ErrRange {
			t.Errorf("P2.1, R3: a difference that there isn't: %v, %d", diff, errno)
		}
		check(t, "Mul", nat.Mul(all, all), new(big.Int).Mul(number(all), number(all)))
		checkDivMod(t, nat.Mul(all, all), all)
	}
}

// TestDivModEdges: dividends of up to four limbs by divisors of up to three, where limbs at their edges make a first guess of a quotient's limb too great, by one and by two.
func TestDivModEdges(t *testing.T) {
	limbs := []uint64{0, 1, 1<<63 - 1, 1 << 63, top - 1, top}
	divisors := edges(2, limbs...)
	for _, a := range edges(4, limbs...) {
		for _, b := range divisors {
			quotient, rest, errno := nat.DivMod(a, b)
			if len(b) == 0 {
				if errno != api.ErrZero {
					t.Fatalf("P2.1: DivMod(%v, 0): %d", a, errno)
				}
				continue
			}
			if errno != api.OK || !nat.Good(quotient) || !nat.Good(rest) || nat.Cmp(rest, b) >= 0 || !slices.Equal(nat.Add(nat.Mul(quotient, b), rest), a) {
				t.Fatalf("P2.2: DivMod(%v, %v): %v, %v, %d", a, b, quotient, rest, errno)
			}
		}
	}
	for _, a := range edges(3, 0, 1, 1<<63, top) {
		for _, b := range edges(3, limbs...) {
			for _, more := range edges(1, 1, top) { // multiples, and their neighbours
				product := nat.Mul(a, b)
				checkDivMod(t, nat.Add(product, more), b)
				if less, errno := nat.Sub(product, more); errno == api.OK {
					checkDivMod(t, less, b)
				}
			}
		}
	}
}

func TestDivModLong(t *testing.T) {
	m := mixed(88172645463325252)
	for i := range 4000 {
		checkDivMod(t, m.natural(i%23), m.natural(int(m.next()%12)))
	}
}

func TestGcd(t *testing.T) {
	m := mixed(362436069)
	for i := range 1000 {
		a, b, common := m.natural(i%6), m.natural(i/6%6), m.natural(i/36%4)
		a, b = nat.Mul(a, common), nat.Mul(b, common)
		check(t, "Gcd", nat.Gcd(a, b), new(big.Int).GCD(nil, nil, number(a), number(b)))
		if !slices.Equal(nat.Gcd(a, nil), a) || !slices.Equal(nat.Gcd(nil, a), a) || !slices.Equal(nat.Gcd(a, a), a) {
			t.Errorf("P2.1: Gcd of %v with 0 and itself", a)
		}
	}
	low, high := nat.Nat(nil), nat.Of(1)
	for range 1500 { // neighbours of Fibonacci's row take the most steps
		low, high = high, nat.Add(low, high)
	}
	check(t, "Gcd", nat.Gcd(high, low), big.NewInt(1))
	if len(nat.Gcd(nil, nil)) != 0 {
		t.Error("P2.1: Gcd(0, 0)")
	}
}

func TestTextRead(t *testing.T) {
	all := samples()
	ten := nat.Of(10)
	power := nat.Of(1)
	for range 120 { // the edges of groups of digits, however many there are in one
		less, _ := nat.Sub(power, nat.Of(1))
		all = append(all, power, less, nat.Add(power, nat.Of(1)), nat.Mul(power, nat.Of(7)))
		power = nat.Mul(power, ten)
	}
	m := mixed(521288629)
	for n := range 100 {
		all = append(all, m.natural(n))
	}
	for _, a := range all {
		want := number(a).String()
		if got := nat.Text(a); got != want {
			t.Errorf("P2.1: Text(%v): %s; want %s", a, got, want)
		}
		if got, errno := nat.Read(want); !slices.Equal(got, a) || errno != api.OK {
			t.Errorf("P2.1: Read(%s): %v, %d; want %v", want, got, errno, a)
		}
	}
	if nat.Text(nil) != "0" || nat.Text(nat.Nat{}) != "0" || nat.Text(nat.Nat{0, 1}) != "18446744073709551616" {
		t.Error("P2.1: Text of 0 and of 2^64")
	}
}

func TestReadNoTexts(t *testing.T) {
	long := strings.Repeat("1234567890", 500)
	texts := []string{"", " ", "00", "01", "000", "0123", "-0", "-1", "+0", "+1", "1 ", " 1", "1\n", "\x00", "1\x00", "x", "0x1", "1e5", "1_000", "1,000", "1.0", "1.", "12a", "a12", "é", "\u0661", "\uff11", "\xff",
		"/", ":", "1/", "1:", "0" + long, long + "x", "x" + long, long[:2500] + " " + long[2500:], strings.Repeat("0", 5000)}
	for n := range 45 { // one wrong byte, in each place of each group
		digits := []byte(strings.Repeat("7", 45))
		for _, b := range []byte{'/', ':', '-', ' ', 0, 0x80, 0xff} {
			digits[n] = b
			texts = append(texts, string(digits))
		}
	}
	for _, text := range texts {
		if a, errno := nat.Read(text); len(a) != 0 || errno != api.ErrForm {
			t.Errorf("P2.1, R3: Read(%.50q): %v, %d; want 0, ErrForm", text, a, errno)
		}
	}
}

// TestReadShortTexts: all texts of up to two bytes.
func TestReadShortTexts(t *testing.T) {
	for x := range 256 {
		for y := range 256 {
			for _, text := range []string{string([]byte{byte(x)}), string([]byte{byte(x), byte(y)})} {
				want, ok := new(big.Int).SetString(text, 10)
				ok = ok && want.String() == text && want.Sign() >= 0
				got, errno := nat.Read(text)
				if ok != (errno == api.OK) || ok && number(got).Cmp(want) != 0 || !ok && (len(got) != 0 || errno != api.ErrForm) {
					t.Errorf("P2.1: Read(%q): %v, %d", text, got, errno)
				}
			}
		}
	}
}

func TestSmall(t *testing.T) {
	for _, n := range []uint64{0, 1, 2, 1<<32 - 1, 1 << 32, 1<<62 - 1, 1 << 62} {
		if got, ok := nat.Small(nat.Of(n)); got != int(n) || !ok {
			t.Errorf("P2.1: Small(%d): %d, %v", n, got, ok)
		}
	}
	for _, a := range []nat.Nat{{1<<62 + 1}, {1<<63 - 1}, {1 << 63}, {top}, {0, 1}, {1, 1}, {1 << 62, 1}, {0, 0, 1}, {5, 0, 0, 0, 1}} {
		if got, ok := nat.Small(a); got != 0 || ok {
			t.Errorf("P2.1, R3: Small(%v): %d, %v; want 0, false", a, got, ok)
		}
	}
}

// answers are all naturals that the calls answer of a and b.
func answers(a, b nat.Nat) []nat.Nat {
	diff, _ := nat.Sub(a, b)
	less, _ := nat.Sub(b, a)
	quotient, rest, _ := nat.DivMod(a, b)
	return []nat.Nat{nat.Add(a, b), diff, less, nat.Mul(a, b), quotient, rest, nat.Gcd(a, b)}
}

// roomy is a copy with spare room, whose limbs are told apart from any that a call would write.
func roomy(a nat.Nat) (inside, all nat.Nat) {
	all = append(slices.Clone(a), 11, 12, 13, 14, 15, 16)
	return all[:len(a)], all
}

func TestAnswersAreNewMemory(t *testing.T) {
	some := append(edges(2, 0, 1, top), nat.Nat{1, 2, 3}, nat.Nat{7, 0, 0, 9}, nat.Nat{6})
	for _, x := range some {
		for _, y := range some {
			a, allA := roomy(x)
			b, allB := roomy(y)
			keptA, keptB := slices.Clone(allA), slices.Clone(allB)
			nat.Text(a)
			nat.Good(a)
			nat.Small(a)
			nat.Cmp(a, b)
			first := answers(a, b)
			var kept []nat.Nat
			for _, answer := range first {
				kept = append(kept, slices.Clone(answer))
			}
			for i, answer := range first {
				whole := answer[:cap(answer)]
				for j := range whole {
					whole[j] = 99
				}
				kept[i] = slices.Clone(answer)
				for k := range first {
					if !slices.Equal(first[k], kept[k]) {
						t.Fatalf("R6: of %v and %v the answers %d and %d share memory", x, y, i, k)
					}
				}
			}
			if !slices.Equal(allA, keptA) || !slices.Equal(allB, keptB) {
				t.Fatalf("R6: arguments %v and %v became %v and %v", keptA, keptB, allA, allB)
			}
		}
	}
}

func TestOneNaturalTwice(t *testing.T) {
	for _, a := range samples() {
		x := number(a)
		check(t, "Add", nat.Add(a, a), new(big.Int).Add(x, x))
		check(t, "Mul", nat.Mul(a, a), new(big.Int).Mul(x, x))
		checkSub(t, a, a)
		checkDivMod(t, a, a)
		if nat.Cmp(a, a) != 0 {
			t.Errorf("P2.1: Cmp(%v) with itself", a)
		}
	}
}

// TestLimbsThatAreNoNatural: calls of them end without a panic, and tell what the limbs count.
func TestLimbsThatAreNoNatural(t *testing.T) {
	bad := []nat.Nat{{0}, {0, 0, 0}, {5, 0}, {top, 0, 0}, {1, 2, 0, 0, 0, 0}, {0, top, 0}}
	for _, a := range append(bad, nil, nat.Nat{3}, nat.Nat{1, 2}, nat.Nat{0, 0, 1}) {
		for _, b := range bad {
			for _, pair := range [][2]nat.Nat{{a, b}, {b, a}} {
				good := [2]nat.Nat{natural(pair[0]), natural(pair[1])}
				got, want := answers(pair[0], pair[1]), answers(good[0], good[1])
				if !slices.EqualFunc(got, want, func(x, y nat.Nat) bool { return slices.Equal(x, y) }) {
					t.Errorf("P9: %v, %v: %v; want %v", pair[0], pair[1], got, want)
				}
				if nat.Cmp(pair[0], pair[1]) != nat.Cmp(good[0], good[1]) {
					t.Errorf("P9: Cmp(%v, %v)", pair[0], pair[1])
				}
			}
		}
		n, ok := nat.Small(a)
		wantN, wantOk := nat.Small(natural(a))
		if n != wantN || ok != wantOk || nat.Text(a) != nat.Text(natural(a)) {
			t.Errorf("P9: %v: %d, %v, %s", a, n, ok, nat.Text(a))
		}
	}
}

// natural is the natural that limbs count.
func natural(a nat.Nat) nat.Nat {
	for len(a) > 0 && a[len(a)-1] == 0 {
		a = a[:len(a)-1]
	}
	return a
}
