package mask_test

import (
	"fmt"
	"math"
	"regexp"
	"slices"
	"strconv"
	"strings"
	"testing"

	"roundel/api"
	"roundel/mask"
)

const all = mask.Set(math.MaxUint64)

// noCores are numbers that are no core: the edges, and ones that a shift or a cut to fewer bits would take for one.
var noCores = []int{-1, 64, -64, 65, 127, 128, 256, 1 << 32, -1 << 32, math.MinInt, math.MaxInt}

// sampleSets: the empty one, each run, all without each core, every other core, and sets of mixed bits by a fixed rule.
func sampleSets() []mask.Set {
	sets := []mask.Set{0, 0x5555555555555555, 0xaaaaaaaaaaaaaaaa, 0x9249249249249249, 0x8000000000000001}
	for first := range 64 {
		for last := first; last < 64; last++ {
			sets = append(sets, all<<first&(all>>(63-last)))
		}
		sets = append(sets, all^1<<first)
	}
	x := uint64(0x9e3779b97f4a7c15)
	for range 2000 {
		x ^= x << 13
		x ^= x >> 7
		x ^= x << 17
		sets = append(sets, mask.Set(x))
	}
	return sets
}

// members tells a set's cores by the words alone: bit c is 1 just if it has the core c.
func members(s mask.Set) []int {
	var cores []int
	for c := range 64 {
		if uint64(s)/(1<<c)%2 == 1 {
			cores = append(cores, c)
		}
	}
	return cores
}

// wantText tells a text by going through the cores, joining each to the run ahead of it where it follows.
func wantText(s mask.Set) string {
	type run struct{ first, last int }
	var runs []run
	for _, c := range members(s) {
		if n := len(runs); n > 0 && runs[n-1].last+1 == c {
			runs[n-1].last = c
		} else {
			runs = append(runs, run{c, c})
		}
	}
	if runs == nil {
		return "none"
	}
	var out []string
	for _, r := range runs {
		if r.first == r.last {
			out = append(out, fmt.Sprintf("%d", r.first))
		} else {
			out = append(out, fmt.Sprintf("%d-%d", r.first, r.last))
		}
	}
	return strings.Join(out, ",")
}

var textForm = regexp.MustCompile(`^(0|[1-9][0-9]?)(-(0|[1-9][0-9]?))?(,(0|[1-9][0-9]?)(-(0|[1-9][0-9]?))?)*$`)

// wantRead reads by the grammar of the words: runs that rise, with a gap between each two.
func wantRead(text string) (mask.Set, api.Errno) {
	if text == "none" {
		return 0, api.OK
	}
	if !textForm.MatchString(text) || strings.HasSuffix(text, "\n") {
		return 0, api.ErrForm
	}
	var s mask.Set
	next := 0 // the least core that the next run may begin with
	for _, run := range strings.Split(text, ",") {
		bounds := strings.Split(run, "-")
		first, _ := strconv.Atoi(bounds[0])
		last, _ := strconv.Atoi(bounds[len(bounds)-1])
		if first < next || last > 63 || len(bounds) == 2 && first >= last {
			return 0, api.ErrForm
		}
		for c := first; c <= last; c++ {
			s += 1 << c
		}
		next = last + 2
	}
	return s, api.OK
}

func checkRead(t *testing.T, text string) {
	t.Helper()
	want, wantErr := wantRead(text)
	if got, err := mask.Read(text); got != want || err != wantErr {
		t.Errorf("P1.1: Read(%q) = %#x, %d; want %#x, %d", text, uint64(got), err, uint64(want), wantErr)
	}
}

func TestOf(t *testing.T) {
	for _, c := range []struct {
		cores []int
		want  mask.Set
	}{
		{nil, 0},
		{[]int{}, 0},
		{[]int{0}, 1},
		{[]int{63}, 1 << 63},
		{[]int{63, 0}, 1<<63 | 1},
		{[]int{5, 2, 1, 0}, 0b100111},
		{[]int{7, 7, 7}, 1 << 7},
	} {
		if got, err := mask.Of(c.cores...); got != c.want || err != api.OK {
			t.Errorf("P1.1: Of(%v) = %#x, %d; want %#x", c.cores, uint64(got), err, uint64(c.want))
		}
	}
	for _, s := range sampleSets() {
		if got, err := mask.Of(members(s)...); got != s || err != api.OK {
			t.Errorf("P1.1: Of(%v) = %#x, %d", members(s), uint64(got), err)
		}
	}
}

func TestOfNoCore(t *testing.T) {
	for _, bad := range noCores {
		for _, cores := range [][]int{{bad}, {bad, 0, 63}, {0, bad, 63}, {0, 63, bad}} {
			if got, err := mask.Of(cores...); got != 0 || err != api.ErrCore {
				t.Errorf("P1.1, R3: Of(%v) = %#x, %d; want 0, ErrCore", cores, uint64(got), err)
			}
		}
	}
}

func TestOfLeavesItsListAlone(t *testing.T) {
	room := []int{5, 2, 2, 9, 70, 80}
	kept := slices.Clone(room)
	s, _ := mask.Of(room[:4]...)
	if !slices.Equal(room, kept) {
		t.Errorf("R6: the list became %v", room)
	}
	room[0] = 1
	if s.Text() != "2,5,9" {
		t.Errorf("R6: the set went with the list: %s", s.Text())
	}
}

func TestHasWithWithout(t *testing.T) {
	for _, s := range sampleSets() {
		has := map[int]bool{}
		for _, c := range members(s) {
			has[c] = true
		}
		for c := range 64 {
			bit := mask.Set(1) << c
			with, without := s, s-bit
			if !has[c] {
				with, without = s+bit, s
			}
			if s.Has(c) != has[c] || s.With(c) != with || s.Without(c) != without {
				t.Fatalf("P1.1: %#x and core %d: %v, %#x, %#x", uint64(s), c, s.Has(c), uint64(s.With(c)), uint64(s.Without(c)))
			}
		}
		for _, c := range noCores {
			if s.Has(c) || s.With(c) != s || s.Without(c) != s {
				t.Fatalf("P1.1: %#x and %d, which is no core: %v, %#x, %#x", uint64(s), c, s.Has(c), uint64(s.With(c)), uint64(s.Without(c)))
			}
		}
	}
}

func TestInMeets(t *testing.T) {
	sets := sampleSets()
	others := append([]mask.Set{0, 1, 1 << 63, 1<<63 | 1, all, all - 1, all >> 1}, sets[len(sets)-40:]...)
	for _, s := range sets {
		for _, u := range others {
			in, meets := true, false
			for c := range 64 {
				a, b := s>>c%2 == 1, u>>c%2 == 1
				in = in && (!a || b)
				meets = meets || a && b
			}
			if s.In(u) != in || s.Meets(u) != meets {
				t.Fatalf("P1.1: %#x, %#x: In %v, Meets %v", uint64(s), uint64(u), s.In(u), s.Meets(u))
			}
		}
		if !s.In(s) || s.Meets(s) != (s != 0) || !mask.Set(0).In(s) || mask.Set(0).Meets(s) {
			t.Fatalf("P1.1: %#x with itself and the empty one", uint64(s))
		}
	}
}

func TestLenFirst(t *testing.T) {
	if n, c := mask.Set(0).Len(), mask.Set(0).First(); n != 0 || c != -1 {
		t.Errorf("P1.1: the empty set: Len %d, First %d", n, c)
	}
	for _, s := range sampleSets() {
		cores := members(s)
		first := -1
		if len(cores) > 0 {
			first = cores[0]
		}
		if s.Len() != len(cores) || s.First() != first {
			t.Errorf("P1.1: %#x: Len %d, First %d", uint64(s), s.Len(), s.First())
		}
	}
}

func TestCores(t *testing.T) {
	for _, s := range sampleSets() {
		cores := s.Cores()
		for range 2 { // an iterator may be gone through again
			if got := slices.Collect(cores); !slices.Equal(got, members(s)) {
				t.Errorf("P1.1: %#x: Cores: %v", uint64(s), got)
			}
		}
	}
}

func TestCoresEndsWhenTold(t *testing.T) {
	for _, s := range []mask.Set{1, 1 << 63, 1<<63 | 1, 0b100111, all} {
		cores := members(s)
		for most := 1; most <= len(cores); most++ {
			var got []int
			s.Cores()(func(c int) bool {
				got = append(got, c)
				return len(got) < most
			})
			if !slices.Equal(got, cores[:most]) {
				t.Errorf("R9: %#x, told to end at %d: %v", uint64(s), most, got)
			}
		}
	}
}

func TestCoresOneInAnother(t *testing.T) {
	s, _ := mask.Of(0, 9, 63)
	cores := s.Cores()
	out := ""
	for a := range cores {
		for b := range cores {
			if b > a {
				break
			}
			out += fmt.Sprintf("%d:%d ", a, b)
		}
	}
	if out != "0:0 9:0 9:9 63:0 63:9 63:63 " {
		t.Errorf("P1.1: %s", out)
	}
}

func TestText(t *testing.T) {
	for text, cores := range map[string][]int{
		"none":           nil,
		"0":              {0},
		"63":             {63},
		"0,63":           {63, 0},
		"0-1":            {0, 1},
		"62-63":          {62, 63},
		"0-2,5":          {0, 1, 2, 5},
		"9-10,12":        {9, 10, 12},
		"0-1,3-4,6,8-10": {0, 1, 3, 4, 6, 8, 9, 10},
	} {
		s, _ := mask.Of(cores...)
		if s.Text() != text {
			t.Errorf("P1.1: Text of %v: %s; want %s", cores, s.Text(), text)
		}
	}
	if all.Text() != "0-63" {
		t.Errorf("P1.1: Text of all: %s", all.Text())
	}
	for _, s := range sampleSets() {
		if s.Text() != wantText(s) {
			t.Errorf("P1.1: Text of %#x: %s; want %s", uint64(s), s.Text(), wantText(s))
		}
	}
}

func TestReadTexts(t *testing.T) {
	for _, s := range sampleSets() {
		if got, err := mask.Read(wantText(s)); got != s || err != api.OK {
			t.Errorf("P1.1: Read(%s) = %#x, %d", wantText(s), uint64(got), err)
		}
	}
}

func TestReadNoTexts(t *testing.T) {
	for _, text := range []string{
		"", " ", "\n", "\x00", "\xff", "None", "NONE", "none ", " none", "none,1", "1,none", "non", "nonee", "0x1", "1_0", "1e1", "a", "é", "\u0661",
		"64", "99", "100", "0-64", "64-65", "00", "01", "007", "0-01", "00-1", "18446744073709551616", "0-18446744073709551616", "99999999999999999999999999999999999999",
		"+1", "-1", "-0", "+0", "1-+2", "0--1", "-", "--", "0-", "-63", "0-1-2", "0-1-", "1-1", "5-5", "63-63", "3-0", "63-0",
		",", ",1", "1,", "1,,3", "0,1", "0-1,2", "0,1-2", "0-1,2-3", "2,0", "4-5,0-1", "0,0", "0-3,2", "0-3,3", "0-3,0-3", "0-3,1-2", "0-63,63",
		" 1", "1 ", "1, 3", "1 ,3", "0 -1", "0- 1", "1;3", "1\n", "1,3\n", "0\u20132",
		strings.Repeat("0,", 5000) + "0", strings.Repeat("1", 5000), strings.Repeat("-", 5000), strings.Repeat(",", 5000), strings.Repeat("0-63,", 5000),
	} {
		if got, err := mask.Read(text); got != 0 || err != api.ErrForm {
			t.Errorf("P1.1, R3: Read(%.40q) = %#x, %d; want 0, ErrForm", text, uint64(got), err)
		}
	}
}

// TestReadShortTexts: every text of up to five of the bytes that texts are made of.
func TestReadShortTexts(t *testing.T) {
	texts := []string{""}
	for range 5 {
		var longer []string
		for _, text := range texts {
			checkRead(t, text)
			for _, b := range "0123456789,-" {
				longer = append(longer, text+string(b))
			}
		}
		texts = longer
	}
	for _, text := range texts {
		checkRead(t, text)
	}
}

// TestReadAlteredTexts: texts of sets with one byte taken, put in or changed: what is another set's is read as such, the rest refused.
func TestReadAlteredTexts(t *testing.T) {
	sets := sampleSets()
	for _, s := range append(sets[:5:5], sets[len(sets)-10:]...) {
		text := s.Text()
		for i := range len(text) + 1 {
			for _, b := range "0159,- +n" {
				checkRead(t, text[:i]+string(b)+text[i:])
				if i < len(text) {
					checkRead(t, text[:i]+string(b)+text[i+1:])
				}
			}
			if i < len(text) {
				checkRead(t, text[:i]+text[i+1:])
			}
		}
	}
}
