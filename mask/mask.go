// Package mask is layer 1: sets of cores: see shared/doc/01-mask.md.
package mask

import (
	"iter"
	"math/bits"
	"strconv"
	"strings"

	"roundel/api"
)

// emptyText stands for the set without cores, which has no runs to tell.
const emptyText = "none"

// Set: cores, by bits.
type Set uint64

// Of: the set of cores.
func Of(cores ...int) (Set, api.Errno) {
	var s Set
	for _, c := range cores {
		if !isCore(c) {
			return 0, api.ErrCore
		}
		s = s.With(c)
	}
	return s, api.OK
}

// Has: has it a core?
func (s Set) Has(c int) bool { return s&only(c) != 0 }

// With: with a core.
func (s Set) With(c int) Set { return s | only(c) }

// Without: without a core.
func (s Set) Without(c int) Set { return s &^ only(c) }

// In: has another one all that it has?
func (s Set) In(t Set) bool { return s&^t == 0 }

// Meets: have they one in common?
func (s Set) Meets(t Set) bool { return s&t != 0 }

// Len: how many it has.
func (s Set) Len() int { return bits.OnesCount64(uint64(s)) }

// First: the least one; -1, if there is none.
func (s Set) First() int {
	if s == 0 {
		return -1
	}
	return bits.TrailingZeros64(uint64(s))
}

// Cores: all, rising.
func (s Set) Cores() iter.Seq[int] {
	return func(yield func(c int) bool) {
		for rest := s; rest != 0; rest = rest.Without(rest.First()) {
			if !yield(rest.First()) {
				return
			}
		}
	}
}

// Text: its text.
func (s Set) Text() string {
	if s == 0 {
		return emptyText
	}
	var runs []string
	for c := range s.Cores() {
		if s.Has(c - 1) {
			continue // its run has been told with the first one's
		}
		runs = append(runs, runText(c, s.runEnd(c)))
	}
	return strings.Join(runs, ",")
}

// Read: the set of a text.
func Read(s string) (Set, api.Errno) {
	if s == emptyText {
		return 0, api.OK
	}
	set, ok := readRuns(s)
	// A set has just one text: this refuses what is read all the same, as 00, +1, 2,1 or 0,1.
	if !ok || set.Text() != s {
		return 0, api.ErrForm
	}
	return set, api.OK
}

func isCore(c int) bool { return c >= 0 && c < api.MaxCores }

// only is the set of one core, and empty of what is none: so no call shifts by a number out of range.
func only(c int) Set {
	if !isCore(c) {
		return 0
	}
	return 1 << c
}

// runEnd is the last core of the run that has c.
func (s Set) runEnd(c int) int {
	for s.Has(c + 1) {
		c++
	}
	return c
}

func runText(first, last int) string {
	if first == last {
		return strconv.Itoa(first)
	}
	return strconv.Itoa(first) + "-" + strconv.Itoa(last)
}

// readRuns takes any runs, in any order; Read holds what it answers against the one right text.
func readRuns(s string) (Set, bool) {
	var set Set
	for more := true; more; {
		var run string
		run, s, more = strings.Cut(s, ",") // cut, not split: a long text of commas would need a list as long
		first, last, ok := readRun(run)
		if !ok {
			return 0, false
		}
		for c := first; c <= last; c++ {
			set = set.With(c)
		}
	}
	return set, true
}

func readRun(s string) (first, last int, ok bool) {
	from, to, isPair := strings.Cut(s, "-")
	if !isPair {
		to = from
	}
	first, okFirst := readCore(from)
	last, okLast := readCore(to)
	if !okFirst || !okLast {
		return 0, 0, false
	}
	return first, last, true
}

func readCore(s string) (int, bool) {
	c, err := strconv.Atoi(s)
	if err != nil || !isCore(c) {
		return 0, false
	}
	return c, true
}
