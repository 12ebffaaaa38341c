package ring_test

import (
	"math"
	"slices"
	"testing"

	"roundel/api"
	"roundel/ring"
)

// noCounts are numbers of nodes, or of lists, that can't be: the edges, and ones that a cut to fewer bits would take for one that can.
var noCounts = []int{0, -1, 65, -64, 66, 128, 256, 257, 1 << 16, 1<<16 + 1, 1 << 32, 1<<32 + 1, -1<<32 + 1, math.MinInt, math.MinInt + 1, math.MaxInt}

// noPlaces are no node's number, and no list's, whatever the ring set.
var noPlaces = []int{-1, -2, -64, 64, 65, 127, 128, 256, 1 << 16, 1 << 32, -1 << 32, math.MinInt, math.MinInt + 1, math.MaxInt, math.MaxInt - 63}

// mixed makes numbers by a fixed rule, so that each run tests the same ones.
type mixed uint64

func (m *mixed) next() uint64 {
	*m ^= *m << 13
	*m ^= *m >> 7
	*m ^= *m << 17
	return uint64(*m)
}

func (m *mixed) upTo(most int) int { return int(m.next() % uint64(most+1)) }

// model tells a ring set by the words alone: each list as its nodes, in order.
type model struct {
	nodes int
	lists [][]int
}

func (m *model) isNode(n int) bool { return n >= 0 && n < m.nodes }

func (m *model) isList(l int) bool { return l >= 0 && l < len(m.lists) }

func (m *model) list(n int) int {
	return slices.IndexFunc(m.lists, func(l []int) bool { return slices.Contains(l, n) })
}

// told is a list's nodes, of what is no list none.
func (m *model) told(l int) []int {
	if !m.isList(l) {
		return nil
	}
	return m.lists[l]
}

// at is what stands so many places behind a node in its list; -1, if nothing does.
func (m *model) at(n, behind int) int {
	if m.list(n) < 0 {
		return -1
	}
	l := m.lists[m.list(n)]
	if k := slices.Index(l, n) + behind; k >= 0 && k < len(l) {
		return l[k]
	}
	return -1
}

func (m *model) insert(l, k, n int) api.Errno {
	m.lists[l] = slices.Insert(m.lists[l], k, n)
	return api.OK
}

func (m *model) push(l, n int, first bool) api.Errno {
	if !m.isList(l) || !m.isNode(n) {
		return api.ErrRange
	}
	if m.list(n) >= 0 {
		return api.ErrState
	}
	if first {
		return m.insert(l, 0, n)
	}
	return m.insert(l, len(m.lists[l]), n)
}

func (m *model) behind(at, n int) api.Errno {
	if !m.isNode(at) || !m.isNode(n) {
		return api.ErrRange
	}
	if m.list(at) < 0 || m.list(n) >= 0 {
		return api.ErrState
	}
	l := m.list(at)
	return m.insert(l, slices.Index(m.lists[l], at)+1, n)
}

func (m *model) drop(n int) api.Errno {
	if !m.isNode(n) {
		return api.ErrRange
	}
	l := m.list(n)
	if l < 0 {
		return api.ErrState
	}
	k := slices.Index(m.lists[l], n)
	m.lists[l] = slices.Delete(m.lists[l], k, k+1)
	return api.OK
}

// both is a ring set, and what the words tell of it.
type both struct {
	x *ring.Rings
	m *model
}

func newBoth(t *testing.T, nodes, lists int) both {
	t.Helper()
	x, errno := ring.New(nodes, lists)
	if x == nil || errno != api.OK {
		t.Fatalf("P7.1: New(%d, %d): %d", nodes, lists, errno)
	}
	return both{x, &model{nodes: nodes, lists: make([][]int, lists)}}
}

// newRow is one whose list 0 has the nodes from 0 on, in order.
func newRow(t *testing.T, nodes, lists, row int) both {
	t.Helper()
	b := newBoth(t, nodes, lists)
	for n := range row {
		b.push(t, 0, n)
	}
	return b
}

func (b both) push(t *testing.T, l, n int) api.Errno {
	t.Helper()
	got, want := b.x.Push(l, n), b.m.push(l, n, false)
	if got != want {
		t.Fatalf("P7.1: Push(%d, %d): %d; want %d", l, n, got, want)
	}
	return got
}

func (b both) lead(t *testing.T, l, n int) api.Errno {
	t.Helper()
	got, want := b.x.Lead(l, n), b.m.push(l, n, true)
	if got != want {
		t.Fatalf("P7.1: Lead(%d, %d): %d; want %d", l, n, got, want)
	}
	return got
}

func (b both) behind(t *testing.T, at, n int) api.Errno {
	t.Helper()
	got, want := b.x.Behind(at, n), b.m.behind(at, n)
	if got != want {
		t.Fatalf("P7.1: Behind(%d, %d): %d; want %d", at, n, got, want)
	}
	return got
}

func (b both) drop(t *testing.T, n int) api.Errno {
	t.Helper()
	got, want := b.x.Drop(n), b.m.drop(n)
	if got != want {
		t.Fatalf("P7.1: Drop(%d): %d; want %d", n, got, want)
	}
	return got
}

// nodes are a list's as Nodes tells them; it stops one that doesn't end.
func nodes(x *ring.Rings, l int) []int {
	var all []int
	for n := range x.Nodes(l) {
		if all = append(all, n); len(all) > api.MaxThreads {
			break
		}
	}
	return all
}

func (b both) checkList(t *testing.T, l int) {
	t.Helper()
	want := b.m.told(l)
	first, last := -1, -1
	if len(want) > 0 {
		first, last = want[0], want[len(want)-1]
	}
	if b.x.First(l) != first || b.x.Last(l) != last || b.x.Len(l) != len(want) {
		t.Fatalf("P7.1: of list %d First %d, Last %d, Len %d; want %d, %d, %d", l, b.x.First(l), b.x.Last(l), b.x.Len(l), first, last, len(want))
	}
	if got := nodes(b.x, l); !slices.Equal(got, want) {
		t.Fatalf("P7.1: Nodes(%d): %v; want %v", l, got, want)
	}
}

func (b both) checkNode(t *testing.T, n int) {
	t.Helper()
	if got, want := b.x.List(n), b.m.list(n); got != want {
		t.Fatalf("P7.1: List(%d): %d; want %d", n, got, want)
	}
	if got, want := b.x.Next(n), b.m.at(n, 1); got != want {
		t.Fatalf("P7.1: Next(%d): %d; want %d", n, got, want)
	}
	if got, want := b.x.Prev(n), b.m.at(n, -1); got != want {
		t.Fatalf("P7.1: Prev(%d): %d; want %d", n, got, want)
	}
}

// checkThose holds all that is told of each list, and of each node, against the words.
func (b both) checkThose(t *testing.T) {
	t.Helper()
	for l := range b.m.lists {
		b.checkList(t, l)
	}
	for n := range b.m.nodes {
		b.checkNode(t, n)
	}
}

// check holds what is told of what is no list, and no node, against the words too.
func (b both) check(t *testing.T) {
	t.Helper()
	b.checkThose(t)
	for _, l := range b.outLists() {
		b.checkList(t, l)
	}
	for _, n := range b.outNodes() {
		b.checkNode(t, n)
	}
}

// outLists are numbers of no list of this ring set.
func (b both) outLists() []int {
	lists := len(b.m.lists)
	return append([]int{lists, lists + 1, -lists, lists - 1 + 64, lists - 1 + 1<<32}, noPlaces...)
}

// outNodes are numbers of no node of this ring set.
func (b both) outNodes() []int {
	return append([]int{b.m.nodes, b.m.nodes + 1, b.m.nodes + len(b.m.lists) - 1, b.m.nodes + len(b.m.lists), -b.m.nodes, b.m.nodes - 1 + 64, b.m.nodes - 1 + 1<<32}, noPlaces...)
}

// checkWrong makes each call with what is none: each answers ErrRange, and all is as it was.
func (b both) checkWrong(t *testing.T) {
	t.Helper()
	var got []api.Errno
	for _, out := range b.outLists() {
		for _, n := range append([]int{0, b.m.nodes - 1}, noPlaces...) {
			got = append(got, b.push(t, out, n), b.lead(t, out, n))
		}
	}
	for _, out := range b.outNodes() {
		for l := range b.m.lists {
			got = append(got, b.push(t, l, out), b.lead(t, l, out))
		}
		for n := range b.m.nodes {
			got = append(got, b.behind(t, n, out), b.behind(t, out, n))
		}
		got = append(got, b.behind(t, out, out), b.drop(t, out))
	}
	for k, errno := range got {
		if errno != api.ErrRange {
			t.Fatalf("P7.1: call %d with what is none: %d; want %d", k, errno, api.ErrRange)
		}
	}
	b.check(t)
}

// checkTaken puts each node that is in a list where it can't be put: each call answers ErrState, and all is as it was.
func (b both) checkTaken(t *testing.T) {
	t.Helper()
	for n := range b.m.nodes {
		if b.m.list(n) < 0 {
			continue
		}
		for l := range b.m.lists {
			if last, first := b.push(t, l, n), b.lead(t, l, n); last != api.ErrState || first != api.ErrState {
				t.Fatalf("P7.1: Push, Lead to %d of %d, that is in %d: %d, %d", l, n, b.m.list(n), last, first)
			}
		}
		for at := range b.m.nodes {
			if errno := b.behind(t, at, n); errno != api.ErrState {
				t.Fatalf("P7.1: Behind(%d, %d), which is in a list: %d", at, n, errno)
			}
		}
	}
	b.check(t)
}

// checkLoose asks of each node that is in no list what only one that is in one can: each call answers ErrState, and all is as it was.
func (b both) checkLoose(t *testing.T) {
	t.Helper()
	for n := range b.m.nodes {
		if b.m.list(n) >= 0 {
			continue
		}
		if errno := b.drop(t, n); errno != api.ErrState {
			t.Fatalf("P7.1: Drop(%d), which is in no list: %d", n, errno)
		}
		for other := range b.m.nodes {
			if errno := b.behind(t, n, other); errno != api.ErrState {
				t.Fatalf("P7.1: Behind(%d, %d), the first in no list: %d", n, other, errno)
			}
		}
	}
	b.check(t)
}

// checkAll makes all calls that can't be done, and holds what is told behind them against the words.
func (b both) checkAll(t *testing.T) {
	t.Helper()
	b.check(t)
	b.checkWrong(t)
	b.checkTaken(t)
	b.checkLoose(t)
}

// TestTold: a row of calls whose answers are written out.
func TestTold(t *testing.T) {
	x, _ := ring.New(5, 2)
	for k, c := range []struct{ got, want int }{
		{int(x.Push(0, 3)), 0},
		{int(x.Push(0, 1)), 0},
		{int(x.Lead(0, 4)), 0},
		{x.First(0), 4}, {x.Last(0), 1}, {x.Len(0), 3},
		{x.Next(4), 3}, {x.Next(3), 1}, {x.Next(1), -1},
		{x.Prev(4), -1}, {x.Prev(3), 4}, {x.Prev(1), 3},
		{int(x.Behind(4, 0)), 0},
		{int(x.Behind(1, 0)), 10},
		{int(x.Behind(2, 0)), 10},
		{int(x.Behind(5, 0)), 14},
		{int(x.Behind(0, 0)), 10},
		{int(x.Behind(2, 2)), 10},
		{x.Next(4), 0}, {x.Prev(3), 0}, {x.Next(0), 3}, {x.Prev(0), 4}, {x.Len(0), 4},
		{x.List(0), 0}, {x.List(2), -1}, {x.List(5), -1},
		{int(x.Lead(1, 0)), 10},
		{int(x.Lead(1, 2)), 0},
		{x.First(1), 2}, {x.Last(1), 2}, {x.Next(2), -1}, {x.Prev(2), -1}, {x.List(2), 1},
		{int(x.Lead(2, 2)), 14},
		{int(x.Push(1, 5)), 14},
		{int(x.Drop(2)), 0},
		{int(x.Drop(2)), 10},
		{int(x.Drop(5)), 14},
		{x.First(1), -1}, {x.Last(1), -1}, {x.Len(1), 0}, {x.List(2), -1},
		{int(x.Drop(3)), 0},
		{x.Next(0), 1}, {x.Prev(1), 0}, {x.Next(3), -1}, {x.Prev(3), -1},
		{int(x.Drop(4)), 0},
		{x.First(0), 0}, {x.Prev(0), -1},
		{int(x.Drop(1)), 0},
		{x.Last(0), 0}, {x.Next(0), -1}, {x.Len(0), 1},
		{int(x.Push(1, 4)), 0},
		{x.First(1), 4}, {x.List(4), 1},
		{x.First(2), -1}, {x.Last(-1), -1}, {x.Len(2), 0}, {x.Next(5), -1}, {x.Prev(-1), -1},
	} {
		if c.got != c.want {
			t.Errorf("P7.1: call %d: %d; want %d", k, c.got, c.want)
		}
	}
	if zero, one := nodes(x, 0), nodes(x, 1); !slices.Equal(zero, []int{0}) || !slices.Equal(one, []int{4}) {
		t.Errorf("P7.1: Nodes: %v, %v; want 0; 4", zero, one)
	}
}

// TestExample: the one of the chapter.
func TestExample(t *testing.T) {
	x, _ := ring.New(8, 1)
	x.Push(0, 5)
	x.Lead(0, 2)
	x.Behind(2, 7)
	if got := nodes(x, 0); !slices.Equal(got, []int{2, 7, 5}) {
		t.Errorf("P7.1: Nodes: %v; want 2, 7, 5", got)
	}
}

// TestNew: of each count of nodes and of lists; and of ones that can't be, either of them or both.
func TestNew(t *testing.T) {
	for count := 1; count <= api.MaxThreads; count++ {
		for _, other := range []int{1, 2, 63, 64} {
			newBoth(t, count, other).check(t)
			newBoth(t, other, count).check(t)
		}
	}
	for _, no := range noCounts {
		for _, other := range append([]int{1, 2, 63, 64}, noCounts...) {
			for _, x := range [][2]int{{no, other}, {other, no}} {
				if r, errno := ring.New(x[0], x[1]); r != nil || errno != api.ErrRange {
					t.Errorf("P7.1, R3: New(%d, %d): %v, %d; want none, %d", x[0], x[1], r, errno, api.ErrRange)
				}
			}
		}
	}
}

// TestOneNode: of one list, and of several, it goes in and out by each call.
func TestOneNode(t *testing.T) {
	for _, lists := range []int{1, 2, 64} {
		b := newBoth(t, 1, lists)
		b.checkAll(t)
		for l := range lists {
			b.push(t, l, 0)
			b.checkAll(t)
			b.drop(t, 0)
			b.checkAll(t)
			b.lead(t, l, 0)
			b.checkAll(t)
			b.drop(t, 0)
		}
		b.checkAll(t)
	}
}

// TestMost: MaxThreads nodes, in one list of MaxCores, in each, and in one behind the other.
func TestMost(t *testing.T) {
	b := newBoth(t, api.MaxThreads, api.MaxCores)
	for n := range api.MaxThreads {
		b.push(t, 63, n)
		b.check(t)
	}
	b.checkAll(t)
	for n := range api.MaxThreads {
		b.drop(t, n)
		b.lead(t, n, n)
		b.check(t)
	}
	b.checkAll(t)
	for n := range api.MaxThreads - 1 {
		b.drop(t, n)
		b.behind(t, 63, n)
		b.check(t)
	}
	b.checkAll(t)
	if got := b.x.Len(63); got != 64 || b.x.First(63) != 63 || b.x.Next(63) != 62 || b.x.Last(63) != 0 {
		t.Errorf("P7.1: all behind 63: %d: %v", got, nodes(b.x, 63))
	}
}

// TestEachDropped: of lists of each length each node alone is dropped, and then put into its own list, or into another one, at each of its places.
func TestEachDropped(t *testing.T) {
	for _, row := range []int{1, 2, 3, 4, 7, 64} {
		for gone := range row {
			again := []func(b both){
				func(b both) {},
				func(b both) { b.push(t, 0, gone) },
				func(b both) { b.lead(t, 0, gone) },
				func(b both) { b.push(t, 1, gone) },
				func(b both) { b.lead(t, 1, gone) },
				func(b both) { b.behind(t, (gone+1)%row, gone) },
				func(b both) { b.behind(t, (gone+row-1)%row, gone) },
			}
			for _, put := range again {
				b := newRow(t, row, 2, row)
				if first, second := b.drop(t, gone), b.drop(t, gone); first != api.OK || second != api.ErrState {
					t.Fatalf("P7.1: Drop(%d) twice: %d, %d", gone, first, second)
				}
				b.check(t)
				put(b)
				b.check(t)
				for n := range row {
					b.drop(t, n)
					b.checkThose(t)
				}
				b.push(t, 0, gone)
				b.check(t)
			}
		}
	}
}

// TestBehindEach: a node is put behind each one of a list, its first and its last too; the list beside it stays.
func TestBehindEach(t *testing.T) {
	for _, row := range []int{1, 2, 3, 5, 62} {
		for at := range row {
			b := newRow(t, row+2, 2, row)
			b.push(t, 1, row)
			if errno := b.behind(t, at, row+1); errno != api.OK {
				t.Fatalf("P7.1: Behind(%d, %d): %d", at, row+1, errno)
			}
			b.checkAll(t)
			want := slices.Insert(nodes(newRow(t, row, 1, row).x, 0), at+1, row+1)
			if got := nodes(b.x, 0); !slices.Equal(got, want) || b.x.List(row+1) != 0 {
				t.Fatalf("P7.1: Nodes behind Behind(%d, %d): %v; want %v", at, row+1, got, want)
			}
		}
	}
}

// TestNodesEnds: Nodes is told to end behind each of a list's nodes; it gives no more, and goes from the first one on the next time.
func TestNodesEnds(t *testing.T) {
	for _, row := range []int{1, 2, 3, 64} {
		b := newRow(t, 64, 2, row)
		seq := b.x.Nodes(0)
		for end := range row {
			var got []int
			seq(func(n int) bool {
				got = append(got, n)
				return len(got) <= end
			})
			if !slices.Equal(got, b.m.lists[0][:end+1]) {
				t.Fatalf("P7.1, R9: Nodes, told to end behind node %d: %v", end, got)
			}
			if all := slices.Collect(seq); !slices.Equal(all, b.m.lists[0]) {
				t.Fatalf("P7.1, R9: Nodes, a second time: %v", all)
			}
		}
		b.check(t)
	}
}

// TestNodesOfNone: of a list without nodes, and of what is no list, nothing is given.
func TestNodesOfNone(t *testing.T) {
	b := newRow(t, 4, 3, 4)
	b.drop(t, 2)
	b.push(t, 1, 2)
	b.drop(t, 2)
	for _, l := range append([]int{1, 2}, b.outLists()...) {
		b.x.Nodes(l)(func(n int) bool {
			t.Errorf("P7.1: Nodes(%d): %d; want none", l, n)
			return false
		})
	}
	b.check(t)
}

// TestNodesTwiceAtOnce: one list gone through within itself, and within another one.
func TestNodesTwiceAtOnce(t *testing.T) {
	b := newRow(t, 6, 2, 4)
	b.push(t, 1, 5)
	b.push(t, 1, 4)
	for _, l := range []int{0, 1} {
		var outer []int
		for n := range b.x.Nodes(0) {
			outer = append(outer, n)
			if inner := nodes(b.x, l); !slices.Equal(inner, b.m.lists[l]) {
				t.Errorf("P7.1: Nodes(%d) within Nodes(0): %v", l, inner)
			}
		}
		if !slices.Equal(outer, b.m.lists[0]) {
			t.Errorf("P7.1: Nodes(0) around Nodes(%d): %v", l, outer)
		}
	}
}

// TestOrderOfErrors: where two things are wrong at once, ErrRange comes ahead of ErrState.
func TestOrderOfErrors(t *testing.T) {
	b := newRow(t, 3, 2, 2)
	for k, c := range []struct{ got, want api.Errno }{
		{b.push(t, 2, 0), api.ErrRange}, // in a list already
		{b.lead(t, -1, 0), api.ErrRange},
		{b.push(t, 2, 3), api.ErrRange},
		{b.behind(t, 2, 3), api.ErrRange}, // behind one that is in none
		{b.behind(t, 3, 0), api.ErrRange},
		{b.behind(t, -1, -1), api.ErrRange},
		{b.behind(t, 2, 0), api.ErrState}, // one in none, and one in a list
		{b.behind(t, 0, 0), api.ErrState},
		{b.behind(t, 2, 2), api.ErrState},
	} {
		if c.got != c.want {
			t.Errorf("P7.1, R2: call %d: %d; want %d", k, c.got, c.want)
		}
	}
	b.check(t)
}

// TestEveryRow: each row of a few calls, of small ring sets, with all that is told behind the last one.
func TestEveryRow(t *testing.T) {
	for _, size := range []struct{ nodes, lists, calls int }{{1, 1, 4}, {2, 1, 4}, {1, 2, 4}, {2, 2, 4}, {3, 1, 4}, {3, 2, 3}} {
		puts, nodes := size.lists*size.nodes, size.nodes
		do := func(b both, call int) {
			switch {
			case call < puts:
				b.push(t, call/nodes, call%nodes)
			case call < 2*puts:
				b.lead(t, call/nodes-size.lists, call%nodes)
			case call < 2*puts+nodes*nodes:
				b.behind(t, (call-2*puts)/nodes, call%nodes)
			default:
				b.drop(t, call-2*puts-nodes*nodes)
			}
		}
		row := make([]int, size.calls)
		for more := true; more; more = step(row, 2*puts+nodes*nodes+nodes) {
			b := newBoth(t, size.nodes, size.lists)
			for _, call := range row {
				do(b, call)
			}
			b.checkThose(t)
		}
	}
}

// step counts the row on, each of its places to the base; false behind the last one.
func step(row []int, base int) bool {
	for k := range row {
		row[k]++
		if row[k] < base {
			return true
		}
		row[k] = 0
	}
	return false
}

// TestMixedRows: long rows of calls, over one list and over several, right and wrong, with all that is told behind each of them.
func TestMixedRows(t *testing.T) {
	r := mixed(88172645463325252)
	for _, size := range [][2]int{{1, 1}, {2, 1}, {4, 1}, {64, 1}, {5, 2}, {8, 3}, {33, 7}, {63, 64}, {64, 63}, {64, 64}, {1, 64}} {
		for _, drops := range []int{1, 3, 6} {
			b := newBoth(t, size[0], size[1])
			for range 400 {
				l, n, at := r.upTo(size[1]+1)-1, r.upTo(size[0]+1)-1, r.upTo(size[0]+1)-1
				switch k := r.upTo(8 + drops); {
				case k < 3:
					b.push(t, l, n)
				case k < 6:
					b.lead(t, l, n)
				case k < 9:
					b.behind(t, at, n)
				default:
					b.drop(t, n)
				}
				b.check(t)
			}
			b.checkAll(t)
		}
	}
}

// TestMoved: nodes go from list to list, each time to another place; no node is in two lists, none is lost.
func TestMoved(t *testing.T) {
	r := mixed(362436069)
	b := newRow(t, 12, 4, 12)
	for range 3000 {
		n, l := r.upTo(11), r.upTo(3)
		b.drop(t, n)
		switch at := b.x.First(l); {
		case r.upTo(2) == 0:
			b.push(t, l, n)
		case at < 0 || r.upTo(1) == 0:
			b.lead(t, l, n)
		default:
			b.behind(t, at, n)
		}
		var all []int
		for l := range 4 {
			all = append(all, nodes(b.x, l)...)
		}
		slices.Sort(all)
		if !slices.Equal(all, []int{0, 1, 2, 3, 4, 5, 6, 7, 8, 9, 10, 11}) {
			t.Fatalf("P7.1: in all lists: %v", all)
		}
		b.check(t)
	}
}

// TestRingSetsAreKeptApart: two of them, in turns, have nothing in common.
func TestRingSetsAreKeptApart(t *testing.T) {
	r := mixed(0x9e3779b97f4a7c15)
	all := []both{newBoth(t, 9, 3), newBoth(t, 9, 3), newRow(t, 64, 2, 64)}
	for range 400 {
		b := all[r.upTo(2)]
		if n := r.upTo(b.m.nodes - 1); b.m.list(n) >= 0 {
			b.drop(t, n)
		} else {
			b.lead(t, r.upTo(1), n)
		}
		for _, other := range all {
			other.check(t)
		}
	}
}

// TestAskingChangesNothing: what is asked, rightly and wrongly, is answered the same the second time.
func TestAskingChangesNothing(t *testing.T) {
	b := newRow(t, 9, 3, 5)
	b.behind(t, 2, 7)
	b.lead(t, 2, 8)
	b.drop(t, 0)
	for range 3 {
		b.checkAll(t)
	}
}
