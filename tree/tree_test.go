package tree_test

import (
	"math"
	"slices"
	"testing"

	"roundel/api"
	"roundel/tree"
)

// noRooms are capacities that can't be: the edges, and ones that a cut to fewer bits would take for one that can.
var noRooms = []int{0, -1, -2, -64, 65, 66, 128, 256, 257, 1 << 16, 1<<16 + 1, 1 << 32, 1<<32 + 1, -1<<32 + 1, math.MinInt, math.MinInt + 1, math.MaxInt}

// noIds are no group's id, whatever the forest: -1 is told as a root's parent.
var noIds = []int{0, -1, -2, -64, 1 << 20, 1 << 31, 1 << 32, 1<<32 + 1, -1<<32 + 1, 1<<32 + 2, math.MinInt, math.MinInt + 1, math.MaxInt}

// noWeights are none that can be.
var noWeights = []int{0, -1, -2, -10000, 10001, 10002, 1 << 16, 1<<16 + 1, 1 << 32, 1<<32 + 1, -1<<32 + 1, math.MinInt, math.MinInt + 1, math.MaxInt}

// mixed makes numbers by a fixed rule, so that each run tests the same ones.
type mixed uint64

func (m *mixed) next() uint64 {
	*m ^= *m << 13
	*m ^= *m >> 7
	*m ^= *m << 17
	return uint64(*m)
}

func (m *mixed) upTo(most int) int { return int(m.next() % uint64(most+1)) }

// node is a group of a model.
type node struct {
	id, weight    int
	parent        *node // none: it is a root
	asleep, awake int
}

func (n *node) depth() int {
	if n.parent == nil {
		return 1
	}
	return n.parent.depth() + 1
}

func (n *node) root() *node {
	if n.parent == nil {
		return n
	}
	return n.parent.root()
}

func (n *node) below(top *node) bool {
	return n == top || n.parent != nil && n.parent.below(top)
}

// model tells a forest by the words alone: each group knows its parent, and no more.
type model struct {
	room, given int
	all         []*node // by ids
}

func (m *model) at(id int) *node {
	for _, n := range m.all {
		if n.id == id {
			return n
		}
	}
	return nil
}

func (m *model) children(top *node) []int {
	var ids []int
	for _, n := range m.all {
		if n.parent != nil && n.parent == top {
			ids = append(ids, n.id)
		}
	}
	return ids
}

func (m *model) fan(n *node) int { return len(m.children(n)) + n.asleep + n.awake }

// active is the active count of a group, 0 of none.
func (m *model) active(top *node) int {
	sum := 0
	for _, n := range m.all {
		if top != nil && n.below(top) {
			sum += n.awake
		}
	}
	return sum
}

// deepest is the depth of the deepest group below one.
func (m *model) deepest(top *node) int {
	most := 0
	for _, n := range m.all {
		if n.below(top) {
			most = max(most, n.depth())
		}
	}
	return most
}

func (m *model) put(parent *node, weight int) (int, api.Errno) {
	if len(m.all) == m.room {
		return 0, api.ErrFull
	}
	m.given++
	m.all = append(m.all, &node{id: m.given, weight: weight, parent: parent})
	return m.given, api.OK
}

func (m *model) add(parent, weight int) (int, api.Errno) {
	p := m.at(parent)
	if p == nil {
		return 0, api.ErrGroup
	}
	if weight < 1 || weight > 10000 {
		return 0, api.ErrWeight
	}
	if p.depth()+1 > 8 {
		return 0, api.ErrDepth
	}
	if m.fan(p) >= 32 {
		return 0, api.ErrFull
	}
	return m.put(p, weight)
}

func (m *model) drop(g int) api.Errno {
	n := m.at(g)
	if n == nil {
		return api.ErrGroup
	}
	if n.parent == nil {
		return api.ErrRoot
	}
	if m.fan(n) != 0 {
		return api.ErrBusy
	}
	m.all = slices.DeleteFunc(m.all, func(other *node) bool { return other == n })
	return api.OK
}

func (m *model) move(g, parent int) api.Errno {
	n, p := m.at(g), m.at(parent)
	if n == nil || p == nil {
		return api.ErrGroup
	}
	if n.parent == nil {
		return api.ErrRoot
	}
	if n.root() != p.root() {
		return api.ErrDomain
	}
	if p.below(n) {
		return api.ErrLoop
	}
	if m.deepest(n)-n.depth()+p.depth()+1 > 8 {
		return api.ErrDepth
	}
	if n.parent != p && m.fan(p) >= 32 {
		return api.ErrFull
	}
	n.parent = p
	return api.OK
}

func (m *model) setWeight(g, weight int) api.Errno {
	n := m.at(g)
	if n == nil {
		return api.ErrGroup
	}
	if n.parent == nil {
		return api.ErrRoot
	}
	if weight < 1 || weight > 10000 {
		return api.ErrWeight
	}
	n.weight = weight
	return api.OK
}

func (m *model) join(g int) api.Errno {
	n := m.at(g)
	if n == nil {
		return api.ErrGroup
	}
	if m.fan(n) >= 32 {
		return api.ErrFull
	}
	n.asleep++
	return api.OK
}

// turn changes how many members of a group are asleep, and awake; there must be one for it.
func (m *model) turn(g, asleep, awake int) api.Errno {
	n := m.at(g)
	if n == nil {
		return api.ErrGroup
	}
	if n.asleep+asleep < 0 || n.awake+awake < 0 {
		return api.ErrState
	}
	n.asleep, n.awake = n.asleep+asleep, n.awake+awake
	return api.OK
}

// group is what Group is to tell.
func (m *model) group(g int) (tree.Group, api.Errno) {
	n := m.at(g)
	if n == nil {
		return tree.Group{}, api.ErrGroup
	}
	parent := -1
	if n.parent != nil {
		parent = n.parent.id
	}
	return tree.Group{Id: n.id, Parent: parent, Weight: n.weight, Depth: n.depth(), Root: n.root().id, Members: n.asleep + n.awake, Awake: n.awake}, api.OK
}

// both is a forest, and what the words tell of it.
type both struct {
	x *tree.Forest
	m *model
}

func newBoth(t *testing.T, room int) both {
	t.Helper()
	x, errno := tree.New(room)
	if x == nil || errno != api.OK {
		t.Fatalf("P8.1: New(%d): %d", room, errno)
	}
	return both{x, &model{room: room}}
}

func (b both) root(t *testing.T) (int, api.Errno) {
	t.Helper()
	id, errno := b.x.Root()
	if want, e := b.m.put(nil, 1); id != want || errno != e {
		t.Fatalf("P8.1: Root: %d, %d; want %d, %d", id, errno, want, e)
	}
	return id, errno
}

func (b both) add(t *testing.T, parent, weight int) (int, api.Errno) {
	t.Helper()
	id, errno := b.x.Add(parent, weight)
	if want, e := b.m.add(parent, weight); id != want || errno != e {
		t.Fatalf("P8.1: Add(%d, %d): %d, %d; want %d, %d", parent, weight, id, errno, want, e)
	}
	return id, errno
}

// row adds so many groups, each below the one ahead of it, the first below a group; the ids of all of them.
func (b both) row(t *testing.T, parent, groups int) []int {
	t.Helper()
	var ids []int
	for range groups {
		parent, _ = b.add(t, parent, 5)
		ids = append(ids, parent)
	}
	return ids
}

func (b both) drop(t *testing.T, g int) api.Errno {
	t.Helper()
	got, want := b.x.Drop(g), b.m.drop(g)
	if got != want {
		t.Fatalf("P8.1: Drop(%d): %d; want %d", g, got, want)
	}
	return got
}

func (b both) move(t *testing.T, g, parent int) api.Errno {
	t.Helper()
	got, want := b.x.Move(g, parent), b.m.move(g, parent)
	if got != want {
		t.Fatalf("P8.1: Move(%d, %d): %d; want %d", g, parent, got, want)
	}
	return got
}

func (b both) weigh(t *testing.T, g, weight int) api.Errno {
	t.Helper()
	got, want := b.x.SetWeight(g, weight), b.m.setWeight(g, weight)
	if got != want {
		t.Fatalf("P8.1: SetWeight(%d, %d): %d; want %d", g, weight, got, want)
	}
	return got
}

func (b both) join(t *testing.T, g int) api.Errno {
	t.Helper()
	got, want := b.x.Join(g), b.m.join(g)
	if got != want {
		t.Fatalf("P8.1: Join(%d): %d; want %d", g, got, want)
	}
	return got
}

func (b both) leave(t *testing.T, g int) api.Errno {
	t.Helper()
	got, want := b.x.Leave(g), b.m.turn(g, -1, 0)
	if got != want {
		t.Fatalf("P8.1: Leave(%d): %d; want %d", g, got, want)
	}
	return got
}

func (b both) wake(t *testing.T, g int) api.Errno {
	t.Helper()
	got, want := b.x.Wake(g), b.m.turn(g, -1, 1)
	if got != want {
		t.Fatalf("P8.1: Wake(%d): %d; want %d", g, got, want)
	}
	return got
}

func (b both) sleep(t *testing.T, g int) api.Errno {
	t.Helper()
	got, want := b.x.Sleep(g), b.m.turn(g, 1, -1)
	if got != want {
		t.Fatalf("P8.1: Sleep(%d): %d; want %d", g, got, want)
	}
	return got
}

// members gives a group some, of whom some are awake.
func (b both) members(t *testing.T, g, members, awake int) {
	t.Helper()
	for range members {
		b.join(t, g)
	}
	for range awake {
		b.wake(t, g)
	}
}

// checkOne holds what is told of one group, or of none, against the words.
func (b both) checkOne(t *testing.T, g int) {
	t.Helper()
	got, errno := b.x.Group(g)
	if want, e := b.m.group(g); got != want || errno != e {
		t.Fatalf("P8.1: Group(%d): %+v, %d; want %+v, %d", g, got, errno, want, e)
	}
	n := b.m.at(g)
	var children []int
	if n != nil {
		children = b.m.children(n)
	}
	if got := b.x.Children(g); !slices.Equal(got, children) {
		t.Fatalf("P8.1: Children(%d): %v; want %v", g, got, children)
	}
	if got, want := b.x.Active(g), b.m.active(n); got != want {
		t.Fatalf("P8.1: Active(%d): %d; want %d", g, got, want)
	}
}

// checkPair holds what is told of two groups, either of which may be none, against the words.
func (b both) checkPair(t *testing.T, g, top int) {
	t.Helper()
	low, high := b.m.at(g), b.m.at(top)
	if got, want := b.x.Below(g, top), low != nil && high != nil && low.below(high); got != want {
		t.Fatalf("P8.1: Below(%d, %d): %v; want %v", g, top, got, want)
	}
}

// checkThose holds all that is told of each id that was given, and of the next one, against the words.
func (b both) checkThose(t *testing.T) {
	t.Helper()
	var ids []int
	for _, n := range b.m.all {
		ids = append(ids, n.id)
	}
	if got := b.x.Ids(); !slices.Equal(got, ids) {
		t.Fatalf("P8.1: Ids: %v; want %v", got, ids)
	}
	for g := range b.m.given + 2 {
		b.checkOne(t, g)
		for top := range b.m.given + 2 {
			b.checkPair(t, g, top)
		}
	}
}

// check holds what is told of what is no group, and never was one, against the words too.
func (b both) check(t *testing.T) {
	t.Helper()
	b.checkThose(t)
	for _, no := range b.noGroups() {
		b.checkOne(t, no)
		for g := range b.m.given + 2 {
			b.checkPair(t, no, g)
			b.checkPair(t, g, no)
		}
		b.checkPair(t, no, no)
		b.checkPair(t, no, -1)
	}
}

// noGroups are ids of no group of this forest: those of groups that have gone too, and ones that a cut to fewer bits would take for a group's.
func (b both) noGroups() []int {
	ids := append([]int{b.m.given + 1, b.m.given + 64, b.m.given + 1<<32, b.m.given - 1<<32, -b.m.given}, noIds...)
	for g := range b.m.given + 1 {
		if b.m.at(g) == nil {
			ids = append(ids, g)
		}
	}
	return ids
}

// checkWrong makes each call with what is no group: each answers ErrGroup, and all is as it was.
func (b both) checkWrong(t *testing.T) {
	t.Helper()
	for _, no := range b.noGroups() {
		got := []api.Errno{b.drop(t, no), b.join(t, no), b.leave(t, no), b.wake(t, no), b.sleep(t, no), b.move(t, no, no)}
		for _, weight := range []int{1, 10000, 0, -1, 10001} {
			_, errno := b.add(t, no, weight)
			got = append(got, errno, b.weigh(t, no, weight))
		}
		for _, n := range b.m.all {
			got = append(got, b.move(t, n.id, no), b.move(t, no, n.id))
		}
		for k, errno := range got {
			if errno != api.ErrGroup {
				t.Fatalf("P8.1: call %d of group %d, which isn't there: %d; want %d", k, no, errno, api.ErrGroup)
			}
		}
	}
	b.check(t)
}

// checkWeights makes each call with weights that can't be: none is done, and all is as it was.
func (b both) checkWeights(t *testing.T) {
	t.Helper()
	for _, weight := range noWeights {
		for _, n := range b.m.all {
			if _, errno := b.add(t, n.id, weight); errno != api.ErrWeight {
				t.Fatalf("P8.1: Add(%d, %d): %d; want %d", n.id, weight, errno, api.ErrWeight)
			}
			want := api.ErrWeight
			if n.parent == nil {
				want = api.ErrRoot
			}
			if errno := b.weigh(t, n.id, weight); errno != want {
				t.Fatalf("P8.1: SetWeight(%d, %d): %d; want %d", n.id, weight, errno, want)
			}
		}
	}
	b.check(t)
}

// checkMoves moves each group to where it can't be: a root anywhere, a group below itself and its own, and below another root; and to where it is.
func (b both) checkMoves(t *testing.T) {
	t.Helper()
	for _, n := range b.m.all {
		for _, p := range b.m.all {
			want := api.OK
			switch {
			case n.parent == nil:
				want = api.ErrRoot
			case n.root() != p.root():
				want = api.ErrDomain
			case p.below(n):
				want = api.ErrLoop
			case n.parent != p:
				continue
			}
			if errno := b.move(t, n.id, p.id); errno != want {
				t.Fatalf("P8.1: Move(%d, %d): %d; want %d", n.id, p.id, errno, want)
			}
		}
	}
	b.check(t)
}

// checkStays makes the calls of single groups that they can't do: roots that go, or are weighed; groups that go, and have something; members that aren't there.
func (b both) checkStays(t *testing.T) {
	t.Helper()
	for _, n := range b.m.all {
		if n.parent == nil {
			if errno := b.drop(t, n.id); errno != api.ErrRoot {
				t.Fatalf("P8.1: Drop(%d) of a root: %d", n.id, errno)
			}
			if errno := b.weigh(t, n.id, 7); errno != api.ErrRoot {
				t.Fatalf("P8.1: SetWeight(%d, 7) of a root: %d", n.id, errno)
			}
		} else if b.m.fan(n) > 0 {
			if errno := b.drop(t, n.id); errno != api.ErrBusy {
				t.Fatalf("P8.1: Drop(%d) of one that has something: %d", n.id, errno)
			}
		}
		if n.asleep == 0 {
			if leave, wake := b.leave(t, n.id), b.wake(t, n.id); leave != api.ErrState || wake != api.ErrState {
				t.Fatalf("P8.1: Leave, Wake of %d, without one asleep: %d, %d", n.id, leave, wake)
			}
		}
		if n.awake == 0 {
			if errno := b.sleep(t, n.id); errno != api.ErrState {
				t.Fatalf("P8.1: Sleep(%d), none awake: %d", n.id, errno)
			}
		}
		if b.m.fan(n) == api.MaxFan {
			if errno := b.join(t, n.id); errno != api.ErrFull {
				t.Fatalf("P8.1: Join(%d), its fan MaxFan: %d", n.id, errno)
			}
		}
	}
	b.check(t)
}

// checkAll makes all calls that can't be done, and holds what is told behind them against the words.
func (b both) checkAll(t *testing.T) {
	t.Helper()
	b.check(t)
	b.checkWrong(t)
	b.checkWeights(t)
	b.checkMoves(t)
	b.checkStays(t)
}

// TestTold: a row of calls whose answers are written out.
func TestTold(t *testing.T) {
	x, _ := tree.New(5)
	id := func(id int, errno api.Errno) int { return id + 100*int(errno) }
	for k, c := range []struct{ got, want int }{
		{id(x.Root()), 1},
		{id(x.Add(1, 3)), 2},
		{id(x.Add(2, 10000)), 3},
		{id(x.Root()), 4},
		{id(x.Add(4, 1)), 5},
		{id(x.Add(4, 1)), 600},
		{id(x.Root()), 600},
		{id(x.Add(6, 1)), 400},
		{id(x.Add(4, 10001)), 1300},
		{int(x.Join(3)), 0}, {int(x.Join(3)), 0}, {int(x.Wake(3)), 0},
		{int(x.Join(2)), 0}, {int(x.Wake(2)), 0}, {int(x.Wake(2)), 10},
		{x.Active(1), 2}, {x.Active(2), 2}, {x.Active(3), 1}, {x.Active(4), 0}, {x.Active(6), 0},
		{int(x.Move(3, 5)), 5}, {int(x.Move(2, 3)), 12}, {int(x.Move(4, 1)), 15}, {int(x.Move(3, 6)), 4},
		{int(x.Move(3, 1)), 0},
		{x.Active(1), 2}, {x.Active(2), 1}, {x.Active(3), 1},
		{int(x.Drop(3)), 11}, {int(x.Drop(1)), 15}, {int(x.Drop(6)), 4},
		{int(x.Leave(3)), 0}, {int(x.Leave(3)), 10}, {int(x.Drop(3)), 11},
		{int(x.Sleep(3)), 0}, {int(x.Sleep(3)), 10}, {int(x.Leave(3)), 0}, {int(x.Leave(3)), 10},
		{int(x.Drop(3)), 0}, {int(x.Drop(3)), 4},
		{id(x.Add(5, 7)), 6},
		{int(x.SetWeight(6, 8)), 0}, {int(x.SetWeight(6, 0)), 13}, {int(x.SetWeight(4, 8)), 15}, {int(x.SetWeight(3, 8)), 4},
	} {
		if c.got != c.want {
			t.Errorf("P8.1: call %d: %d; want %d", k, c.got, c.want)
		}
	}
	if ids := x.Ids(); !slices.Equal(ids, []int{1, 2, 4, 5, 6}) {
		t.Errorf("P8.1: Ids: %v", ids)
	}
	for _, want := range []tree.Group{
		{Id: 1, Parent: -1, Weight: 1, Depth: 1, Root: 1},
		{Id: 2, Parent: 1, Weight: 3, Depth: 2, Root: 1, Members: 1, Awake: 1},
		{Id: 4, Parent: -1, Weight: 1, Depth: 1, Root: 4},
		{Id: 6, Parent: 5, Weight: 8, Depth: 3, Root: 4},
	} {
		if got, errno := x.Group(want.Id); got != want || errno != api.OK {
			t.Errorf("P8.1: Group(%d): %+v, %d; want %+v", want.Id, got, errno, want)
		}
	}
	if got, errno := x.Group(3); got != (tree.Group{}) || errno != api.ErrGroup {
		t.Errorf("P8.1, R3: Group(3), which has gone: %+v, %d", got, errno)
	}
	if !x.Below(6, 4) || !x.Below(6, 6) || x.Below(4, 6) || x.Below(6, 1) || x.Below(3, 1) || x.Below(3, 3) || x.Below(6, -1) {
		t.Error("P8.1: Below")
	}
}

// TestExample: the one of the chapter.
func TestExample(t *testing.T) {
	x, _ := tree.New(3)
	x.Root()
	x.Add(1, 1)
	x.Add(2, 1)
	if errno := x.Move(2, 3); errno != api.ErrLoop {
		t.Errorf("P8.1: Move(2, 3): %d; want %d", errno, api.ErrLoop)
	}
}

// TestNew: of each capacity, as many groups as may be, and none more; and of capacities that can't be.
func TestNew(t *testing.T) {
	for room := 1; room <= api.MaxGroups; room++ {
		b := newBoth(t, room)
		b.check(t)
		for k := range room {
			if id, errno := b.root(t); id != k+1 || errno != api.OK {
				t.Fatalf("P8.1: Root of %d, the %dth: %d, %d", room, k+1, id, errno)
			}
		}
		if id, errno := b.root(t); id != 0 || errno != api.ErrFull {
			t.Fatalf("P8.1, R3: Root beyond %d: %d, %d", room, id, errno)
		}
		if id, errno := b.add(t, room, 1); id != 0 || errno != api.ErrFull {
			t.Fatalf("P8.1, R3: Add beyond %d: %d, %d", room, id, errno)
		}
		b.check(t)
	}
	for _, room := range noRooms {
		if x, errno := tree.New(room); x != nil || errno != api.ErrRange {
			t.Errorf("P8.1, R3: New(%d): %v, %d; want none, %d", room, x, errno, api.ErrRange)
		}
	}
}

// TestRoomOfOne: it has a root, and no more; members come to it and go.
func TestRoomOfOne(t *testing.T) {
	b := newBoth(t, 1)
	b.checkAll(t)
	b.root(t)
	b.checkAll(t)
	for range 2 {
		b.members(t, 1, 2, 1)
		b.checkAll(t)
		b.sleep(t, 1)
		b.leave(t, 1)
		b.leave(t, 1)
		b.checkAll(t)
	}
	b.root(t)
	b.add(t, 1, 1)
	b.checkAll(t)
}

// TestDroppedAndOneMore: as many groups as may be, then each one but the root is dropped, and one more comes: its id is a new one.
func TestDroppedAndOneMore(t *testing.T) {
	for _, room := range []int{2, 3, 7, 32, 64} {
		b := newBoth(t, room)
		b.root(t)
		for b.m.given < room {
			b.add(t, max(1, b.m.given-20), 1+b.m.given)
		}
		b.checkAll(t)
		for g := room; g > 1; g-- {
			if errno := b.drop(t, g); errno != api.OK {
				t.Fatalf("P8.1: Drop(%d): %d", g, errno)
			}
			parent, next := 1, b.m.given+1
			if b.m.fan(b.m.at(1)) == api.MaxFan {
				parent = room + 1
			}
			if id, errno := b.add(t, parent, 9); id != next || errno != api.OK {
				t.Fatalf("P8.1: Add behind Drop(%d): %d, %d; want %d", g, id, errno, next)
			}
			if id, errno := b.root(t); id != 0 || errno != api.ErrFull {
				t.Fatalf("P8.1: Root beyond %d: %d, %d", room, id, errno)
			}
			b.checkOne(t, g)
			b.checkOne(t, next)
		}
		b.checkAll(t)
		if ids := b.x.Ids(); len(ids) != room || ids[0] != 1 || ids[1] != room+1 || ids[room-1] != 2*room-1 {
			t.Errorf("P8.1: Ids, all but the root anew: %v", ids)
		}
	}
}

// TestDepthByAdd: groups below one another up to MaxDepth, and none below the deepest; beside it too.
func TestDepthByAdd(t *testing.T) {
	b := newBoth(t, api.MaxGroups)
	for range 2 {
		root, _ := b.root(t)
		ids := b.row(t, root, api.MaxDepth-1)
		for k, g := range ids {
			if got, _ := b.x.Group(g); got.Depth != k+2 || got.Root != root {
				t.Errorf("P8.1: Group(%d): %+v; want the depth %d, the root %d", g, got, k+2, root)
			}
		}
		if id, errno := b.add(t, ids[6], 1); id != 0 || errno != api.ErrDepth {
			t.Errorf("P8.1: Add below the depth %d: %d, %d; want 0, %d", api.MaxDepth, id, errno, api.ErrDepth)
		}
		if _, errno := b.add(t, ids[5], 1); errno != api.OK {
			t.Errorf("P8.1: Add below the depth %d: %d", api.MaxDepth-1, errno)
		}
	}
	b.checkAll(t)
}

// TestDepthByMove: a group with a row of others below it is moved below groups of each depth: as deep as may be, and one too deep.
func TestDepthByMove(t *testing.T) {
	for below := range api.MaxDepth - 1 {
		for depth := 1; depth <= api.MaxDepth; depth++ {
			b := newBoth(t, api.MaxGroups)
			b.root(t)
			parents := append([]int{1}, b.row(t, 1, api.MaxDepth-1)...)
			moved := b.row(t, 1, below+1)
			b.add(t, moved[0], 3) // one more, less deep than the deepest, with the greatest id
			deepest := max(below, 1)
			want := api.OK
			if depth+1+deepest > api.MaxDepth {
				want = api.ErrDepth
			}
			if errno := b.move(t, moved[0], parents[depth-1]); errno != want {
				t.Fatalf("P8.1: Move of one with %d below to the depth %d: %d; want %d", deepest, depth+1, errno, want)
			}
			b.check(t)
			if errno := b.move(t, moved[0], 1); errno != api.OK {
				t.Fatalf("P8.1: Move back: %d", errno)
			}
			b.check(t)
		}
	}
}

// TestFan: of groups alone, of members alone, and of both together: up to MaxFan, and none more; of one that goes, another one may come.
func TestFan(t *testing.T) {
	for groups := 0; groups <= api.MaxFan; groups++ {
		for _, root := range []bool{true, false} {
			b := newBoth(t, api.MaxGroups)
			b.root(t)
			b.add(t, 1, 1)
			other, _ := b.add(t, 1, 1)
			full := 2
			if root {
				full = 1
			}
			for len(b.m.children(b.m.at(full))) < groups {
				if _, errno := b.add(t, full, 4); errno != api.OK {
					t.Fatalf("P8.1: Add of a fan below %d: %d", groups, errno)
				}
			}
			for b.m.fan(b.m.at(full)) < api.MaxFan {
				if errno := b.join(t, full); errno != api.OK {
					t.Fatalf("P8.1: Join of a fan below MaxFan: %d", errno)
				}
			}
			b.checkFull(t, full, other)
		}
	}
}

// checkFull holds what a group whose fan is MaxFan can't do, and can, against the words; another one is there, below which nothing is.
func (b both) checkFull(t *testing.T, full, other int) {
	t.Helper()
	b.checkStays(t)
	own := b.m.children(b.m.at(full))
	apart, errno := b.add(t, other, 1)
	if errno != api.OK {
		t.Fatalf("P8.1: Add beside a fan of MaxFan: %d", errno)
	}
	if _, errno := b.add(t, full, 1); errno != api.ErrFull || b.join(t, full) != api.ErrFull || b.move(t, apart, full) != api.ErrFull {
		t.Fatalf("P8.1: Add to a fan of MaxFan: %d; want %d of it, Join, and Move", errno, api.ErrFull)
	}
	for _, g := range own {
		if errno := b.move(t, g, full); errno != api.OK {
			t.Fatalf("P8.1: Move(%d, %d), its parent already, of a fan of MaxFan: %d", g, full, errno)
		}
	}
	b.check(t)
	if len(own) > 0 && own[len(own)-1] != other {
		b.checkFreed(t, full, other, own[len(own)-1])
	}
	if n := b.m.at(full); n.asleep > 0 {
		b.leave(t, full)
		if errno := b.move(t, apart, full); errno != api.OK {
			t.Fatalf("P8.1: Move to a fan that a member left: %d", errno)
		}
		b.check(t)
	}
}

// checkFreed moves one of a full group's own away, and puts each thing in its place.
func (b both) checkFreed(t *testing.T, full, other, own int) {
	t.Helper()
	b.move(t, own, other)
	if errno := b.join(t, full); errno != api.OK || b.move(t, own, full) != api.ErrFull {
		t.Fatalf("P8.1: Join to a fan that a group left: %d", errno)
	}
	b.leave(t, full)
	id, errno := b.add(t, full, 2)
	if errno != api.OK || b.move(t, own, full) != api.ErrFull {
		t.Fatalf("P8.1: Add to a fan that a group left: %d", errno)
	}
	b.drop(t, id)
	if errno := b.move(t, own, full); errno != api.OK || b.join(t, full) != api.ErrFull {
		t.Fatalf("P8.1: Move back to a fan that a group left: %d", errno)
	}
	b.check(t)
}

// TestMovedWithAllBelow: a group with others below it, and members, goes to each place where it can be; what is below it goes with it, its counts too.
func TestMovedWithAllBelow(t *testing.T) {
	b := newBoth(t, 20)
	b.root(t)
	b.root(t)
	for k, parent := range []int{1, 1, 3, 5, 5, 4, 8, 1, 2, 9} { // the ids from 3 on
		b.add(t, parent, k+1)
		b.members(t, k+3, k, k/2)
	}
	b.members(t, 1, 2, 2)
	b.checkAll(t)
	moves := 0
	for range 2 {
		for g := 3; g <= 12; g++ {
			for parent := 1; parent <= 12; parent++ {
				before := b.x.Active(1)
				if b.move(t, g, parent) == api.OK {
					moves++
				}
				if got := b.x.Active(1); got != before {
					t.Errorf("P8.1: Active(1) behind Move(%d, %d): %d; want %d", g, parent, got, before)
				}
				b.check(t)
			}
		}
	}
	if moves < 40 {
		t.Errorf("P8.1: only %d moves were done", moves)
	}
	b.checkAll(t)
}

// TestMembers: they come, wake, sleep and leave: none awake, all awake, the last one that leaves; of a root, and of a group.
func TestMembers(t *testing.T) {
	for members := 0; members <= api.MaxFan; members++ {
		for awake := 0; awake <= members; awake++ {
			b := newBoth(t, 3)
			b.root(t)
			b.add(t, 1, 1)
			b.add(t, 2, 1)
			b.members(t, 3, members, awake)
			b.checkThose(t)
			b.checkStays(t)
			left := 0
			for b.leave(t, 3) == api.OK {
				left++
			}
			slept := 0
			for b.sleep(t, 3) == api.OK {
				slept++
			}
			if left != members-awake || slept != awake {
				t.Fatalf("P8.1: of %d, %d awake: %d left, %d slept", members, awake, left, slept)
			}
			b.checkThose(t)
			for b.leave(t, 3) == api.OK {
				left++
			}
			if got, _ := b.x.Group(3); left != members || got.Members != 0 || got.Awake != 0 {
				t.Fatalf("P8.1: of %d, %d left: %+v", members, left, got)
			}
			if errno := b.drop(t, 3); errno != api.OK {
				t.Fatalf("P8.1: Drop, the last member left: %d", errno)
			}
			b.checkThose(t)
		}
	}
}

// TestActiveOfMost: as many members awake as there may be in a few groups, counted from each.
func TestActiveOfMost(t *testing.T) {
	b := newBoth(t, api.MaxGroups)
	b.root(t)
	for _, g := range append([]int{1}, b.row(t, 1, 7)...) {
		for b.join(t, g) == api.OK && b.wake(t, g) == api.OK {
		}
	}
	b.checkAll(t)
	if got := b.x.Active(1); got != 7*31+32 {
		t.Errorf("P8.1: Active(1): %d; want %d", got, 7*31+32)
	}
}

// TestWeights: the edges, by Add and by SetWeight; and ones that can't be.
func TestWeights(t *testing.T) {
	b := newBoth(t, 8)
	b.root(t)
	for _, weight := range []int{1, 2, 9999, 10000} {
		id, errno := b.add(t, 1, weight)
		if got, _ := b.x.Group(id); errno != api.OK || got.Weight != weight {
			t.Errorf("P8.1: Add(1, %d): %d: %+v", weight, errno, got)
		}
		b.checkWeights(t)
		for _, other := range []int{10000, 1, 1, 9999, weight} {
			if errno := b.weigh(t, id, other); errno != api.OK {
				t.Errorf("P8.1: SetWeight(%d, %d): %d", id, other, errno)
			}
			b.check(t)
		}
	}
	if got, _ := b.x.Group(1); got.Weight != 1 {
		t.Errorf("P8.1: a root's weight: %d; want 1", got.Weight)
	}
	b.checkAll(t)
}

// newCrowded is a forest where much is wrong at once: the root 1 with the row 2 to 8 to the greatest depth, the root 9 with 10 below it; 1, 2, 8, 9 and 10 have a fan of MaxFan; of as many groups as may be.
func newCrowded(t *testing.T) both {
	t.Helper()
	b := newBoth(t, 11)
	b.root(t)
	b.row(t, 1, 7)
	b.root(t)
	b.add(t, 9, 1)
	b.add(t, 3, 1) // 11, beside 4
	for _, g := range []int{1, 2, 8, 9, 10} {
		for b.join(t, g) == api.OK {
		}
	}
	return b
}

// TestOrderOfErrors: where more things than one are wrong at once, the first in the chapter's order is told.
func TestOrderOfErrors(t *testing.T) {
	b := newCrowded(t)
	b.checkAll(t)
	add := func(parent, weight int) api.Errno {
		_, errno := b.add(t, parent, weight)
		return errno
	}
	for k, c := range []struct{ got, want api.Errno }{
		{add(12, 0), api.ErrGroup},
		{add(-1, 10001), api.ErrGroup},
		{add(12, 1), api.ErrGroup},
		{add(8, 0), api.ErrWeight}, // too deep, a full fan, and as many groups as may be
		{add(1, 10001), api.ErrWeight},
		{add(3, 0), api.ErrWeight},
		{add(8, 1), api.ErrDepth},
		{add(1, 1), api.ErrFull},
		{add(3, 1), api.ErrFull},
		{b.drop(t, 1), api.ErrRoot}, // which has something
		{b.drop(t, 9), api.ErrRoot},
		{b.drop(t, 2), api.ErrBusy},
		{b.drop(t, 7), api.ErrBusy},
		{b.drop(t, 8), api.ErrBusy},
		{b.move(t, 1, 12), api.ErrGroup}, // a root, to none
		{b.move(t, 12, 1), api.ErrGroup},
		{b.move(t, 12, 12), api.ErrGroup},
		{b.move(t, 1, -1), api.ErrGroup},
		{b.move(t, 2, -1), api.ErrGroup},
		{b.move(t, 1, 1), api.ErrRoot}, // below itself
		{b.move(t, 1, 8), api.ErrRoot}, // below its own, too deep, and full
		{b.move(t, 1, 9), api.ErrRoot}, // of another root, and full
		{b.move(t, 9, 8), api.ErrRoot},
		{b.move(t, 2, 10), api.ErrDomain}, // too deep, and full
		{b.move(t, 10, 8), api.ErrDomain},
		{b.move(t, 10, 1), api.ErrDomain},
		{b.move(t, 2, 2), api.ErrLoop}, // too deep, and full
		{b.move(t, 2, 8), api.ErrLoop},
		{b.move(t, 3, 8), api.ErrLoop},
		{b.move(t, 8, 8), api.ErrLoop},
		{b.move(t, 3, 11), api.ErrLoop},
		{b.move(t, 11, 8), api.ErrDepth}, // and full
		{b.move(t, 11, 2), api.ErrFull},
		{b.move(t, 3, 1), api.ErrFull},
		{b.move(t, 2, 1), api.OK},
		{b.weigh(t, 12, 0), api.ErrGroup},
		{b.weigh(t, -1, 10001), api.ErrGroup},
		{b.weigh(t, 1, 0), api.ErrRoot},
		{b.weigh(t, 9, 10001), api.ErrRoot},
		{b.weigh(t, 9, 1), api.ErrRoot},
		{b.weigh(t, 2, 0), api.ErrWeight},
	} {
		if c.got != c.want {
			t.Errorf("P8.1, R2: call %d: %d; want %d", k, c.got, c.want)
		}
	}
	b.checkAll(t)
}

// TestNoIdIsTaken: calls that fail, of each kind, take no id.
func TestNoIdIsTaken(t *testing.T) {
	b := newCrowded(t)
	for range 3 {
		for _, parent := range []int{12, 0, -1, 8, 1, 3} {
			b.add(t, parent, 1)
			b.add(t, parent, 0)
		}
		b.root(t)
	}
	b.drop(t, 11)
	if id, errno := b.add(t, 3, 1); id != 12 || errno != api.OK {
		t.Errorf("P8.1, R4: Add behind calls that failed: %d, %d; want 12", id, errno)
	}
	b.checkAll(t)
}

// TestEveryRow: each row of three calls, with the ids 1 to 3, behind a few beginnings, with all that is told behind the last one.
func TestEveryRow(t *testing.T) {
	begins := []func(b both){
		func(b both) { b.root(t) },
		func(b both) { b.root(t); b.add(t, 1, 2); b.join(t, 2) },
		func(b both) { b.root(t); b.add(t, 1, 2); b.add(t, 2, 3); b.members(t, 3, 2, 1) },
		func(b both) { b.root(t); b.root(t); b.add(t, 2, 3); b.members(t, 2, 1, 1) },
		func(b both) { b.root(t); b.add(t, 1, 2); b.add(t, 1, 3); b.members(t, 3, 1, 1) },
	}
	for _, begin := range begins {
		row := make([]int, 3)
		for more := true; more; more = step(row, 31) {
			b := newBoth(t, 3)
			begin(b)
			for _, call := range row {
				b.do(t, call)
			}
			b.checkThose(t)
		}
	}
}

// do makes a call of those that a number from 0 to 30 stands for.
func (b both) do(t *testing.T, call int) {
	t.Helper()
	g := call%3 + 1
	switch {
	case call < 3:
		b.add(t, g, 2)
	case call < 6:
		b.drop(t, g)
	case call < 9:
		b.weigh(t, g, 4)
	case call < 12:
		b.join(t, g)
	case call < 15:
		b.leave(t, g)
	case call < 18:
		b.wake(t, g)
	case call < 21:
		b.sleep(t, g)
	case call < 30:
		b.move(t, g, (call-21)/3+1)
	default:
		b.root(t)
	}
}

// step counts the row on, each of its places to the base; false behind the last one.
func step(row []int, base int) bool {
	for k := range row {
		row[k]++
		if row[k] < base {
			return true
		}
		row[k] = 0
	}
	return false
}

// doMixed makes a call of any kind, mostly of groups that are there: the greater ends is, the more often one by which something ends.
func (b both) doMixed(t *testing.T, r *mixed, ends int) {
	t.Helper()
	g, other := b.anyId(r), b.anyId(r)
	weight := r.upTo(10000) + 1
	if r.upTo(20) == 0 {
		weight = noWeights[r.upTo(len(noWeights)-1)]
	}
	switch r.upTo(10 + ends) {
	case 0, 1:
		b.add(t, g, weight)
	case 2, 3, 4:
		b.move(t, g, other)
	case 5:
		b.weigh(t, g, weight)
	case 6, 7:
		b.join(t, g)
	case 8, 9:
		b.wake(t, g)
	case 10:
		if r.upTo(4) == 0 { // seldom: else most groups would be roots, which never go
			b.root(t)
		}
	default:
		[]func(*testing.T, int) api.Errno{b.drop, b.leave, b.sleep, b.drop}[r.upTo(3)](t, g)
	}
}

// anyId is a group's, or seldom that of none.
func (b both) anyId(r *mixed) int {
	if no := b.noGroups(); r.upTo(20) == 0 {
		return no[r.upTo(len(no)-1)]
	}
	return b.m.all[r.upTo(len(b.m.all)-1)].id
}

// TestMixedRows: long rows of all calls, over one root and over several, with all that is told behind each of them.
func TestMixedRows(t *testing.T) {
	r := mixed(88172645463325252)
	for _, size := range []struct{ room, roots, calls int }{{1, 1, 50}, {2, 1, 100}, {3, 1, 200}, {6, 1, 300}, {12, 1, 300}, {12, 3, 300}, {30, 1, 250}, {30, 4, 250}, {64, 1, 200}, {64, 2, 200}, {64, 8, 200}} {
		for _, ends := range []int{2, 7, 12} {
			b := newBoth(t, size.room)
			for range size.roots {
				b.root(t)
			}
			for range size.calls {
				b.doMixed(t, &r, ends)
				b.checkEach(t, &r)
			}
			b.checkAll(t)
		}
	}
}

// checkEach holds all that is told of each id that was given, and Below of any two groups that are there, against the words.
func (b both) checkEach(t *testing.T, r *mixed) {
	t.Helper()
	if b.m.given < 20 {
		b.check(t)
		return
	}
	var ids []int
	for _, n := range b.m.all {
		ids = append(ids, n.id)
	}
	if got := b.x.Ids(); !slices.Equal(got, ids) {
		t.Fatalf("P8.1: Ids: %v; want %v", got, ids)
	}
	for g := range b.m.given + 2 {
		b.checkOne(t, g)
		b.checkPair(t, g, b.anyId(r))
	}
	for _, g := range ids {
		for _, top := range ids {
			b.checkPair(t, g, top)
		}
	}
}

// TestDeepMixedRows: rows where groups stand deep and dense, so that depths and fans are met often.
func TestDeepMixedRows(t *testing.T) {
	r := mixed(0x9e3779b97f4a7c15)
	told := map[api.Errno]int{}
	for range 6 {
		b := newBoth(t, api.MaxGroups)
		b.root(t)
		b.root(t)
		b.row(t, 1, 7)
		b.row(t, 2, 7)
		for range 40 {
			b.add(t, r.upTo(15)+1, 5)
		}
		b.members(t, 1, 24, 3)
		b.members(t, 4, 28, 28)
		for range 300 {
			g, parent := b.anyId(&r), b.anyId(&r)
			if r.upTo(3) == 0 {
				parent = []int{1, 4}[r.upTo(1)]
			}
			told[b.move(t, g, parent)]++
			b.checkOne(t, g)
			b.checkOne(t, parent)
		}
		b.checkAll(t)
	}
	for _, errno := range []api.Errno{api.OK, api.ErrGroup, api.ErrRoot, api.ErrDomain, api.ErrLoop, api.ErrDepth, api.ErrFull} {
		if told[errno] == 0 {
			t.Errorf("P8.1: no Move answered %d: %v", errno, told)
		}
	}
}

// TestAnswersAreNewMemory: lists that were answered are written over, spare room too: nothing else is changed.
func TestAnswersAreNewMemory(t *testing.T) {
	b := newBoth(t, 9)
	b.root(t)
	for range 5 {
		b.add(t, 1, 1)
	}
	b.add(t, 2, 1)
	b.drop(t, 4)
	ask := []func() []int{b.x.Ids, func() []int { return b.x.Children(1) }, func() []int { return b.x.Children(2) }}
	for k, first := range ask {
		var kept [][]int
		for _, other := range ask {
			kept = append(kept, other())
		}
		want := [][]int{slices.Clone(kept[0]), slices.Clone(kept[1]), slices.Clone(kept[2])}
		got := first()
		got = got[:cap(got)]
		for i := range got {
			got[i] = -7
		}
		for i := range kept {
			if !slices.Equal(kept[i], want[i]) || !slices.Equal(ask[i](), want[i]) {
				t.Errorf("P8.1, R6: list %d, behind one of %d written over: %v, %v; want %v", i, k, kept[i], ask[i](), want[i])
			}
		}
	}
	b.checkAll(t)
}

// TestForestsAreKeptApart: several of them, in turns, have nothing in common.
func TestForestsAreKeptApart(t *testing.T) {
	r := mixed(362436069)
	all := []both{newBoth(t, 6), newBoth(t, 6), newBoth(t, 9)}
	for _, b := range all {
		b.root(t)
	}
	for range 300 {
		all[r.upTo(2)].doMixed(t, &r, 3)
		for _, b := range all {
			b.checkThose(t)
		}
	}
	for _, b := range all {
		b.checkAll(t)
	}
}

// TestAskingChangesNothing: what is asked, rightly and wrongly, is answered the same each time, whatever the order in which groups are kept.
func TestAskingChangesNothing(t *testing.T) {
	b := newCrowded(t)
	b.move(t, 11, 4)
	b.wake(t, 8)
	for range 5 {
		b.checkAll(t)
	}
}
