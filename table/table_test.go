package table_test

import (
	"maps"
	"math"
	"slices"
	"testing"

	"roundel/api"
	"roundel/table"
)

// noCapacities are numbers that are no capacity: the edges, and ones that a cut to fewer bits would take for one.
var noCapacities = []int{0, -1, 65, -64, 66, 128, 256, 257, 1 << 16, 1<<16 + 1, 1 << 32, 1<<32 + 1, -1<<32 + 1, math.MinInt, math.MinInt + 1, math.MaxInt}

// noSlots are no table's, whatever its capacity.
var noSlots = []int{-1, -2, -64, 64, 65, 128, 256, 1 << 16, 1 << 32, -1 << 32, math.MinInt, math.MaxInt}

// noIds are never given.
var noIds = []int{0, -1, -2, -1 << 31, 1<<31 + 1, 1 << 32, 1<<32 + 1, -1<<32 + 1, math.MinInt, math.MinInt + 1, math.MaxInt}

// mixed makes numbers by a fixed rule, so that each run tests the same ones.
type mixed uint64

func (m *mixed) next() uint64 {
	*m ^= *m << 13
	*m ^= *m >> 7
	*m ^= *m << 17
	return uint64(*m)
}

func (m *mixed) upTo(most int) int { return int(m.next() % uint64(most+1)) }

// model tells a table by the words alone: which thing has which slot.
type model struct {
	room, last int
	slots      map[int]int // by ids
	gone       []int       // ids that were given, and dropped
}

func newModel(room int) *model { return &model{room: room, slots: map[int]int{}} }

func (m *model) id(slot int) int {
	for id, s := range m.slots {
		if s == slot {
			return id
		}
	}
	return 0
}

func (m *model) add() (id, slot int, e api.Errno) {
	if len(m.slots) == m.room || m.last == api.MaxId {
		return 0, 0, api.ErrFull
	}
	for m.id(slot) != 0 {
		slot++
	}
	m.last++
	m.slots[m.last] = slot
	return m.last, slot, api.OK
}

func (m *model) drop(id int) api.Errno {
	if _, ok := m.slots[id]; !ok {
		return api.ErrThread
	}
	delete(m.slots, id)
	m.gone = append(m.gone, id)
	return api.OK
}

func (m *model) skip(n int) api.Errno {
	if n < 0 || n > api.MaxId || m.last+n > api.MaxId {
		return api.ErrRange
	}
	m.last += n
	return api.OK
}

func (m *model) ids() []int { return slices.Sorted(maps.Keys(m.slots)) }

// both is a table, and what the words tell of it.
type both struct {
	x *table.Table
	m *model
}

func newBoth(t *testing.T, room int) both {
	t.Helper()
	x, errno := table.New(room)
	if x == nil || errno != api.OK {
		t.Fatalf("P6.1: New(%d): %d", room, errno)
	}
	return both{x, newModel(room)}
}

// newFull is one with a thing in each slot.
func newFull(t *testing.T, room int) both {
	t.Helper()
	b := newBoth(t, room)
	for range room {
		b.add(t)
	}
	return b
}

func (b both) add(t *testing.T) (id, slot int, e api.Errno) {
	t.Helper()
	last := b.x.Last()
	id, slot, e = b.x.Add()
	wantId, wantSlot, want := b.m.add()
	if id != wantId || slot != wantSlot || e != want {
		t.Fatalf("P6.1: Add: %d, %d, %d; want %d, %d, %d", id, slot, e, wantId, wantSlot, want)
	}
	if e == api.OK && id <= last {
		t.Fatalf("P6.2: Add: %d, behind %d", id, last)
	}
	return id, slot, e
}

func (b both) drop(t *testing.T, id int) api.Errno {
	t.Helper()
	got, want := b.x.Drop(id), b.m.drop(id)
	if got != want {
		t.Fatalf("P6.1: Drop(%d): %d; want %d", id, got, want)
	}
	return got
}

func (b both) skip(t *testing.T, n int) api.Errno {
	t.Helper()
	got, want := b.x.Skip(n), b.m.skip(n)
	if got != want {
		t.Fatalf("P6.1: Skip(%d) behind %d: %d; want %d", n, b.m.last, got, want)
	}
	return got
}

// checkCounts holds what is told of the whole against the words.
func (b both) checkCounts(t *testing.T) {
	t.Helper()
	n := len(b.m.slots)
	if b.x.Len() != n || b.x.Room() != b.m.room-n || b.x.Last() != b.m.last {
		t.Fatalf("P6.1: Len %d, Room %d, Last %d; want %d, %d, %d", b.x.Len(), b.x.Room(), b.x.Last(), n, b.m.room-n, b.m.last)
	}
	if ids := b.x.Ids(); !slices.Equal(ids, b.m.ids()) {
		t.Fatalf("P6.1: Ids: %v; want %v", ids, b.m.ids())
	}
}

// checkSlots holds each slot, and what is none, against the words.
func (b both) checkSlots(t *testing.T) {
	t.Helper()
	for slot := range b.m.room {
		if got := b.x.Id(slot); got != b.m.id(slot) {
			t.Fatalf("P6.1: Id(%d): %d; want %d", slot, got, b.m.id(slot))
		}
	}
	for _, slot := range append([]int{b.m.room, b.m.room + 1, b.m.room + 64, b.m.room - 1 + 1<<32, -b.m.room}, noSlots...) {
		if got := b.x.Id(slot); got != 0 {
			t.Fatalf("P6.1: Id(%d), which is no slot of %d: %d", slot, b.m.room, got)
		}
	}
}

// checkIds holds each id that is in it, and those that are not, against the words.
func (b both) checkIds(t *testing.T) {
	t.Helper()
	out := slices.Concat(noIds, b.m.gone, []int{b.m.last + 1, b.m.last + 2})
	for id, want := range b.m.slots {
		if slot, errno := b.x.Slot(id); slot != want || errno != api.OK {
			t.Fatalf("P6.1: Slot(%d): %d, %d; want %d", id, slot, errno, want)
		}
		out = append(out, -id, ^id, id+1<<32, id-1<<32, id|math.MinInt)
	}
	for _, id := range out {
		if slot, errno := b.x.Slot(id); slot != 0 || errno != api.ErrThread {
			t.Fatalf("P6.1, R3: Slot(%d), which nothing has: %d, %d", id, slot, errno)
		}
		if errno := b.x.Drop(id); errno != api.ErrThread {
			t.Fatalf("P6.1: Drop(%d), which nothing has: %d", id, errno)
		}
	}
}

func (b both) check(t *testing.T) {
	t.Helper()
	b.checkSlots(t)
	b.checkIds(t)
	b.checkCounts(t) // behind the calls that drop nothing: those have changed nothing
}

// TestTold: a row of calls whose answers are written out.
func TestTold(t *testing.T) {
	x, _ := table.New(2)
	add := func() [3]int {
		id, slot, e := x.Add()
		return [3]int{id, slot, int(e)}
	}
	slot := func(id int) [2]int {
		s, e := x.Slot(id)
		return [2]int{s, int(e)}
	}
	for k, c := range []struct{ got, want any }{
		{add(), [3]int{1, 0, 0}},
		{add(), [3]int{2, 1, 0}},
		{add(), [3]int{0, 0, 6}},
		{x.Drop(1), api.OK},
		{x.Drop(1), api.ErrThread},
		{add(), [3]int{3, 0, 0}},
		{slot(3), [2]int{0, 0}},
		{slot(2), [2]int{1, 0}},
		{slot(1), [2]int{0, 3}},
		{x.Id(0), 3},
		{x.Id(1), 2},
		{x.Id(2), 0},
		{x.Len(), 2},
		{x.Room(), 0},
		{x.Last(), 3},
		{x.Drop(2), api.OK},
		{x.Id(1), 0},
		{x.Len(), 1},
		{x.Room(), 1},
		{x.Skip(0), api.OK},
		{x.Last(), 3},
		{x.Skip(6), api.OK},
		{x.Last(), 9},
		{x.Len(), 1},
		{slot(9), [2]int{0, 3}},
		{add(), [3]int{10, 1, 0}},
	} {
		if c.got != c.want {
			t.Errorf("P6.1: call %d: %v; want %v", k, c.got, c.want)
		}
	}
	if ids := x.Ids(); !slices.Equal(ids, []int{3, 10}) {
		t.Errorf("P6.1: Ids: %v", ids)
	}
}

// TestExample: the one of the chapter.
func TestExample(t *testing.T) {
	x, _ := table.New(3)
	x.Add()
	x.Add()
	x.Drop(1)
	if id, slot, e := x.Add(); id != 3 || slot != 0 || e != api.OK {
		t.Errorf("P6.1: Add: %d, %d, %d; want 3, 0", id, slot, e)
	}
}

func TestNew(t *testing.T) {
	for room := 1; room <= api.MaxThreads; room++ {
		newBoth(t, room).check(t)
	}
	for _, room := range noCapacities {
		if x, errno := table.New(room); x != nil || errno != api.ErrRange {
			t.Errorf("P6.1, R3: New(%d): %v, %d; want none, %d", room, x, errno, api.ErrRange)
		}
	}
}

// TestFull: of each capacity so many are added, each in the next slot, and none more; that takes no id.
func TestFull(t *testing.T) {
	for room := 1; room <= api.MaxThreads; room++ {
		b := newBoth(t, room)
		for k := range room {
			if id, slot, e := b.add(t); id != k+1 || slot != k || e != api.OK {
				t.Fatalf("P6.1: Add %d of %d: %d, %d, %d", k+1, room, id, slot, e)
			}
			b.check(t)
		}
		for range 3 {
			if id, slot, e := b.add(t); id != 0 || slot != 0 || e != api.ErrFull {
				t.Fatalf("P6.1, R3: Add to a full one of %d: %d, %d, %d", room, id, slot, e)
			}
			b.check(t)
		}
		b.drop(t, room)
		if id, slot, e := b.add(t); id != room+1 || slot != room-1 || e != api.OK {
			t.Fatalf("P6.1, R4: Add to one of %d behind ones in vain: %d, %d, %d", room, id, slot, e)
		}
		b.check(t)
	}
}

// TestEachDropped: of a full one each alone is dropped, twice told; the next one has its slot.
func TestEachDropped(t *testing.T) {
	for _, room := range []int{1, 2, 3, 63, 64} {
		for gone := 1; gone <= room; gone++ {
			b := newFull(t, room)
			if first, second := b.drop(t, gone), b.drop(t, gone); first != api.OK || second != api.ErrThread {
				t.Fatalf("P6.1: Drop(%d) twice: %d, %d", gone, first, second)
			}
			b.check(t)
			if id, slot, _ := b.add(t); id != room+1 || slot != gone-1 {
				t.Fatalf("P6.1: Add behind Drop(%d) of %d: %d, %d", gone, room, id, slot)
			}
			b.check(t)
			if errno := b.drop(t, gone); errno != api.ErrThread {
				t.Fatalf("P6.1: Drop(%d), whose slot another one has: %d", gone, errno)
			}
			b.check(t)
		}
	}
}

// TestDropsInAnyOrder: of a full one some are dropped, in each order that there is; those that come have the slots, the least one first.
func TestDropsInAnyOrder(t *testing.T) {
	const room = 5
	rows := 0
	var dropMore func(gone []int)
	dropMore = func(gone []int) {
		rows++
		b := newFull(t, room)
		for _, id := range gone {
			b.drop(t, id)
			b.check(t)
		}
		for k, id := range slices.Sorted(slices.Values(gone)) {
			if got, slot, _ := b.add(t); got != room+1+k || slot != id-1 {
				t.Fatalf("P6.1: Add %d behind drops of %v: %d, %d; want %d, %d", k+1, gone, got, slot, room+1+k, id-1)
			}
			b.check(t)
		}
		b.add(t)
		for id := 1; id <= room; id++ {
			if !slices.Contains(gone, id) {
				dropMore(append(slices.Clone(gone), id))
			}
		}
	}
	dropMore(nil)
	if rows != 1+5+20+60+120+120 {
		t.Errorf("P6.1: %d orders", rows)
	}
}

// TestManyDropped: of the greatest one every third goes, from behind; then the slots are taken again from the front, and all else is where it was.
func TestManyDropped(t *testing.T) {
	b := newFull(t, api.MaxThreads)
	for id := 64; id > 0; id -= 3 {
		b.drop(t, id)
		b.check(t)
	}
	for slot := 0; slot < 64; slot += 3 {
		if _, got, _ := b.add(t); got != slot {
			t.Fatalf("P6.1: Add: slot %d; want %d", got, slot)
		}
		b.check(t)
	}
	b.add(t)
	for id := range 100 {
		b.drop(t, id)
	}
	b.check(t)
	if b.x.Len() != 0 || b.x.Room() != 64 || b.x.Last() != 86 {
		t.Errorf("P6.1: all dropped: %d, %d, %d", b.x.Len(), b.x.Room(), b.x.Last())
	}
}

// TestEveryRow: each row of a few calls, of small tables, with all that is told behind the last one.
func TestEveryRow(t *testing.T) {
	const calls = 6
	do := func(b both, call int) {
		switch {
		case call == 0:
			b.add(t)
		case call <= 2:
			b.skip(t, call-1)
		default:
			b.drop(t, call-2)
		}
	}
	for room := 1; room <= 3; room++ {
		for length := range calls + 1 {
			row := make([]int, length)
			for more := true; more; more = step(row, 7) {
				b := newBoth(t, room)
				for _, call := range row {
					do(b, call)
				}
				b.check(t)
			}
		}
	}
}

// step counts the row on, each of its places to the base; false behind the last one.
func step(row []int, base int) bool {
	for k := range row {
		row[k]++
		if row[k] < base {
			return true
		}
		row[k] = 0
	}
	return false
}

// TestMixedRows: long rows of calls, of ids that are in it, that were, and that never are.
func TestMixedRows(t *testing.T) {
	r := mixed(88172645463325252)
	for _, room := range []int{1, 2, 3, 5, 8, 31, 32, 33, 63, 64} {
		for _, busy := range []int{1, 2, 4} {
			b := newBoth(t, room)
			for range 600 {
				switch k := r.upTo(9); {
				case k < busy*2:
					b.add(t)
				case k < 8 && len(b.m.slots) > 0:
					ids := b.m.ids()
					b.drop(t, ids[r.upTo(len(ids)-1)])
				case k == 8:
					b.skip(t, r.upTo(4)-1)
				default:
					b.drop(t, r.upTo(b.m.last+2)-1)
				}
				b.checkCounts(t)
				if r.upTo(19) == 0 {
					b.check(t)
				}
			}
			b.check(t)
		}
	}
}

// TestNeverTwice: long rows of what comes, goes, and is skipped, full and in vain too; of all ids that are given, each is above all before it.
func TestNeverTwice(t *testing.T) {
	r := mixed(362436069)
	for _, room := range []int{1, 3, 64} {
		x, _ := table.New(room)
		seen := map[int]bool{}
		greatest := 0
		for range 5000 {
			switch r.upTo(5) {
			case 0, 1, 2:
				id, _, e := x.Add()
				if e == api.OK && (seen[id] || id != greatest+1) || e != api.OK && id != 0 {
					t.Fatalf("P6.2: Add: %d behind %d, given before: %v", id, greatest, seen[id])
				}
				seen[id], greatest = true, max(greatest, id)
			case 3:
				x.Drop(greatest) // the last one that came, so that a table that counts back is found out
			case 4:
				if ids := x.Ids(); len(ids) > 0 {
					x.Drop(ids[r.upTo(len(ids)-1)])
				}
			case 5:
				if n := r.upTo(3); x.Skip(n) == api.OK {
					greatest += n
				}
			}
		}
	}
}

// TestSkipEnds: as far as MaxId and no further, from wherever it begins; one beyond changes nothing.
func TestSkipEnds(t *testing.T) {
	for _, given := range []int{0, 1, 2, 5} {
		for _, first := range []int{0, 1, 1000, api.MaxId - 6, api.MaxId - 5} {
			b := newBoth(t, 5)
			for range given {
				b.add(t)
			}
			if errno := b.skip(t, first); errno != api.OK {
				t.Fatalf("P6.1: Skip(%d) behind %d: %d", first, given, errno)
			}
			left := api.MaxId - given - first
			for _, n := range []int{left + 1, left + 2, api.MaxId + 1, 1 << 32, 1<<32 + left, math.MaxInt, math.MaxInt - left, -1, -left - 1, -api.MaxId, -1 << 32, math.MinInt} {
				if errno := b.skip(t, n); errno != api.ErrRange {
					t.Fatalf("P6.1: Skip(%d) with %d left: %d", n, left, errno)
				}
				b.check(t)
			}
			if errno := b.skip(t, left); errno != api.OK || b.x.Last() != api.MaxId {
				t.Fatalf("P6.1: Skip(%d), all that is left: %d, Last %d", left, errno, b.x.Last())
			}
			b.check(t)
			if one, none := b.skip(t, 1), b.skip(t, 0); one != api.ErrRange || none != api.OK {
				t.Fatalf("P6.1: with no ids left Skip(1): %d, Skip(0): %d", one, none)
			}
			b.check(t)
		}
	}
}

// TestLastIds: the last ids are given, and the last of all is MaxId; then none, though slots are free.
func TestLastIds(t *testing.T) {
	for _, room := range []int{1, 3, 4, 64} {
		b := newBoth(t, room)
		b.skip(t, api.MaxId-4)
		for k := range 4 {
			if len(b.m.slots) == room {
				b.drop(t, b.m.last)
			}
			if id, _, e := b.add(t); id != api.MaxId-3+k || e != api.OK {
				t.Fatalf("P6.1: Add, %d of the last four: %d, %d", k+1, id, e)
			}
			b.check(t)
		}
		for _, id := range append(b.m.ids(), 0) {
			if id, slot, e := b.add(t); id != 0 || slot != 0 || e != api.ErrFull {
				t.Fatalf("P6.1, P6.2: Add behind MaxId: %d, %d, %d", id, slot, e)
			}
			b.check(t)
			b.drop(t, id)
			b.check(t)
		}
		if b.x.Len() != 0 || b.x.Room() != room || b.x.Last() != api.MaxId {
			t.Fatalf("P6.1: behind MaxId, all dropped: %d, %d, %d", b.x.Len(), b.x.Room(), b.x.Last())
		}
	}
}

// TestSkipped: ids that were skipped are nothing's, and none of them comes later; slots go on as they were, in a full one too.
func TestSkipped(t *testing.T) {
	for _, n := range []int{0, 1, 2, 63, 64, 65, 1 << 16, 1 << 30} {
		b := newFull(t, 3)
		b.skip(t, n)
		b.check(t)
		for _, id := range []int{4, 3 + n} {
			if slot, errno := b.x.Slot(id); n > 0 && (slot != 0 || errno != api.ErrThread || b.drop(t, id) != api.ErrThread) {
				t.Fatalf("P6.1: Slot(%d) behind Skip(%d): %d, %d", id, n, slot, errno)
			}
		}
		b.add(t)
		b.drop(t, 2)
		if id, slot, _ := b.add(t); id != 4+n || slot != 1 {
			t.Fatalf("P6.1: Add behind Skip(%d): %d, %d", n, id, slot)
		}
		b.check(t)
	}
}

// TestAnswersAreKeptApart: lists of ids are new memory, their spare room too.
func TestAnswersAreKeptApart(t *testing.T) {
	b := newFull(t, 6)
	b.drop(t, 2)
	b.drop(t, 5)
	first, second := b.x.Ids(), b.x.Ids()
	for i := range first[:cap(first)] {
		first[:cap(first)][i] = 77
	}
	if !slices.Equal(second, b.m.ids()) {
		t.Errorf("R6: a list of ids became %v", second)
	}
	b.check(t)
	for id := range 8 {
		b.drop(t, id)
	}
	b.add(t)
	if !slices.Equal(second, []int{1, 3, 4, 6}) {
		t.Errorf("R6: a list of ids became %v, as the table changed", second)
	}
	b.check(t)
}

// TestTablesAreKeptApart: two of them, in turns, have nothing in common.
func TestTablesAreKeptApart(t *testing.T) {
	r := mixed(0x9e3779b97f4a7c15)
	all := []both{newBoth(t, 7), newBoth(t, 7), newFull(t, 64)}
	for range 500 {
		b := all[r.upTo(2)]
		if r.upTo(1) == 0 {
			b.add(t)
		} else {
			b.drop(t, r.upTo(b.m.last))
		}
		for _, other := range all {
			other.checkCounts(t)
		}
	}
	for _, b := range all {
		b.check(t)
	}
}

// TestAskingChangesNothing: what is asked, rightly and wrongly, is answered the same the second time.
func TestAskingChangesNothing(t *testing.T) {
	b := newFull(t, 9)
	b.drop(t, 4)
	b.skip(t, 11)
	b.add(t)
	b.drop(t, 1)
	for range 3 {
		b.check(t)
	}
}
