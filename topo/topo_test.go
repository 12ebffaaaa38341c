package topo_test

import (
	"maps"
	"math"
	"slices"
	"testing"

	"roundel/api"
	"roundel/mask"
	"roundel/topo"
)

const all = mask.Set(math.MaxUint64)

// noCores are numbers that are no core: the edges, and ones that a shift or a cut to fewer bits would take for one.
var noCores = []int{-1, 64, -64, 65, 127, 128, 256, 1 << 32, -1 << 32, math.MinInt, math.MaxInt}

// farDomains are no topology's, whatever it has.
var farDomains = []int{-1, -2, -8, 8, 9, 64, 256, 1 << 32, -1 << 32, math.MinInt, math.MaxInt}

// mixed makes numbers by a fixed rule, so that each run tests the same ones.
type mixed uint64

func (m *mixed) next() uint64 {
	*m ^= *m << 13
	*m ^= *m >> 7
	*m ^= *m << 17
	return uint64(*m)
}

func (m *mixed) upTo(most int) int { return int(m.next() % uint64(most+1)) }

// parts makes domains core by core; a core of no domain is told now and then.
func (m *mixed) parts() []mask.Set {
	n := 1 + m.upTo(api.MaxDomains-1)
	domains := make([]mask.Set, n)
	for c := range 64 {
		if d := m.upTo(n); d < n {
			domains[d] |= 1 << c
		}
	}
	return slices.DeleteFunc(domains, func(s mask.Set) bool { return s == 0 })
}

// model tells a topology core by core, by the words alone.
type model struct {
	domains int
	of      map[int]int
	on      map[int]bool
}

func has(s mask.Set, c int) bool { return c >= 0 && c < 64 && uint64(s)/(1<<c)%2 == 1 }

func newModel(domains []mask.Set) *model {
	m := &model{domains: len(domains), of: map[int]int{}, on: map[int]bool{}}
	for d, s := range domains {
		for c := range 64 {
			if has(s, c) {
				m.of[c], m.on[c] = d, true
			}
		}
	}
	return m
}

func (m *model) copy() *model {
	return &model{domains: m.domains, of: maps.Clone(m.of), on: maps.Clone(m.on)}
}

// pick is the set of a domain's cores that fit.
func (m *model) pick(d int, fits func(c int) bool) mask.Set {
	var s mask.Set
	for c, domain := range m.of {
		if domain == d && fits(c) {
			s += 1 << c
		}
	}
	return s
}

func (m *model) cores(d int) mask.Set { return m.pick(d, func(int) bool { return true }) }

func (m *model) online(d int) mask.Set { return m.pick(d, func(c int) bool { return m.on[c] }) }

func (m *model) up(c int) api.Errno {
	if _, ok := m.of[c]; !ok {
		return api.ErrCore
	}
	if m.on[c] {
		return api.ErrState
	}
	m.on[c] = true
	return api.OK
}

func (m *model) down(c int) api.Errno {
	d, ok := m.of[c]
	if !ok {
		return api.ErrCore
	}
	if !m.on[c] {
		return api.ErrState
	}
	if m.pick(d, func(other int) bool { return other != c && m.on[other] }) == 0 {
		return api.ErrLast
	}
	m.on[c] = false
	return api.OK
}

func (m *model) effective(d int, s mask.Set) (mask.Set, api.Errno) {
	if d < 0 || d >= m.domains {
		return 0, api.ErrDomain
	}
	if m.pick(d, func(c int) bool { return has(s, c) }) == 0 {
		return 0, api.ErrMask
	}
	if own := m.pick(d, func(c int) bool { return has(s, c) && m.on[c] }); own != 0 {
		return own, api.OK
	}
	return m.online(d), api.OK
}

func newBoth(t *testing.T, domains ...mask.Set) (*topo.Topo, *model) {
	t.Helper()
	x, errno := topo.New(domains)
	if x == nil || errno != api.OK {
		t.Fatalf("P5.1: New(%b): %d", domains, errno)
	}
	return x, newModel(domains)
}

// checkCores holds what is told of each core, and of what is none, against the words.
func checkCores(t *testing.T, x *topo.Topo, m *model) {
	t.Helper()
	for c := range 64 {
		d, errno := x.Of(c)
		want, ok := m.of[c]
		if ok && (d != want || errno != api.OK) || !ok && (d != 0 || errno != api.ErrCore) {
			t.Fatalf("P5.1: Of(%d): %d, %d; want domain %d, %v", c, d, errno, want, ok)
		}
		if x.On(c) != m.on[c] {
			t.Fatalf("P5.1: On(%d): %v", c, x.On(c))
		}
	}
	for _, c := range noCores {
		if d, errno := x.Of(c); d != 0 || errno != api.ErrCore || x.On(c) {
			t.Fatalf("P5.1: Of(%d), which is no core: %d, %d, on %v", c, d, errno, x.On(c))
		}
	}
}

// checkDomains holds what is told of each domain, and of what is none, against the words.
func checkDomains(t *testing.T, x *topo.Topo, m *model) {
	t.Helper()
	if x.Domains() != m.domains {
		t.Fatalf("P5.1: Domains: %d; want %d", x.Domains(), m.domains)
	}
	for d := range m.domains {
		cores, errno := x.Cores(d)
		if cores != m.cores(d) || errno != api.OK {
			t.Fatalf("P5.1: Cores(%d): %b, %d; want %b", d, cores, errno, m.cores(d))
		}
		on, errno := x.Online(d)
		if on != m.online(d) || errno != api.OK {
			t.Fatalf("P5.1: Online(%d): %b, %d; want %b", d, on, errno, m.online(d))
		}
		if on == 0 || on&^cores != 0 {
			t.Fatalf("P5.2: Online(%d): %b of %b", d, on, cores)
		}
	}
	for _, d := range append([]int{m.domains, m.domains + 1}, farDomains...) {
		cores, errno := x.Cores(d)
		on, errnoOn := x.Online(d)
		if cores != 0 || on != 0 || errno != api.ErrDomain || errnoOn != api.ErrDomain {
			t.Fatalf("P5.1, R3: domain %d, which is none: %b, %d, %b, %d", d, cores, errno, on, errnoOn)
		}
	}
}

// checkMask holds Check and Effective against the words, and against what is told of the domain.
func checkMask(t *testing.T, x *topo.Topo, m *model, d int, s mask.Set) {
	t.Helper()
	want, wantErr := m.effective(d, s)
	got, errno := x.Effective(d, s)
	if got != want || errno != wantErr || x.Check(d, s) != wantErr {
		t.Fatalf("P5.1: Effective(%d, %b): %b, %d, Check %d; want %b, %d", d, s, got, errno, x.Check(d, s), want, wantErr)
	}
	if errno != api.OK {
		return
	}
	if got == 0 {
		t.Fatalf("P5.2: Effective(%d, %b) is empty", d, s)
	}
	for c := range got.Cores() {
		if of, _ := x.Of(c); of != d || !x.On(c) {
			t.Fatalf("P5.2: Effective(%d, %b): %b: core %d is of domain %d, on: %v", d, s, got, c, of, x.On(c))
		}
	}
}

// someSets: no core, all, each domain's, those of it that are on, those that are off, all but its own, and each single one of its edges.
func someSets(m *model) []mask.Set {
	sets := []mask.Set{0, all, 1, 1 << 63, 1<<63 | 1, 0x5555555555555555, 0xaaaaaaaaaaaaaaaa}
	for d := range m.domains {
		cores, on := m.cores(d), m.online(d)
		sets = append(sets, cores, on, cores&^on, all&^cores, all&^on, 1<<cores.First(), 1<<on.First())
	}
	return sets
}

func checkAll(t *testing.T, x *topo.Topo, m *model) {
	t.Helper()
	checkDomains(t, x, m)
	checkCores(t, x, m)
	for _, s := range someSets(m) {
		for d := -1; d <= m.domains; d++ {
			checkMask(t, x, m, d, s)
		}
	}
}

// tell tells a core to go on or off, both the topology and the model, and looks at their answers.
func tell(t *testing.T, x *topo.Topo, m *model, up bool, c int) api.Errno {
	t.Helper()
	if up {
		got, want := x.Up(c), m.up(c)
		if got != want {
			t.Fatalf("P5.1: Up(%d): %d; want %d", c, got, want)
		}
		return got
	}
	got, want := x.Down(c), m.down(c)
	if got != want {
		t.Fatalf("P5.1: Down(%d): %d; want %d", c, got, want)
	}
	return got
}

// eighths parts all cores in as many domains as there may be.
func eighths() []mask.Set {
	domains := make([]mask.Set, api.MaxDomains)
	for d := range domains {
		domains[d] = 0xff << (8 * d)
	}
	return domains
}

func singles(n int) []mask.Set {
	domains := make([]mask.Set, n)
	for d := range domains {
		domains[d] = 1 << d
	}
	return domains
}

// goodParts: one domain, as many as there may be, domains of one core, cores 0 and 63, and domains whose cores lie among one another's.
func goodParts() [][]mask.Set {
	return [][]mask.Set{
		{1}, {1 << 63}, {all}, {1<<63 | 1}, {0b10}, {all &^ 1}, {all >> 1},
		{0b11, 0b100}, {0b100, 0b11}, {1 << 63, 1}, {1, 1 << 63}, {all &^ 1, 1}, {1 << 63, all >> 1},
		{0x5555555555555555, 0xaaaaaaaaaaaaaaaa}, {0x8000000000000001, 0x4000000000000002, 0x10},
		eighths(), singles(8),
		{1 << 63, 1 << 62, 1, 2, 1 << 31, 1 << 32, 1 << 33, all &^ (1<<63 | 1<<62 | 1 | 2 | 1<<31 | 1<<32 | 1<<33)},
	}
}

// TestTold: a row of calls whose answers are written out.
func TestTold(t *testing.T) {
	x, _ := newBoth(t, 0b11, 0b100)
	for k, c := range []struct{ got, want any }{
		{x.Domains(), 2},
		{x.Down(2), api.ErrLast},
		{x.On(2), true},
		{x.Up(2), api.ErrState},
		{x.Down(3), api.ErrCore},
		{x.Up(3), api.ErrCore},
		{x.Down(0), api.OK},
		{x.On(0), false},
		{x.Down(0), api.ErrState},
		{x.Down(1), api.ErrLast},
		{x.On(1), true},
		{x.Up(0), api.OK},
		{x.On(0), true},
		{x.Up(0), api.ErrState},
		{x.Down(1), api.OK},
		{x.Down(0), api.ErrLast},
		{x.Check(0, 0b10), api.OK},
		{x.Check(0, 0b100), api.ErrMask},
		{x.Check(1, 0b100), api.OK},
		{x.Check(1, 0), api.ErrMask},
		{x.Check(2, 0b100), api.ErrDomain},
		{x.Check(-1, 0), api.ErrDomain},
	} {
		if c.got != c.want {
			t.Errorf("P5.1: call %d: %v; want %v", k, c.got, c.want)
		}
	}
}

// TestToldMasks: effective masks that are written out, in a domain 0-3 of which 0 and 1 are off.
func TestToldMasks(t *testing.T) {
	x, _ := newBoth(t, 0b1111, 0b110000)
	x.Down(0)
	x.Down(1)
	for _, c := range []struct {
		d       int
		s, want mask.Set
		errno   api.Errno
	}{
		{0, 0b1111, 0b1100, api.OK},
		{0, all, 0b1100, api.OK},
		{0, 0b0100, 0b0100, api.OK},
		{0, 0b0110, 0b0100, api.OK},
		{0, 0b0001, 0b1100, api.OK},
		{0, 0b0011, 0b1100, api.OK},
		{0, 0b110001, 0b1100, api.OK},
		{0, 0b110000, 0, api.ErrMask},
		{0, 1 << 63, 0, api.ErrMask},
		{0, 0, 0, api.ErrMask},
		{1, 0b110000, 0b110000, api.OK},
		{1, 0b011111, 0b010000, api.OK},
		{1, 0b1111, 0, api.ErrMask},
		{2, 0b110000, 0, api.ErrDomain},
		{2, 0, 0, api.ErrDomain},
		{-1, 0b1111, 0, api.ErrDomain},
		{-1, 0, 0, api.ErrDomain},
	} {
		if got, errno := x.Effective(c.d, c.s); got != c.want || errno != c.errno {
			t.Errorf("P5.1: Effective(%d, %b): %b, %d; want %b, %d", c.d, c.s, got, errno, c.want, c.errno)
		}
	}
}

func TestNew(t *testing.T) {
	for _, domains := range goodParts() {
		x, m := newBoth(t, domains...)
		checkAll(t, x, m)
		for d, s := range domains {
			if on, _ := x.Online(d); on != s {
				t.Errorf("P5.1: New(%b): of domain %d only %b are on", domains, d, on)
			}
		}
	}
}

func TestNewRefused(t *testing.T) {
	withEmpty := func(d int) []mask.Set {
		domains := eighths()
		domains[d] = 0
		return domains
	}
	withTwice := func(d, c int) []mask.Set {
		domains := eighths()
		domains[d] |= 1 << c
		return domains
	}
	for _, c := range []struct {
		what    string
		domains []mask.Set
		want    api.Errno
	}{
		{"nil", nil, api.ErrRange},
		{"none", []mask.Set{}, api.ErrRange},
		{"none, with spare room", singles(8)[:0], api.ErrRange},
		{"one too many", singles(9), api.ErrRange},
		{"far too many", singles(64), api.ErrRange},
		{"one too many, all empty", make([]mask.Set, 9), api.ErrRange},
		{"one too many, the last one empty", append(eighths(), 0), api.ErrRange},
		{"one too many, the first one empty", append(withEmpty(0), 0xff), api.ErrRange},
		{"one too many, a core in two", append(eighths(), 1), api.ErrRange},
		{"one too many, all the same", slices.Repeat([]mask.Set{all}, 9), api.ErrRange},
		{"very many", slices.Repeat([]mask.Set{1}, 1<<16), api.ErrRange},
		{"an empty one alone", []mask.Set{0}, api.ErrMask},
		{"an empty one first", []mask.Set{0, 1}, api.ErrMask},
		{"an empty one last", []mask.Set{1, 0}, api.ErrMask},
		{"empty ones only", make([]mask.Set, 8), api.ErrMask},
		{"an empty one of eight, first", withEmpty(0), api.ErrMask},
		{"an empty one of eight, between", withEmpty(4), api.ErrMask},
		{"an empty one of eight, last", withEmpty(7), api.ErrMask},
		{"core 0 in two", []mask.Set{1, 1}, api.ErrMask},
		{"core 63 in two", []mask.Set{1 << 63, 1<<63 | 1}, api.ErrMask},
		{"core 1 in two", []mask.Set{0b11, 0b110}, api.ErrMask},
		{"one within another", []mask.Set{all, 1 << 40}, api.ErrMask},
		{"all twice", []mask.Set{all, all}, api.ErrMask},
		{"first and last have one in common", []mask.Set{1, 2, 4, 8, 16, 32, 64, 1}, api.ErrMask},
		{"neighbours have one in common", withTwice(3, 32), api.ErrMask},
		{"core 63 in the first one too", withTwice(0, 63), api.ErrMask},
		{"core 0 in the last one too", withTwice(7, 0), api.ErrMask},
		{"an empty one, and a core in two", []mask.Set{3, 0, 6}, api.ErrMask},
	} {
		if x, errno := topo.New(c.domains); x != nil || errno != c.want {
			t.Errorf("P5.1, R3: New of %s: %v, %d; want none, %d", c.what, x, errno, c.want)
		}
	}
}

// TestLastCore: each domain's cores are told to go off, the last one in vain, from either end; then each comes back.
func TestLastCore(t *testing.T) {
	for _, domains := range goodParts() {
		for _, falling := range []bool{false, true} {
			x, m := newBoth(t, domains...)
			for _, s := range domains {
				cores := slices.Collect(s.Cores())
				if falling {
					slices.Reverse(cores)
				}
				last := len(cores) - 1
				for k, c := range cores {
					errno := tell(t, x, m, false, c)
					if k < last && (errno != api.OK || x.On(c)) || k == last && (errno != api.ErrLast || !x.On(c)) {
						t.Errorf("P5.1, P5.2: of %b the core %d told to go off, %d behind the first: %d, on: %v", domains, c, k, errno, x.On(c))
					}
				}
			}
			checkAll(t, x, m)
			for c := range all.Cores() {
				tell(t, x, m, true, c)
			}
			checkAll(t, x, m)
			checkAll(t, x, newModel(domains))
		}
	}
}

// TestOffAndBack: each core goes off and comes back, told twice to each; it is in its place again.
func TestOffAndBack(t *testing.T) {
	for _, domains := range goodParts() {
		x, m := newBoth(t, domains...)
		for c := -1; c <= 64; c++ {
			for _, up := range []bool{true, false, false, true, true} {
				tell(t, x, m, up, c)
				checkDomains(t, x, m)
				checkCores(t, x, m)
			}
		}
		checkAll(t, x, newModel(domains))
	}
}

// TestNoCores: what is no core of a domain is told to go on and off, and changes nothing.
func TestNoCores(t *testing.T) {
	for _, domains := range goodParts() {
		x, m := newBoth(t, domains...)
		tell(t, x, m, false, domains[0].First())
		for _, c := range noCores {
			if up, down := x.Up(c), x.Down(c); up != api.ErrCore || down != api.ErrCore {
				t.Errorf("P5.1: %d, which is no core: Up %d, Down %d", c, up, down)
			}
		}
		for c := range 64 {
			if _, ok := m.of[c]; !ok && (x.Up(c) != api.ErrCore || x.Down(c) != api.ErrCore) {
				t.Errorf("P5.1: core %d is of no domain of %b, and goes on or off", c, domains)
			}
		}
		checkAll(t, x, m)
	}
}

// TestNoDomains: a domain that there isn't comes ahead of a set without its cores.
func TestNoDomains(t *testing.T) {
	for _, domains := range goodParts() {
		x, m := newBoth(t, domains...)
		for _, d := range append([]int{len(domains)}, farDomains...) {
			for _, s := range someSets(m) {
				if got, errno := x.Effective(d, s); got != 0 || errno != api.ErrDomain || x.Check(d, s) != api.ErrDomain {
					t.Errorf("P5.1, R2, R3: domain %d, which is none, and %b: %b, %d, Check %d", d, s, got, errno, x.Check(d, s))
				}
			}
		}
	}
}

// TestEveryStateAndSet: three domains of a few cores, in every state that they can come to, with every set of their cores and two others.
func TestEveryStateAndSet(t *testing.T) {
	x, m := newBoth(t, 0b0111, 0b1000, 1<<62|1<<63)
	of := []int{0, 1, 2, 3, 62, 63}
	told := append(slices.Clone(of), 4, 61, -1, 64)
	type pair struct {
		x *topo.Topo
		m *model
	}
	states := map[[3]mask.Set]bool{}
	for work := []pair{{x, m}}; len(work) > 0; work = work[1:] {
		x, m := work[0].x, work[0].m
		state := [3]mask.Set{m.online(0), m.online(1), m.online(2)}
		if states[state] {
			continue
		}
		states[state] = true
		checkAll(t, x, m)
		checkEverySet(t, x, m, append(slices.Clone(of), 4, 61))
		for _, c := range told {
			for _, up := range []bool{true, false} {
				next := pair{x.Copy(), m.copy()}
				if errno := tell(t, next.x, next.m, up, c); errno != api.OK {
					checkDomains(t, next.x, m)
				}
				work = append(work, next)
			}
		}
	}
	if len(states) != 7*1*3 {
		t.Errorf("P5.2: %d states; want all but those with a domain that is off: 21", len(states))
	}
}

func checkEverySet(t *testing.T, x *topo.Topo, m *model, cores []int) {
	t.Helper()
	for bits := range 1 << len(cores) {
		var s mask.Set
		for i, c := range cores {
			if bits>>i%2 == 1 {
				s += 1 << c
			}
		}
		for d := range m.domains {
			checkMask(t, x, m, d, s)
		}
	}
}

// TestMixedRows: long rows of calls, of any cores, with all that is told held against the words now and then.
func TestMixedRows(t *testing.T) {
	r := mixed(88172645463325252)
	rows := goodParts()
	for range 40 {
		rows = append(rows, r.parts())
	}
	for _, domains := range rows {
		x, m := newBoth(t, domains...)
		for range 60 {
			for range 1 + r.upTo(12) {
				tell(t, x, m, r.upTo(2) == 0, r.upTo(65)-1)
			}
			checkDomains(t, x, m)
			checkMask(t, x, m, r.upTo(len(domains)-1), mask.Set(r.next()&r.next()&r.next()))
		}
		checkAll(t, x, m)
	}
}

// TestFewOn: the more cores are off, the more masks are of such ones alone.
func TestFewOn(t *testing.T) {
	r := mixed(0x9e3779b97f4a7c15)
	for _, domains := range goodParts() {
		x, m := newBoth(t, domains...)
		for range 200 {
			tell(t, x, m, r.upTo(9) == 0, r.upTo(63))
		}
		checkAll(t, x, m)
		for range 200 {
			checkMask(t, x, m, r.upTo(len(domains)-1), mask.Set(r.next()&r.next()&r.next()))
		}
	}
}

// TestCopy: both go on by themselves, whichever of them changes.
func TestCopy(t *testing.T) {
	for _, domains := range goodParts() {
		x, m := newBoth(t, domains...)
		tell(t, x, m, false, domains[0].First())
		y, n := x.Copy(), m.copy()
		checkAll(t, y, n)
		for c := range 64 {
			tell(t, x, m, false, c)
		}
		checkAll(t, y, n)
		checkAll(t, x, m)
		for c := 63; c >= 0; c-- {
			tell(t, y, n, c%3 == 0, c)
		}
		checkAll(t, x, m)
		checkAll(t, y, n)
		z, o := y.Copy(), n.copy()
		for c := range 64 {
			tell(t, z, o, true, c)
		}
		checkAll(t, x, m)
		checkAll(t, y, n)
		checkAll(t, z, o)
	}
}

// TestCopiesOfCopies: of several in mixed rows each keeps its own.
func TestCopiesOfCopies(t *testing.T) {
	r := mixed(362436069)
	first, m := newBoth(t, eighths()...)
	xs, ms := []*topo.Topo{first}, []*model{m}
	for range 400 {
		k := r.upTo(len(xs) - 1)
		if r.upTo(19) == 0 {
			xs, ms = append(xs, xs[k].Copy()), append(ms, ms[k].copy())
		}
		tell(t, xs[k], ms[k], r.upTo(1) == 0, r.upTo(63))
	}
	for k := range xs {
		checkAll(t, xs[k], ms[k])
	}
}

// TestAnswersAreKeptApart: two topologies of the same domains have nothing in common.
func TestAnswersAreKeptApart(t *testing.T) {
	x, m := newBoth(t, eighths()...)
	y, n := newBoth(t, eighths()...)
	for c := range 64 {
		tell(t, x, m, false, c)
	}
	checkAll(t, y, n)
	checkAll(t, x, m)
}

// TestListIsLeftAlone: neither changed nor kept, its spare room too.
func TestListIsLeftAlone(t *testing.T) {
	room := []mask.Set{0b11, 0b100, 0b1000, 0b10000}
	kept := slices.Clone(room)
	x, errno := topo.New(room[:2])
	if errno != api.OK {
		t.Fatalf("P5.1: New: %d", errno)
	}
	m := newModel(room[:2])
	tell(t, x, m, false, 0)
	tell(t, x, m, false, 2)
	x.Copy().Up(0)
	if !slices.Equal(room, kept) {
		t.Errorf("R6: the list became %b", room)
	}
	for i := range room {
		room[i] = 0
	}
	checkAll(t, x, m)
}

// TestAskingChangesNothing: what is asked, rightly and wrongly, is answered the same the second time.
func TestAskingChangesNothing(t *testing.T) {
	x, m := newBoth(t, goodParts()[14]...)
	tell(t, x, m, false, 63)
	for range 3 {
		checkAll(t, x, m)
	}
}
