package tests

import (
	"slices"
	"testing"
	"time"

	"loop.example/g00010/impl"
)

// graphFunc has blocks of one instruction each, that go where the lists say; what they are does not count.
func graphFunc(to ...[]int64) impl.Func {
	f := impl.Func{Name: "graph", Link: impl.LinkStrong}
	for n, list := range to {
		f.Blocks = append(f.Blocks, block(impl.Instr{Op: []int64{impl.OpSwitch, impl.OpTrap, impl.OpAdd, 0, -7}[n%5], Blocks: list}))
	}
	return f
}

func to(list ...int64) []int64 {
	return list
}

// graphCase is a graph and what is to be said of it.
type graphCase struct {
	name      string
	f         impl.Func
	order     []int64
	above     []int64
	frontiers [][]int64
	loops     []impl.Loop
}

func graphCases() []graphCase {
	none := []int64(nil)
	return []graphCase{
		{"no blocks", impl.Func{}, none, none, nil, nil},
		{"one block", graphFunc(none), to(0), to(-1), [][]int64{none}, nil},
		{"one that goes to itself", graphFunc(to(0)), to(0), to(-1), [][]int64{{0}}, []impl.Loop{{Head: 0, Blocks: to(0)}}},
		{"block 0 as a head", graphFunc(to(1, 3), to(2), to(0), none), to(0, 3, 1, 2), to(-1, 0, 1, 0),
			[][]int64{{0}, {0}, {0}, none}, []impl.Loop{{Head: 0, Blocks: to(0, 1, 2)}}},
		{"a rhomb", graphFunc(to(2, 1), to(3), to(3), none), to(0, 1, 2, 3), to(-1, 0, 0, 0),
			[][]int64{none, {3}, {3}, none}, nil},
		{"next ones twice, and such as there are not", graphFunc(to(-1, 2, 3, 1, 2, 1<<40, 1), to(2, 2), to(-1<<63, 1<<63-1)), to(0, 1, 2), to(-1, 0, 0),
			[][]int64{none, {2}, none}, nil},
		{"two ways back to one head", graphFunc(to(1), to(2, 3, 4), to(1), to(1), none), to(0, 1, 4, 3, 2), to(-1, 0, 1, 1, 1),
			[][]int64{none, {1}, {1}, {1}, none}, []impl.Loop{{Head: 1, Blocks: to(1, 2, 3)}}},
		{"a loop in a loop", graphFunc(to(1), to(2, 4), to(2, 3), to(1), none), to(0, 1, 4, 2, 3), to(-1, 0, 1, 2, 1),
			[][]int64{none, {1}, {1, 2}, {1}, none}, []impl.Loop{{Head: 1, Blocks: to(1, 2, 3)}, {Head: 2, Blocks: to(2)}}},
		{"a loop in a loop with a lesser head", graphFunc(to(3), to(2), to(1, 3, 4), to(1), none), to(0, 3, 1, 2, 4), to(-1, 3, 1, 0, 2),
			[][]int64{none, {1, 3}, {1, 3}, {3}, none}, []impl.Loop{{Head: 1, Blocks: to(1, 2)}, {Head: 3, Blocks: to(1, 2, 3)}}},
		{"a way in beside the head", graphFunc(to(1, 2), to(2), to(1, 3), none), to(0, 1, 2, 3), to(-1, 0, 0, 2),
			[][]int64{none, {2}, {1}, none}, nil},
		{"such a one within a loop", graphFunc(to(1), to(2, 3), to(3), to(2, 4), to(1, 5), none), to(0, 1, 2, 3, 4, 5), to(-1, 0, 1, 1, 3, 4),
			[][]int64{none, {1}, {3}, {1, 2}, {1}, none}, []impl.Loop{{Head: 1, Blocks: to(1, 2, 3, 4)}}},
		{"blocks that can't be come to", graphFunc(to(1), to(2), to(1, 3), none, to(2, 4, 0), to(4)), to(0, 1, 2, 3), to(-1, 0, 1, 2, -1, -1),
			[][]int64{none, {1}, {1}, none, none, none}, []impl.Loop{{Head: 1, Blocks: to(1, 2)}}},
		{"loops that can't be come to", graphFunc(none, to(2, 1), to(1)), to(0), to(-1, -1, -1), [][]int64{none, none, none}, nil},
		{"a loop with a branch in it that can't be come to", graphFunc(to(1), to(2), to(1), to(2, 3, 1)), to(0, 1, 2), to(-1, 0, 1, -1),
			[][]int64{none, {1}, {1}, none}, []impl.Loop{{Head: 1, Blocks: to(1, 2)}}},
		{"a head that goes to itself and round", graphFunc(to(0, 1), to(2, 1), to(0, 1)), to(0, 1, 2), to(-1, 0, 1),
			[][]int64{{0}, {0, 1}, {0, 1}}, []impl.Loop{{Head: 0, Blocks: to(0, 1, 2)}, {Head: 1, Blocks: to(1, 2)}}},
	}
}

func TestGraphs(t *testing.T) {
	for _, c := range graphCases() {
		checkGraph(t, c.f)
		checkStrange(t, c.f)
		checkList(t, c.f, c.name+": Order", impl.Order(c.f), c.order)
		checkList(t, c.f, c.name+": Dominators", impl.Dominators(c.f), c.above)
		checkList(t, c.f, c.name+": Loops", impl.Loops(c.f), c.loops)
		for b, want := range c.frontiers {
			checkList(t, c.f, c.name+": Frontier", impl.Frontier(c.f, int64(b)), want)
		}
	}
}

// TestLastInstructionsCount: whatever they are; and no other ones.
func TestLastInstructionsCount(t *testing.T) {
	f := function("odd", 0,
		block(jump(3), branch(wordArg(1, 1), 4, 4), impl.Instr{Op: impl.OpPrint, Blocks: to(2, 1)}),
		block(jump(3), trap()),
		block(jump(0), phi(8, to(1, 1), wordArg(8, 1))),
		block(),
		block(impl.Instr{Blocks: to(3)}))
	for b, want := range [][]int64{{2, 1}, nil, {1}, nil, {3}} {
		checkList(t, f, "NextBlocks", impl.NextBlocks(f, int64(b)), want)
	}
	for b, want := range [][]int64{nil, {0, 2}, {0}, {4}, nil} {
		checkList(t, f, "PrevBlocks", impl.PrevBlocks(f, int64(b)), want)
	}
	checkList(t, f, "Order", impl.Order(f), to(0, 2, 1))
	for _, f := range []impl.Func{f, {Blocks: make([]impl.Block, 3)}} {
		checkGraph(t, f)
		checkStrange(t, f)
	}
	if !impl.Dominates(f, 2, 2) || impl.Dominates(f, 4, 3) || impl.Dominates(f, 3, 3) || !impl.Dominates(f, 0, 1) || impl.Dominates(f, 1, 0) {
		t.Error("dominators of blocks that do not end")
	}
}

// TestAllSmallGraphs: each list of next blocks that there can be of three blocks, and each set of them of four.
func TestAllSmallGraphs(t *testing.T) {
	t.Parallel()
	lists := [][]int64{nil, {0}, {1}, {2}, {0, 1}, {1, 0}, {0, 2}, {2, 0}, {1, 2}, {2, 1}, {0, 1, 2}, {0, 2, 1}, {1, 0, 2}, {1, 2, 0}, {2, 0, 1}, {2, 1, 0}}
	for n := range 16 * 16 * 16 {
		checkGraph(t, graphFunc(lists[n%16], lists[n/16%16], lists[n/256]))
	}
	loops := 0
	for n := range 1 << 16 {
		var next [4][]int64
		for bit := range 16 {
			if n>>bit&1 == 1 {
				next[bit/4] = append(next[bit/4], int64(bit%4))
			}
		}
		found, _ := checkGraph(t, graphFunc(next[:]...))
		loops += found
	}
	if loops < 10000 {
		t.Error("loops", loops)
	}
}

// drawGraph has more blocks, most of them with one or two next ones.
func drawGraph(s *sequence) impl.Func {
	count := 1 + s.below(20)
	next := make([][]int64, count)
	for b := range next {
		if b+1 < count && s.below(3) > 0 {
			next[b] = append(next[b], int64(b)+1)
		}
		for range s.below(3) {
			next[b] = append(next[b], int64(s.below(count)))
		}
	}
	return graphFunc(next...)
}

func TestManyGraphs(t *testing.T) {
	t.Parallel()
	s := sequence(41)
	loops := 0
	for range 3000 {
		found, _ := checkGraph(t, drawGraph(&s))
		loops += found
	}
	if loops < 3000 {
		t.Error("loops", loops)
	}
}

// TestGraphsAreLeftAlone is promise 1 for the functions of the chapter.
func TestGraphsAreLeftAlone(t *testing.T) {
	s := sequence(42)
	for n := range 600 {
		f := drawGraph(&s)
		if n%2 == 0 {
			f = drawOddFunc(&s)
		}
		a, b := int64(s.below(len(f.Blocks)+3))-1, int64(s.below(len(f.Blocks)+3))-1
		checkPure(t, "Order", f, impl.Order)
		checkPure(t, "Dominators", f, impl.Dominators)
		checkPure(t, "Loops", f, impl.Loops)
		checkPure(t, "Dominates", f, func(f impl.Func) bool { return impl.Dominates(f, a, b) })
		for name, ask := range map[string]func(impl.Func, int64) []int64{"NextBlocks": impl.NextBlocks, "PrevBlocks": impl.PrevBlocks, "Frontier": impl.Frontier, "LiveIn": impl.LiveIn} {
			checkPure(t, name, f, func(f impl.Func) []int64 { return ask(f, b) })
		}
	}
}

// chainOf has so many blocks, each of which goes on to the next one, and to where more says.
func chainOf(count int64, more func(b int64) []int64) impl.Func {
	next := make([][]int64, count)
	for b := range count {
		next[b] = more(b)
		if b+1 < count {
			next[b] = append(next[b], b+1)
		}
	}
	return graphFunc(next...)
}

// inTime: what takes a part of a second must not take many.
func inTime(t *testing.T, name string, ask func()) {
	t.Helper()
	start := time.Now()
	ask()
	if took := time.Since(start); took > 20*time.Second {
		t.Error(name, "takes", took)
	}
}

// TestLongGraphs: of many more blocks than a module may have.
func TestLongGraphs(t *testing.T) {
	const count = 100000
	rising := make([]int64, count)
	for b := range rising {
		rising[b] = int64(b)
	}
	for name, f := range map[string]impl.Func{
		"a chain":             chainOf(count, func(int64) []int64 { return nil }),
		"all to the last one": chainOf(count, func(int64) []int64 { return to(count - 1) }),
		"all to the first":    chainOf(count, func(int64) []int64 { return to(0) }),
		"all to themselves":   chainOf(count, func(b int64) []int64 { return to(b) }),
		"each one far on":     chainOf(count, func(b int64) []int64 { return to(b/2+count/2, 0) }),
		"one to all":          chainOf(count, func(b int64) []int64 { return slices.Clone(rising[:max(0, count*(1-b))]) }),
	} {
		last := int64(count - 1)
		inTime(t, name, func() {
			if len(impl.Order(f)) != count || impl.Order(f)[0] != 0 {
				t.Error(name, "Order")
			}
			if above := impl.Dominators(f); len(above) != count || above[0] != -1 || above[1] != 0 {
				t.Error(name, "Dominators")
			}
			if !impl.Dominates(f, 0, last) || impl.Dominates(f, last, 1) {
				t.Error(name, "Dominates")
			}
			impl.Frontier(f, 0)
			impl.Frontier(f, count/2)
			for _, l := range impl.Loops(f) {
				if len(l.Blocks) == 0 {
					t.Error(name, "Loops")
				}
			}
			impl.LiveIn(f, 0)
		})
	}
	chain := chainOf(count, func(b int64) []int64 { return nil })
	if !slices.Equal(impl.Order(chain), rising) || !slices.Equal(impl.Dominators(chain)[1:], rising[:count-1]) {
		t.Error("a chain")
	}
	back := chainOf(2000, func(b int64) []int64 { return to(b - 1) })
	if loops := impl.Loops(back); len(loops) != 1999 || len(loops[0].Blocks) != 2000 || len(loops[1998].Blocks) != 2 {
		t.Error("loops in loops")
	}
}
