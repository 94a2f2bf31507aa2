package tests

import (
	"slices"
	"testing"

	"loop.example/g00010/impl"
)

// graphTable says of each two blocks what the document's words ask: who goes to whom, who can be come to, who dominates whom.
type graphTable struct {
	f     impl.Func
	count int64
	goes  [][]bool
	next  [][]int64
	hold  [][]bool
}

func tableOf(f impl.Func) graphTable {
	g := graphTable{f: f, count: int64(len(f.Blocks))}
	for b := range f.Blocks {
		next := wantNext(f, b)
		row := make([]bool, g.count)
		for _, n := range next {
			row[n] = true
		}
		g.next, g.goes = append(g.next, next), append(g.goes, row)
	}
	if g.count == 0 {
		return g
	}
	from := g.reach(0, -1)
	for a := range g.count {
		without := g.reach(0, a)
		row := make([]bool, g.count)
		for b := range g.count {
			row[b] = from[b] && !without[b]
		}
		g.hold = append(g.hold, row)
	}
	return g
}

func wantNext(f impl.Func, b int) []int64 {
	var out []int64
	list := f.Blocks[b].Instrs
	if len(list) == 0 {
		return nil
	}
	for _, n := range list[len(list)-1].Blocks {
		if n >= 0 && n < int64(len(f.Blocks)) && !slices.Contains(out, n) {
			out = append(out, n)
		}
	}
	return out
}

// reach has the blocks that can be come to from one, itself among them, where one (or none) is left out.
func (g graphTable) reach(from, without int64) []bool {
	at := make([]bool, g.count)
	if from == without {
		return at
	}
	at[from] = true
	for more := true; more; {
		more = false
		for b := range g.count {
			for n := range g.count {
				if at[b] && g.goes[b][n] && !at[n] && n != without {
					at[n], more = true, true
				}
			}
		}
	}
	return at
}

func (g graphTable) order() []int64 {
	var out []int64
	at := map[int64]bool{}
	var walk func(b int64)
	walk = func(b int64) {
		at[b] = true
		for _, n := range g.next[b] {
			if !at[n] {
				walk(n)
			}
		}
		out = append([]int64{b}, out...)
	}
	if g.count > 0 {
		walk(0)
	}
	return out
}

func (g graphTable) rising(holds func(b int64) bool) []int64 {
	var out []int64
	for b := range g.count {
		if holds(b) {
			out = append(out, b)
		}
	}
	return out
}

// above is the one of the dominators of a block that all others of them dominate.
func (g graphTable) above(b int64) int64 {
	for a := range g.count {
		if a == b || !g.hold[a][b] {
			continue
		}
		nearest := true
		for other := range g.count {
			if other != b && g.hold[other][b] && !g.hold[other][a] {
				nearest = false
			}
		}
		if nearest {
			return a
		}
	}
	return -1
}

func (g graphTable) frontier(a int64) []int64 {
	return g.rising(func(b int64) bool {
		for p := range g.count {
			if g.goes[p][b] && g.hold[a][p] && (!g.hold[a][b] || a == b) {
				return true
			}
		}
		return false
	})
}

func (g graphTable) loops() []impl.Loop {
	var out []impl.Loop
	for h := range g.count {
		back := g.rising(func(p int64) bool { return g.hold[h][p] && g.goes[p][h] })
		if len(back) == 0 {
			continue
		}
		out = append(out, impl.Loop{Head: h, Blocks: g.rising(func(b int64) bool {
			to := g.reach(b, h)
			return b == h || g.hold[b][b] && slices.ContainsFunc(back, func(p int64) bool { return to[p] })
		})})
	}
	return out
}

// isLive goes from instruction to instruction, as far as nothing defines the value.
func (g graphTable) isLive(value int64, home impl.Place, block int64) bool {
	isIt := func(o impl.Operand) bool { return o.Kind == impl.OperandValue && o.Index == value }
	seen := map[impl.Place]bool{}
	work := []impl.Place{{Block: block}}
	for len(work) > 0 {
		p := work[0]
		work = work[1:]
		if seen[p] {
			continue
		}
		seen[p] = true
		list := g.f.Blocks[p.Block].Instrs
		if p.At == int64(len(list)) {
			if g.isTaken(p.Block, isIt) {
				return true
			}
			for _, n := range g.next[p.Block] {
				work = append(work, impl.Place{Block: n})
			}
			continue
		}
		if i := list[p.At]; i.Op != impl.OpPhi && slices.ContainsFunc(i.Args, isIt) {
			return true
		}
		if p != home {
			work = append(work, impl.Place{Block: p.Block, At: p.At + 1})
		}
	}
	return false
}

// isTaken: a phi of a block where this one goes has the value for it.
func (g graphTable) isTaken(b int64, isIt func(impl.Operand) bool) bool {
	for _, n := range g.next[b] {
		for _, i := range g.f.Blocks[n].Instrs {
			for k, o := range i.Args {
				if i.Op == impl.OpPhi && k < len(i.Blocks) && i.Blocks[k] == b && isIt(o) {
					return true
				}
			}
		}
	}
	return false
}

func (g graphTable) live(b int64) []int64 {
	var out []int64
	_, homes := wantValues(g.f)
	for v, home := range homes {
		if g.isLive(int64(v), home, b) {
			out = append(out, int64(v))
		}
	}
	return out
}

// strangeBlocks are numbers of blocks that a function of so many does not have.
func strangeBlocks(count int) []int64 {
	return []int64{-1 << 63, -1, int64(count), int64(count) + 1, 1 << 32, 1<<63 - 1}
}

func checkList[T any](t *testing.T, f impl.Func, name string, got, want T) {
	t.Helper()
	if !alike(got, want) {
		t.Fatalf("%s gives %v, not %v: %+v", name, got, want, f)
	}
}

// checkGraph holds all answers about one function against the table; it answers how many loops and live values there are.
func checkGraph(t *testing.T, f impl.Func) (loops, live int) {
	t.Helper()
	g := tableOf(f)
	var above []int64
	for b := range g.count {
		above = append(above, g.above(b))
		checkList(t, f, "NextBlocks", impl.NextBlocks(f, b), g.next[b])
		checkList(t, f, "PrevBlocks", impl.PrevBlocks(f, b), g.rising(func(p int64) bool { return g.goes[p][b] }))
		checkList(t, f, "Frontier", impl.Frontier(f, b), g.frontier(b))
		values := g.live(b)
		checkList(t, f, "LiveIn", impl.LiveIn(f, b), values)
		live += len(values)
		for a := range g.count {
			checkList(t, f, "Dominates", impl.Dominates(f, a, b), g.hold[a][b])
		}
	}
	checkList(t, f, "Order", impl.Order(f), g.order())
	checkList(t, f, "Dominators", impl.Dominators(f), above)
	found := impl.Loops(f)
	checkList(t, f, "Loops", found, g.loops())
	return len(found), live
}

// checkStrange asks about blocks that the function does not have.
func checkStrange(t *testing.T, f impl.Func) {
	t.Helper()
	for _, b := range strangeBlocks(len(f.Blocks)) {
		for name, list := range map[string][]int64{"NextBlocks": impl.NextBlocks(f, b), "PrevBlocks": impl.PrevBlocks(f, b), "Frontier": impl.Frontier(f, b), "LiveIn": impl.LiveIn(f, b)} {
			checkList(t, f, name, list, nil)
		}
		if impl.Dominates(f, b, 0) || impl.Dominates(f, 0, b) || impl.Dominates(f, b, b) {
			t.Fatal("a block that there is not dominates, or is dominated:", b)
		}
	}
}
