package tests

import (
	"testing"

	"loop.example/g00010/impl"
)

// use prints the values.
func use(values ...int64) impl.Instr {
	i := impl.Instr{Op: impl.OpPrint}
	for _, v := range values {
		i.Args = append(i.Args, valueArg(64, v))
	}
	return i
}

// define makes the next value of others.
func define(values ...int64) impl.Instr {
	i := use(values...)
	i.Op, i.Type = impl.OpAdd, 64
	return i
}

// meet is a phi of values, one for each of the blocks.
func meet(blocks []int64, values ...int64) impl.Instr {
	i := define(values...)
	i.Op, i.Blocks = impl.OpPhi, blocks
	return i
}

func goTo(blocks ...int64) impl.Instr {
	return impl.Instr{Op: impl.OpSwitch, Args: []impl.Operand{wordArg(8, 0)}, Words: make([]uint64, max(len(blocks), 1)-1), Blocks: blocks}
}

// liveCase is a function of so many parameters, and what is live where its blocks begin.
type liveCase struct {
	name   string
	params int
	blocks []impl.Block
	live   [][]int64
}

func phiCases() []liveCase {
	none := []int64(nil)
	return []liveCase{
		{"a phi's arguments belong to where one comes from", 3, []impl.Block{
			block(goTo(1, 2)), block(goTo(3)), block(goTo(3)),
			block(meet(to(1, 2), 0, 1), use(3, 2), ret()),
		}, [][]int64{{0, 1, 2}, {0, 2}, {1, 2}, {2}}},
		{"phis of a loop, one of itself", 1, []impl.Block{
			block(goTo(1)), block(meet(to(0, 1), 0, 3), meet(to(0, 1), 0, 2), define(1), goTo(1, 2)), block(use(1), ret()),
		}, [][]int64{{0}, none, {1}}},
		{"a phi of the block itself that is used there alone", 1, []impl.Block{
			block(goTo(0, 1), jump(1)), block(meet(to(0, 1), 0, 1), goTo(1)),
		}, [][]int64{{0}, none}},
		{"a phi whose block does not go to it", 2, []impl.Block{
			block(goTo(1, 2)), block(goTo(2)), block(goTo(3)), block(meet(to(1, 0, 3, 2), 0, 0, 0, 1), ret()),
		}, [][]int64{{1}, {1}, {1}, none}},
		{"a phi of blocks that there are not", 2, []impl.Block{
			block(goTo(1)), block(meet(to(-1, 2, 1<<62, -1<<63), 0, 0, 1, 1), ret()),
		}, [][]int64{none, none}},
		{"more arguments than blocks", 3, []impl.Block{
			block(goTo(1)), block(meet(to(0), 1, 0, 2), ret()),
		}, [][]int64{{1}, none}},
		{"more blocks than arguments", 2, []impl.Block{
			block(goTo(1)), block(meet(to(5, 0, 0), 0, 1), ret()),
		}, [][]int64{{1}, none}},
		{"one block twice", 2, []impl.Block{
			block(goTo(1, 1)), block(meet(to(0, 0), 0, 1), ret()),
		}, [][]int64{{0, 1}, none}},
		{"a phi behind others, whose block has many", 2, []impl.Block{
			block(goTo(1)), block(use(0), trap(), meet(to(0, 2), 1, 3), goTo(2)), block(define(2), goTo(1)),
		}, [][]int64{{0, 1}, {0}, {0, 2}}},
		{"a phi that ends its block", 1, []impl.Block{
			block(define(0), goTo(1)), block(meet(to(1, 0), 2, 1)),
		}, [][]int64{{0}, {0}}},
		{"a phi's argument that the last instruction defines", 0, []impl.Block{
			block(goTo(1)), block(meet(to(2), 1), ret()), block(impl.Instr{Op: impl.OpLoad, Type: 64, Blocks: to(1)}), block(goTo(2)),
		}, [][]int64{none, none, none, none}},
		{"a phi in a block that can't be come to", 2, []impl.Block{
			block(goTo(2)), block(meet(to(1, 2), 0, 1), goTo(1)), block(use(), goTo(0)),
		}, [][]int64{none, {0}, none}},
		{"the words of a switch are no phi's blocks", 2, []impl.Block{
			block(impl.Instr{Op: impl.OpSwitch, Args: []impl.Operand{valueArg(8, 0), valueArg(8, 1)}, Blocks: to(1)}), block(ret()),
		}, [][]int64{{0, 1}, none}},
	}
}

func liveCases() []liveCase {
	none := []int64(nil)
	return []liveCase{
		{"no blocks", 2, nil, nil},
		{"empty blocks", 1, make([]impl.Block, 2), [][]int64{none, none}},
		{"parameters", 3, []impl.Block{block(use(2, 0), ret())}, [][]int64{{0, 2}}},
		{"a parameter around block 0", 1, []impl.Block{block(goTo(1)), block(use(0), goTo(0))}, [][]int64{{0}, {0}}},
		{"defined and used", 0, []impl.Block{block(define(), use(0), goTo(1)), block(use(0), ret())}, [][]int64{none, {0}}},
		{"used ahead of where it is defined", 0, []impl.Block{block(use(0), define(), ret())}, [][]int64{{0}}},
		{"an instruction that uses itself", 0, []impl.Block{block(define(0), use(0), ret())}, [][]int64{{0}}},
		{"defined behind, in another block", 0, []impl.Block{block(use(0), goTo(1)), block(define(), goTo(0))}, [][]int64{{0}, none}},
		{"defined on one of two ways", 0, []impl.Block{
			block(goTo(1, 2)), block(define(), goTo(3)), block(goTo(3)), block(use(0), ret()),
		}, [][]int64{{0}, none, {0}, {0}}},
		{"used around a loop ahead of where it is defined", 0, []impl.Block{
			block(goTo(1)), block(use(0), goTo(2)), block(define(), goTo(1, 3)), block(use(0), ret()),
		}, [][]int64{{0}, {0}, none, {0}}},
		{"used in a loop that is come to beside where it is defined", 0, []impl.Block{
			block(goTo(1, 2)), block(define(), goTo(2)), block(use(0), goTo(1, 3)), block(ret()),
		}, [][]int64{{0}, none, {0}, none}},
		{"behind an end that is not the last", 1, []impl.Block{
			block(ret(), goTo(2), use(0), goTo(1)), block(ret()), block(use(0), ret()),
		}, [][]int64{{0}, none, {0}}},
		{"behind an instruction that ends nothing", 1, []impl.Block{
			block(impl.Instr{Op: 77, Blocks: to(1)}), block(use(0), use()),
		}, [][]int64{{0}, {0}}},
		{"in blocks that can't be come to", 2, []impl.Block{
			block(ret()), block(use(1), goTo(2)), block(use(0), goTo(1, 0)),
		}, [][]int64{none, {0, 1}, {0, 1}}},
		{"defined in a block that can't be come to", 0, []impl.Block{
			block(use(0), goTo(1)), block(ret()), block(define(), goTo(0)),
		}, [][]int64{{0}, none, none}},
		{"what is no value", 1, []impl.Block{block(use(-1, 1, 1<<63-1, -1<<63), impl.Instr{Op: impl.OpAdd, Args: []impl.Operand{
			{Kind: impl.OperandWord, Type: 64}, {Kind: impl.OperandNull, Type: 65}, {Kind: impl.OperandPoison, Type: 64}, {Kind: impl.OperandGlobal, Type: 65}, {}, {Kind: 6, Type: 64}, {Kind: -4, Type: 64},
		}}, ret())}, [][]int64{none}},
		{"a value whatever stands beside it", 1, []impl.Block{block(impl.Instr{Op: -1, Type: -9, Args: []impl.Operand{
			{Kind: impl.OperandValue, Type: 3, Word: 5}, {Kind: impl.OperandValue, Index: 1},
		}}, ret())}, [][]int64{{0, 1}}},
		{"a value of no type that there is", 0, []impl.Block{block(impl.Instr{Type: -1}, goTo(1)), block(use(0), ret())}, [][]int64{none, {0}}},
	}
}

func TestLiveValues(t *testing.T) {
	for _, c := range append(phiCases(), liveCases()...) {
		f := impl.Func{Params: make([]int64, c.params), Blocks: c.blocks}
		if len(c.live) != len(c.blocks) {
			t.Error("the test's own", c.name)
		}
		for b, want := range c.live {
			checkList(t, f, c.name, impl.LiveIn(f, int64(b)), want)
		}
		checkGraph(t, f)
		checkStrange(t, f)
	}
}

// drawOddFunc is of no right shape, as a rule: it has a few values, used here and there, and goes anywhere.
func drawOddFunc(s *sequence) impl.Func {
	f := impl.Func{Params: make([]int64, s.below(3)), Blocks: make([]impl.Block, s.below(8))}
	blocks := func(most int) []int64 {
		var out []int64
		for range s.below(most + 1) {
			out = append(out, int64(s.below(len(f.Blocks)+2))-1)
		}
		return out
	}
	for b := range f.Blocks {
		for range s.below(5) {
			i := impl.Instr{Op: []int64{impl.OpPhi, impl.OpPhi, impl.OpAdd, impl.OpPrint, impl.OpSwitch, -1}[s.below(6)]}
			i.Type = []int64{0, 64, 8, -3}[s.below(4)]
			for range s.below(3) {
				i.Args = append(i.Args, impl.Operand{Kind: []int64{impl.OperandValue, impl.OperandValue, impl.OperandValue, impl.OperandGlobal, 0}[s.below(5)], Type: 64, Index: int64(s.below(12)) - 1})
			}
			if i.Op == impl.OpPhi || s.below(2) > 0 {
				i.Blocks = blocks(3)
			}
			f.Blocks[b].Instrs = append(f.Blocks[b].Instrs, i)
		}
		if s.below(4) > 0 {
			f.Blocks[b].Instrs = append(f.Blocks[b].Instrs, impl.Instr{Op: impl.OpJump, Blocks: blocks(2)})
		}
	}
	return f
}

func TestLiveValuesOfManyFunctions(t *testing.T) {
	t.Parallel()
	s := sequence(43)
	live := 0
	for range 20000 {
		f := drawOddFunc(&s)
		_, found := checkGraph(t, f)
		live += found
		checkStrange(t, f)
	}
	if live < 20000 {
		t.Error("live values", live)
	}
}

// TestGraphsOfModules: of all kinds, and of such as have lost their shape.
func TestGraphsOfModules(t *testing.T) {
	t.Parallel()
	s := sequence(44)
	live, loops := 0, 0
	for n := range 4000 {
		m := fullModule()
		if n%4 > 0 {
			m = shapedModule(&s)
		}
		for range s.below(4) {
			turnSomething(&s, &m)
		}
		for _, f := range append(m.Funcs, sumFunc()) {
			l, v := checkGraph(t, f)
			loops, live = loops+l, live+v
		}
	}
	if live < 20000 || loops < 5000 {
		t.Error("live values", live, "loops", loops)
	}
}

// TestLiveValuesOfLongFunctions: what the values cost hangs on how many there are, not on how long they live.
func TestLiveValuesOfLongFunctions(t *testing.T) {
	const count = 60000
	f := impl.Func{Blocks: make([]impl.Block, 2*count+1)}
	wide := impl.Func{Blocks: make([]impl.Block, count+1)}
	var all []int64
	for n := range int64(count) {
		all = append(all, n)
		f.Blocks[n] = block(define(), goTo(n+1))
		f.Blocks[count+n] = block(use(n), goTo(count+n+1))
		wide.Blocks[n+1] = block(meet(to(0, 0), n, 0), meet(to(0), 1), jump(n+1))
	}
	f.Blocks[2*count] = block(ret())
	wide.Blocks[0] = block(goTo(append(to(), all[1:]...)...))
	inTime(t, "a long function", func() {
		checkLong(t, impl.LiveIn(f, 0), nil)
		checkLong(t, impl.LiveIn(f, count), all)
		checkLong(t, impl.LiveIn(f, count+7), all[7:])
		checkLong(t, impl.LiveIn(f, 20), all[:20])
	})
	inTime(t, "a wide function", func() {
		checkLong(t, impl.LiveIn(wide, 0), all[:count-1])
		checkLong(t, impl.LiveIn(wide, 1), nil)
	})
}

func checkLong(t *testing.T, got, want []int64) {
	t.Helper()
	if !alike(got, want) {
		t.Error("a list of", len(got), "not of", len(want))
	}
}
