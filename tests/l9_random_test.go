package tests

import (
	"fmt"
	"testing"

	"loop.example/g00010/impl"
)

// foldArgs are the arguments of each kind that rules ask for, of one type: the values 0 and 1, or 3 of a pointer, words, poison, null, globals.
func foldArgs(t int64) []impl.Operand {
	if t == impl.TypePtr {
		return []impl.Operand{valueArg(t, 3), poisonArg(t), nullArg(), globalArg(0), globalArg(1)}
	}
	list := []impl.Operand{valueArg(t, 0), valueArg(t, 1), poisonArg(t)}
	seen := map[uint64]bool{}
	for _, v := range []uint64{0, 1, 2, 3, 8, 1 << (max(t, 2) - 2), 1 << (t - 1), 1<<(t-1) - 1, allOnes(t)} {
		if v &= allOnes(t); !seen[v] {
			seen[v] = true
			list = append(list, wordArg(t, v))
		}
	}
	return list
}

// lineModule has a function of two words of a width, a bit and a pointer, which returns what the last instruction defines, and one that calls it.
func lineModule(w int64, list ...impl.Instr) impl.Module {
	last := list[len(list)-1].Type
	f := function("f", last, block(append(append([]impl.Instr{}, list...), ret(valueArg(last, 3+int64(len(list)))))...))
	f.Params = []int64{w, w, 1, impl.TypePtr}
	main := function("main", last, block(call(0, last, valueArg(w, 0), valueArg(w, 1), valueArg(1, 2), globalArg(0)), ret(valueArg(last, 3))))
	main.Params = []int64{w, w, 1}
	m := ofFuncs(f, main)
	m.Globals = []impl.Global{{Name: "g", Link: impl.LinkStrong, Size: 16}, {Name: "h", Link: impl.LinkStrong, Size: 16}}
	return m
}

// checkLines holds the folding of some instructions against the words of the document, and runs what comes out.
func checkLines(t *testing.T, w int64, list ...impl.Instr) [12]int {
	t.Helper()
	m := lineModule(w, list...)
	folded, count := checkFold(t, m.Funcs[0])
	other := impl.Module{Globals: m.Globals, Funcs: []impl.Func{folded, m.Funcs[1]}}
	top := allOnes(w)
	for _, args := range [][]uint64{{0, top, 0}, {1, 1, 1}, {top/2 + 1, 3 & top, 0}, {top / 2, 0, 1}, {top, top / 3, 1}} {
		checkRefines(t, drawn{m, "main", args, enough}, other)
	}
	return count
}

// TestFoldEachInstruction: each instruction of each width with all pairs of arguments.
func TestFoldEachInstruction(t *testing.T) {
	for _, w := range widths {
		t.Run(fmt.Sprint(w), func(t *testing.T) {
			t.Parallel()
			var count [12]int
			check := func(list ...impl.Instr) {
				for rule, n := range checkLines(t, w, list...) {
					count[rule] += n
				}
			}
			for _, x := range foldArgs(w) {
				for _, y := range foldArgs(w) {
					for op := int64(impl.OpAdd); op <= impl.OpXor; op++ {
						for _, flags := range flagSets(op) {
							check(withFlags(ins(op, w, x, y), flags))
						}
					}
					for pred := int64(impl.PredEq); pred <= impl.PredSGe; pred++ {
						check(compare(pred, x, y))
					}
					for _, first := range []impl.Operand{valueArg(1, 2), poisonArg(1), wordArg(1, 0), wordArg(1, 1)} {
						check(ins(impl.OpSelect, w, first, x, y))
					}
				}
				for _, to := range widths {
					if to < w {
						check(ins(impl.OpTrunc, to, x))
					} else if to > w {
						check(ins(impl.OpZExt, to, x))
						check(ins(impl.OpSExt, to, x))
					}
				}
			}
			for _, x := range foldArgs(impl.TypePtr) {
				for _, y := range foldArgs(impl.TypePtr) {
					check(compare(impl.PredEq, x, y))
					check(compare(impl.PredNe, x, y))
					check(ins(impl.OpSelect, impl.TypePtr, valueArg(1, 2), x, y))
				}
				if w == 64 {
					for _, y := range foldArgs(64) {
						check(ins(impl.OpOffset, impl.TypePtr, x, y))
					}
				}
			}
			for rule := 1; rule <= 10; rule++ {
				if count[rule] < 2 && rule != 8 && (rule != 6 || w > 1) {
					t.Error("the rule", rule, "applied", count[rule], "times")
				}
			}
		})
	}
}

// TestFoldEachPair: each operation of what another one has made, with words and values on both sides, and each cast of a cast.
func TestFoldEachPair(t *testing.T) {
	for _, w := range widths {
		t.Run(fmt.Sprint(w), func(t *testing.T) {
			t.Parallel()
			applied := 0
			args := []impl.Operand{valueArg(w, 1), wordArg(w, 1), wordArg(w, 1<<(w-1)), wordArg(w, 5&allOnes(w)), poisonArg(w)}
			for first := int64(impl.OpAdd); first <= impl.OpXor; first++ {
				for then := int64(impl.OpAdd); then <= impl.OpXor; then++ {
					for n, x := range args {
						for k, y := range args {
							one, two := ins(first, w, valueArg(w, 0), x), ins(then, w, valueArg(w, 4), y)
							one.Flags, two.Flags = impl.FlagsOf(first)*int64(n%2), impl.FlagsOf(then)*int64(k%2)
							applied += checkLines(t, w, one, two)[8]
							two.Args = []impl.Operand{y, valueArg(w, 4)}
							checkLines(t, w, one, two)
						}
					}
				}
			}
			if applied < 20 {
				t.Error("two words are one", applied, "times")
			}
		})
	}
	words := []uint64{1, 4, 1 << 62, 1<<63 - 1, 1 << 63, ^uint64(0)}
	for _, c := range words {
		for _, d := range words {
			checkLines(t, 64, ins(impl.OpOffset, impl.TypePtr, valueArg(impl.TypePtr, 3), wordArg(64, c)), ins(impl.OpOffset, impl.TypePtr, valueArg(impl.TypePtr, 4), wordArg(64, d)))
		}
	}
}

// foldWord is a word at which a rule turns.
func (s *shaper) foldWord(w int64) impl.Operand {
	k := s.below(int(w))
	return wordArg(w, []uint64{0, 1, allOnes(w), 1 << k, 1 << (w - 1), s.word(w)}[s.below(6)])
}

// makeFoldable changes arguments so that rules apply: to words, to the same, to poison, to what the same operation has made in the block.
func (s *shaper) makeFoldable(f *impl.Func) {
	g := tableOf(*f)
	types, places := wantValues(*f)
	for b := range f.Blocks {
		for at := range f.Blocks[b].Instrs {
			i := &f.Blocks[b].Instrs[at]
			if i.Op == impl.OpPhi || i.Op > impl.OpTrunc && i.Op != impl.OpOffset || s.below(3) == 0 {
				continue
			}
			var alikes []impl.Operand
			for value, place := range places {
				dead := !g.hold[b][b]
				if place.Block < 0 || types[value] != i.Args[0].Type || !dead && (place.Block != int64(b) || place.At >= int64(at)) {
					continue
				}
				if by := f.Blocks[place.Block].Instrs[place.At].Op; by == i.Op || isCastOp(by) && isCastOp(i.Op) || dead {
					alikes = append(alikes, valueArg(types[value], int64(value)))
				}
			}
			if len(alikes) > 0 {
				i.Args[0] = alikes[s.below(len(alikes))]
			}
			s.turnArgs(i)
		}
	}
}

func (s *shaper) turnArgs(i *impl.Instr) {
	last := len(i.Args) - 1
	t := i.Args[last].Type
	switch way := s.below(10); {
	case way < 5 && last > 0 && isWidth(t):
		i.Args[last] = s.foldWord(t)
	case way == 5 && last > 0 && i.Args[last-1].Type == t:
		i.Args[last-1] = i.Args[last]
	case way == 6 && last > 0 && i.Args[last-1].Type == t:
		i.Args[last-1], i.Args[last] = i.Args[last], i.Args[last-1]
	case way == 7 && s.below(4) == 0:
		n := s.below(len(i.Args))
		i.Args[n] = poisonArg(i.Args[n].Type)
	case way == 8 && i.Op == impl.OpSelect && i.Type == 1:
		i.Args[1], i.Args[2] = wordArg(1, uint64(s.below(2))), wordArg(1, uint64(s.below(2)))
	}
	for n, o := range i.Args {
		if o.Kind == impl.OperandPoison && n == 1 && i.Op <= impl.OpXor {
			i.Args[n] = s.foldWord(o.Type)
		}
		if i.Op >= impl.OpUDiv && i.Op <= impl.OpSRem && n == 1 && i.Args[n] == wordArg(o.Type, 0) {
			i.Args[n].Word = 1
		}
	}
}

// drawFoldable is a run of a module in which rules apply at many places.
func drawFoldable(numbers *sequence) drawn {
	d := drawRun(numbers)
	s := shaper{sequence: numbers, m: d.M}
	for at := range d.M.Funcs {
		s.makeFoldable(&d.M.Funcs[at])
	}
	return d
}

// eachChanged is a module in which another function stands for each.
func eachChanged(m impl.Module, change func(f impl.Func) impl.Func) impl.Module {
	m.Funcs = append([]impl.Func{}, m.Funcs...)
	for at, f := range m.Funcs {
		m.Funcs[at] = change(f)
	}
	return m
}

// wavers: a run divides poison by -1. That is poison, but the poison may have come to stand for the least number, of which it is undefined.
func (d drawn) wavers() bool {
	return tellRun(d.M, d.Entry, d.Args, d.L).wavers
}

// checkRefines: the run of another module stands for that of a drawn one.
func checkRefines(t *testing.T, d drawn, m impl.Module) impl.Outcome {
	t.Helper()
	other := d
	other.M, other.L.Steps = m, impl.MaxSteps/10
	was, is := d.run(), other.run()
	if was.End == impl.EndBad || is.End == impl.EndBad || !impl.Refines(was, is) && !d.wavers() {
		t.Fatalf("at %v\n%v is no more than\n%v:\n%s%s", d.Args, was, is, impl.FormatModule(d.M), impl.FormatModule(m))
	}
	return was
}

// passRuns counts what the runs of a test have come to, ahead of a pass.
type passRuns struct {
	ends   map[int64]int
	prints int
}

// check is promise 11: what a pass makes of a module has no fault, and stands for what it was.
func (p *passRuns) check(t *testing.T, name string, d drawn, m impl.Module) {
	t.Helper()
	if fault := impl.Verify(m); fault.Code != 0 {
		t.Fatalf("%s makes the fault %v:\n%s", name, fault, impl.FormatModule(d.M))
	}
	was := checkRefines(t, d, m)
	p.ends[was.End]++
	p.prints += len(was.Prints)
}

// TestFoldStandsForWhatItWas is promise 11 for folding, and holds each step against the words of the document.
func TestFoldStandsForWhatItWas(t *testing.T) {
	t.Parallel()
	s := sequence(91)
	runs := passRuns{ends: map[int64]int{}}
	var count [12]int
	for range 1500 {
		d := drawFoldable(&s)
		d.L.Steps = 1000
		for _, f := range d.M.Funcs {
			_, rules := checkFold(t, f)
			for rule, n := range rules {
				count[rule] += n
			}
		}
		runs.check(t, "Fold", d, eachChanged(d.M, impl.Fold))
		runs.check(t, "FoldOnce", d, eachChanged(d.M, func(f impl.Func) impl.Func { return impl.FoldOnce(f).Func }))
	}
	for rule := 1; rule <= 11; rule++ {
		if count[rule] < 100 && (rule != 11 || count[rule] < 30) {
			t.Error("the rule", rule, "applied", count[rule], "times")
		}
	}
	if runs.ends[impl.EndReturn] < 500 || runs.ends[impl.EndTrap] < 50 || runs.prints < 3000 {
		t.Error("the ends", runs.ends, "with", runs.prints, "prints")
	}
}

// goesRound: where no run comes, steps of folding lead back to the function, whichever instruction they are taken at.
func goesRound(f impl.Func) bool {
	folded, told := wantFold(f)
	return len(impl.Order(f)) < len(f.Blocks) && told && alike(folded, f)
}

// TestFoldTwiceIsFoldOnce is promise 12 for folding.
func TestFoldTwiceIsFoldOnce(t *testing.T) {
	t.Parallel()
	s := sequence(92)
	changed := 0
	for range 1500 {
		d := drawFoldable(&s)
		for _, f := range d.M.Funcs {
			folded := impl.Fold(f)
			if got := impl.Fold(folded); !alike(got, folded) {
				t.Fatalf("folded twice it is\n%snot\n%sof\n%s", textOf(got), textOf(folded), textOf(f))
			}
			if got := impl.FoldOnce(folded); got.Done && !goesRound(folded) || !got.Done && !alike(got.Func, folded) {
				t.Fatalf("when it is folded there is more to do:\n%sof\n%s", textOf(got.Func), textOf(folded))
			}
			if !alike(folded, f) {
				changed++
			}
		}
	}
	if changed < 1500 {
		t.Error(changed, "functions are changed")
	}
}

// TestFoldOfManyFunctions: of every kind, such as are not well-made too.
func TestFoldOfManyFunctions(t *testing.T) {
	t.Parallel()
	s := sequence(93)
	sound, others := 0, 0
	for n := range 1200 {
		m := soundModule(&s)
		shape := shaper{sequence: &s, m: m}
		for at := range m.Funcs {
			shape.makeFoldable(&m.Funcs[at])
		}
		for range n % 3 {
			bendModule(&s, &m)
		}
		if n%5 == 0 {
			turnSomething(&s, &m)
		}
		for _, f := range m.Funcs {
			if _, rules := checkFold(t, f); rules[0] > 0 {
				sound++
			} else if f.Link != impl.LinkExtern {
				others++
			}
		}
	}
	if sound < 900 || others < 120 {
		t.Error(sound, "are well-made", others, "are not")
	}
}

// drawRound is a function with a block that can't be come to, of instructions of few kinds with each other as arguments.
func drawRound(s *sequence) impl.Func {
	shape := shaper{sequence: s}
	w := shape.oneOf(widths...)
	ops := []int64{impl.OpAdd, impl.OpSub, impl.OpAnd, impl.OpOr, impl.OpXor, impl.OpMul, impl.OpOffset, impl.OpSelect, impl.OpZExt, impl.OpTrunc}
	only := ops[s.below(len(ops))]
	var list []impl.Instr
	for range 1 + s.below(6) {
		i := ins(only, w)
		if s.below(4) == 0 {
			i.Op = ops[s.below(len(ops))]
		}
		switch {
		case i.Op == impl.OpOffset:
			i.Type = impl.TypePtr
		case i.Op == impl.OpZExt:
			i.Type = shape.oneOf(16, 32, 64)
		case i.Op == impl.OpTrunc:
			i.Type = shape.oneOf(8, 16, 32)
		}
		list = append(list, i)
	}
	f := function("round", 0, block(ret()), block(append(list, jump(2))...), block(jump(1)))
	shape.types, _ = wantValues(f)
	for at := range list {
		i := &f.Blocks[1].Instrs[at]
		shape.fill(f, i)
		for n, o := range i.Args {
			for range 3 {
				if o.Kind != impl.OperandValue {
					o = shape.operand(o.Type)
				}
			}
			i.Args[n] = o
		}
		if last := len(i.Args) - 1; last > 0 && isWidth(i.Args[last].Type) && s.below(5) > 0 {
			i.Args[last] = shape.foldWord(i.Args[last].Type)
		}
	}
	return f
}

// TestFoldOfRounds: where no run comes values go round in many ways, and folding comes to its end.
func TestFoldOfRounds(t *testing.T) {
	t.Parallel()
	s := sequence(94)
	var count [12]int
	for range 4000 {
		f := drawRound(&s)
		folded, rules := checkFold(t, f)
		if rules[0] == 0 {
			t.Fatal("the test's function is not well-made:", f)
		}
		for rule, n := range rules {
			count[rule] += n
		}
		if fault := impl.Verify(ofFuncs(folded)); fault.Code != 0 {
			t.Fatalf("there is the fault %v in\n%v\nof\n%s", fault, folded, textOf(f))
		}
	}
	for _, rule := range []int{1, 2, 3, 4, 5, 6, 7, 8, 9, 11} {
		if count[rule] < 20 {
			t.Error("the rule", rule, "applied", count[rule], "times")
		}
	}
}

// TestFoldLeavesFunctionsAlone is promise 1 for the functions of this chapter.
func TestFoldLeavesFunctionsAlone(t *testing.T) {
	t.Parallel()
	s := sequence(95)
	for n := range 500 {
		m := drawFoldable(&s).M
		if n%3 == 0 {
			turnSomething(&s, &m)
		}
		if n%5 == 0 {
			m.Funcs = append(m.Funcs, drawOddFunc(&s))
		}
		for _, f := range m.Funcs {
			f.Params = append(make([]int64, 0, 12), f.Params...)
			checkPure(t, "Fold", f, impl.Fold)
			checkPure(t, "FoldOnce", f, impl.FoldOnce)
		}
	}
}

// TestFoldInTime: as many instructions as there may be, each joined with all ahead of it, also where the last one stands first.
func TestFoldInTime(t *testing.T) {
	t.Parallel()
	const count = 39 * 5
	line := func(n int64) impl.Instr { return ins(impl.OpAdd, 64, valueArg(64, n), wordArg(64, 1)) }
	straight, back := function("straight", 64, block()), function("back", 64, block(jump(39)))
	straight.Params, back.Params = []int64{64}, []int64{64}
	for n := range int64(count) {
		straight.Blocks[0].Instrs = append(straight.Blocks[0].Instrs, line(n))
	}
	straight.Blocks[0].Instrs = append(straight.Blocks[0].Instrs, ret(valueArg(64, count)))
	// The block 39 is gone to first, and its values have the greatest numbers.
	for b := int64(1); b < 40; b++ {
		var list []impl.Instr
		for n := range int64(5) {
			from := 5*(b-1) + n
			switch {
			case n > 0:
			case b == 39:
				from = 0
			default:
				from = 5 * (b + 1)
			}
			list = append(list, line(from))
		}
		end := jump(b - 1)
		if b == 1 {
			end = ret(valueArg(64, 5))
		}
		back.Blocks = append(back.Blocks, block(append(list, end)...))
	}
	for _, f := range []impl.Func{straight, back} {
		if fault := impl.Verify(ofFuncs(f)); fault.Code != 0 {
			t.Fatal(f.Name, "has the fault", fault)
		}
		var folded impl.Func
		inTime(t, f.Name, func() { folded = impl.Fold(f) })
		for _, b := range folded.Blocks {
			for _, i := range b.Instrs {
				if i.Op == impl.OpAdd && i.Args[0] != valueArg(64, 0) {
					t.Fatal(f.Name, "is not folded:", textOf(folded))
				}
			}
		}
		got := impl.Run(ofFuncs(folded), f.Name, []uint64{7}, enough)
		if got.End != impl.EndReturn || got.Value != plain(7+count) {
			t.Error(f.Name, "gives", got)
		}
	}
}
