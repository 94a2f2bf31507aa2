package tests

import (
	"testing"

	"loop.example/g00010/impl"
)

// soundModule is a module of every kind without a fault: each argument is drawn from the values that are defined ahead of it.
func soundModule(numbers *sequence) impl.Module {
	return drawModule(numbers, (*shaper).soundBody)
}

func (s *shaper) soundBody(f *impl.Func) {
	f.Blocks = make([]impl.Block, 1+s.below(7))
	s.types, s.bars = nil, nil
	for b := range f.Blocks {
		f.Blocks[b].Instrs = []impl.Instr{s.soundEnd(*f)}
	}
	g, room := tableOf(*f), int64(impl.MaxFrame)
	for b := range f.Blocks {
		var list []impl.Instr
		if before := g.before(int64(b)); len(before) > 0 {
			for range s.below(3) {
				t := s.oneOf(allTypes...)
				i := phi(t, append([]int64{}, before...))
				for range before {
					i.Args = append(i.Args, poisonArg(t))
				}
				list = append(list, i)
			}
		}
		for _, i := range s.middle(b, &room) {
			s.fill(*f, &i)
			list = append(list, i)
		}
		f.Blocks[b].Instrs = append(list, f.Blocks[b].Instrs...)
	}
	s.soundArguments(*f)
}

// soundEnd does not go to block 0.
func (s *shaper) soundEnd(f impl.Func) impl.Instr {
	i := impl.Instr{Op: impl.OpJump + int64(s.below(5))}
	if len(f.Blocks) == 1 {
		i.Op = s.oneOf(impl.OpReturn, impl.OpTrap)
	} else if s.below(2) == 0 {
		i.Op = s.oneOf(impl.OpJump, impl.OpBranch)
	}
	s.fill(f, &i)
	for n, b := range i.Blocks {
		i.Blocks[n] = max(b, 1)
	}
	return i
}

// soundArguments draws all arguments anew; where no run comes, they may be any values.
func (s *shaper) soundArguments(f impl.Func) {
	g := tableOf(f)
	s.types, _ = wantValues(f)
	for b := range f.Blocks {
		for at, i := range f.Blocks[b].Instrs {
			for n, o := range i.Args {
				use := impl.Place{Block: int64(b), At: int64(at)}
				if i.Op == impl.OpPhi {
					use = g.endOf(i.Blocks[n])
				}
				s.bars = func(value int64) bool {
					return g.hold[use.Block][use.Block] && !g.isAhead(value, use)
				}
				i.Args[n] = s.operand(o.Type)
			}
		}
	}
	s.bars = nil
}

// bendModule changes one thing of a function and leaves its shape right, as a rule.
func bendModule(s *sequence, m *impl.Module) {
	if len(m.Funcs) == 0 {
		return
	}
	f := &m.Funcs[s.below(len(m.Funcs))]
	if len(f.Blocks) == 0 {
		return
	}
	list := f.Blocks[s.below(len(f.Blocks))].Instrs
	i := &list[s.below(len(list))]
	switch way := s.below(8); {
	case i.Op == impl.OpPhi && way < 3:
		bendPhi(s, f, i)
	case len(i.Blocks) > 0 && i.Op != impl.OpPhi && way < 3:
		i.Blocks[s.below(len(i.Blocks))] = int64(s.below(2*len(f.Blocks)) / 2)
	case way == 3:
		b := s.below(len(f.Blocks))
		f.Blocks[b], f.Blocks[len(f.Blocks)-1] = f.Blocks[len(f.Blocks)-1], f.Blocks[b]
	case len(i.Args) > 0:
		n := s.below(len(i.Args))
		var values []int64
		types, _ := wantValues(*f)
		for v, t := range types {
			if t == i.Args[n].Type {
				values = append(values, int64(v))
			}
		}
		if len(values) > 0 {
			i.Args[n] = valueArg(i.Args[n].Type, values[s.below(len(values))])
		}
	}
}

// bendPhi leaves one block of a phi out, has one more or one twice, changes two, or turns one.
func bendPhi(s *sequence, f *impl.Func, i *impl.Instr) {
	a, b := s.below(len(i.Args)), s.below(len(i.Args))
	switch s.below(5) {
	case 0:
		if len(i.Args) > 1 {
			i.Args = append(i.Args[:a:a], i.Args[a+1:]...)
			i.Blocks = append(i.Blocks[:a:a], i.Blocks[a+1:]...)
		}
	case 1:
		i.Args = append(i.Args, i.Args[a])
		i.Blocks = append(i.Blocks, int64(s.below(len(f.Blocks))))
	case 2:
		i.Args = append(i.Args[:a+1:a+1], i.Args[a:]...)
		i.Blocks = append(i.Blocks[:a+1:a+1], i.Blocks[a:]...)
	case 3:
		i.Args[a], i.Args[b] = i.Args[b], i.Args[a]
		i.Blocks[a], i.Blocks[b] = i.Blocks[b], i.Blocks[a]
	default:
		i.Blocks[a] = int64(s.below(len(f.Blocks)))
	}
}

func TestSoundModulesHaveNoFault(t *testing.T) {
	t.Parallel()
	s := sequence(51)
	instrs, phis, loops := 0, 0, 0
	for n := range 3000 {
		m := soundModule(&s)
		if code := checkVerify(t, m); code != 0 {
			t.Fatalf("the test's module %d has the fault %d: %+v\n%s", n, code, m, impl.FormatModule(m))
		}
		for _, f := range m.Funcs {
			loops += len(impl.Loops(f))
			for _, b := range f.Blocks {
				for _, i := range b.Instrs {
					instrs++
					if i.Op == impl.OpPhi {
						phis++
					}
				}
			}
		}
	}
	if instrs < 100000 || phis < 5000 || loops < 2000 {
		t.Error(instrs, "instructions", phis, "phis", loops, "loops")
	}
}

func TestBentModulesHaveTheFirstFault(t *testing.T) {
	t.Parallel()
	s := sequence(52)
	codes := map[int64]int{}
	for range 12000 {
		m := soundModule(&s)
		for range 1 + s.below(6) {
			bendModule(&s, &m)
		}
		if s.below(8) == 0 {
			turnSomething(&s, &m)
		}
		codes[checkVerify(t, m)]++
	}
	for _, code := range []int64{0, 8, 10, 11, 12} {
		if codes[code] < 300 {
			t.Error("the fault", code, "came", codes[code], "times", codes)
		}
	}
}

// TestShapedModulesHaveTheFirstFault: in these hardly anything is as it should be.
func TestShapedModulesHaveTheFirstFault(t *testing.T) {
	t.Parallel()
	s := sequence(53)
	for range 3000 {
		m := shapedModule(&s)
		checkVerify(t, m)
		m = fullModule()
		for range 1 + s.below(3) {
			turnSomething(&s, &m)
		}
		checkVerify(t, m)
	}
}

// endTo goes on to all of the blocks.
func endTo(blocks []int64) impl.Instr {
	switch len(blocks) {
	case 0:
		return trap()
	case 1:
		return jump(blocks[0])
	}
	i := switchOn(wordArg(8, 1), nil, blocks...)
	for n := range len(blocks) - 1 {
		i.Words = append(i.Words, uint64(n))
	}
	return i
}

// forkFunc has four blocks that go where the bits of n say, each of which defines a number.
func forkFunc(n int) impl.Func {
	f := function("fork", 0)
	for b := range 4 {
		var next []int64
		for bit := range 3 {
			if n>>(3*b+bit)&1 == 1 {
				next = append(next, int64(bit)+1)
			}
		}
		f.Blocks = append(f.Blocks, block(define(), endTo(next)))
		f.Blocks[b].Instrs[0].Args = []impl.Operand{wordArg(64, 1), wordArg(64, 2)}
	}
	return f
}

// TestVerifyAllSmallGraphs: in each graph of four blocks, each block uses each value, as it is and by a phi for each block.
func TestVerifyAllSmallGraphs(t *testing.T) {
	t.Parallel()
	codes := map[int64]int{}
	for n := range 1 << 12 {
		f := forkFunc(n)
		g := tableOf(f)
		for b := range f.Blocks {
			for value := range int64(4) {
				codes[checkOneUse(t, g, f, b, value)]++
				for k, from := range g.before(int64(b)) {
					codes[checkOnePhi(t, g, f, b, k, from, value)]++
				}
			}
		}
	}
	if len(codes) != 2 || codes[0] < 20000 || codes[12] < 20000 {
		t.Error("the faults", codes)
	}
}

func checkOneUse(t *testing.T, g graphTable, f impl.Func, b int, value int64) int64 {
	t.Helper()
	list := f.Blocks[b].Instrs
	f.Blocks[b].Instrs = []impl.Instr{list[0], use(value), list[1]}
	defer func() { f.Blocks[b].Instrs = list }()
	want := impl.Fault{}
	if g.hold[b][b] && !g.hold[value][b] {
		want = in0(12, int64(b), 1)
	}
	return checkOne(t, f, want)
}

func checkOnePhi(t *testing.T, g graphTable, f impl.Func, b int, k int, from, value int64) int64 {
	t.Helper()
	list := f.Blocks[b].Instrs
	i := phi(64, g.before(int64(b)))
	for range i.Blocks {
		i.Args = append(i.Args, wordArg(64, 7))
	}
	// The phi is one value more, ahead of those of its block and of the blocks behind.
	i.Args[k] = valueArg(64, value)
	if value >= int64(b) {
		i.Args[k].Index++
	}
	f.Blocks[b].Instrs = append([]impl.Instr{i}, list...)
	defer func() { f.Blocks[b].Instrs = list }()
	want := impl.Fault{}
	if g.hold[from][from] && !g.hold[value][from] {
		want = in0(12, int64(b), 0)
	}
	return checkOne(t, f, want)
}

func checkOne(t *testing.T, f impl.Func, want impl.Fault) int64 {
	t.Helper()
	got := impl.Verify(ofFuncs(f))
	if got != want {
		t.Fatalf("Verify gives %v, not %v:\n%s", got, want, impl.FormatModule(ofFuncs(f)))
	}
	return got.Code
}

// TestVerifyLeavesModulesAlone is promise 1 for Verify.
func TestVerifyLeavesModulesAlone(t *testing.T) {
	s := sequence(54)
	for n := range 500 {
		m := soundModule(&s)
		for range n % 4 {
			bendModule(&s, &m)
		}
		if n%3 == 0 {
			turnSomething(&s, &m)
		}
		checkPure(t, "Verify", m, impl.Verify)
		if n%10 == 0 {
			odd := impl.Module{Funcs: []impl.Func{drawOddFunc(&s), drawOddFunc(&s)}}
			checkPure(t, "Verify", odd, impl.Verify)
		}
	}
}
