package tests

import (
	"testing"

	"loop.example/g00010/impl"
)

// noTypes are numbers of no type that a value may have.
var noTypes = []int64{-1 << 63, -65, -8, -1, 2, 7, 9, 63, 66, 128, 1<<32 + 8, 1<<63 - 1}

// oddModule: a function with this body, "take" of one parameter of this type, and "make" with a result of it.
func oddModule(typ int64, blocks ...impl.Block) impl.Module {
	return impl.Module{
		Globals: []impl.Global{{Name: "g", Link: impl.LinkStrong, Size: 8}},
		Funcs:   []impl.Func{function("a", 0, blocks...), {Name: "take", Params: []int64{typ}}, {Name: "make", Result: typ}},
	}
}

const oddTake, oddMake = 1, 2

func checkFault(t *testing.T, name string, typ int64, m impl.Module, want impl.Fault) {
	t.Helper()
	if own := wantFault(m); own != want {
		t.Error("the test's own fault of", name, "with", typ, "is", own)
	}
	if got := impl.ShapeFault(m); got != want {
		t.Error(name, "with", typ, "gives", got, "not", want)
	}
	checkPure(t, "ShapeFault", m, impl.ShapeFault)
}

// TestValuesOfNoTypeAsArguments: a call that is given the value that its callee asks for has no fault, whatever the
// type; what has one is the place that names a type that is none.
func TestValuesOfNoTypeAsArguments(t *testing.T) {
	for _, typ := range noTypes {
		take, made := call(oddTake, 0, valueArg(typ, 0)), call(oddMake, typ)
		one := wordArg(8, 1)
		at := func(code, block, at int64) impl.Fault { return impl.Fault{Code: code, Block: block, At: at} }
		head := impl.Fault{Code: 3, Func: oddTake, Block: -1, At: -1}
		for _, c := range []struct {
			name   string
			blocks []impl.Block
			want   impl.Fault
		}{
			{"a call ahead", []impl.Block{block(made, take, ret())}, head},
			{"a call behind", []impl.Block{block(take, made, ret())}, head},
			{"a call in another block", []impl.Block{block(jump(1)), block(take, jump(2)), block(made, ret())}, head},
			{"a sum behind", []impl.Block{block(take, ins(impl.OpAdd, typ, one, one), ret())}, at(6, 0, 1)},
			{"a phi in another block", []impl.Block{block(take, jump(1)), block(phi(typ, []int64{0}, one), ret())}, at(6, 1, 0)},
			{"a load behind", []impl.Block{block(take, take, ins(impl.OpLoad, typ, globalArg(0)), ret())}, at(6, 0, 2)},
			{"no operation", []impl.Block{block(take, ins(19, typ), ret())}, at(5, 0, 1)},
			{"an end with a type", []impl.Block{block(take, impl.Instr{Op: impl.OpReturn, Type: typ})}, at(6, 0, 1)},
			{"an end in the middle", []impl.Block{block(take, impl.Instr{Op: impl.OpTrap, Type: typ}, ret())}, at(4, 0, 1)},
			{"a load ahead", []impl.Block{block(ins(impl.OpLoad, typ, globalArg(0)), take, ret())}, at(6, 0, 0)},
			{"a fault of another kind ahead", []impl.Block{block(take, ins(impl.OpPrint, 0, one), made, ret())}, at(8, 0, 1)},
			{"an empty block", []impl.Block{block(take, made, ret()), {}}, at(4, 1, -1)},
		} {
			checkFault(t, c.name, typ, oddModule(typ, c.blocks...), c.want)
		}
		self := oddModule(typ, block(take, made, ret()))
		self.Funcs[0].Params = []int64{typ}
		checkFault(t, "its own parameter", typ, self, impl.Fault{Code: 3, Block: -1, At: -1})
		back := oddModule(typ, block(take, made, ret()))
		back.Funcs[oddTake].Params, back.Funcs[0].Blocks[0].Instrs[0].Args = []int64{64}, []impl.Operand{wordArg(64, 5)}
		checkFault(t, "a result alone", typ, back, impl.Fault{Code: 3, Func: oddMake, Block: -1, At: -1})
	}
}

// TestNoOperandsOfNoType: what is no value of just that type is none for a callee that asks for it.
func TestNoOperandsOfNoType(t *testing.T) {
	for _, typ := range append([]int64{impl.TypeNone}, noTypes...) {
		kinds := []impl.Operand{wordArg(typ, 0), wordArg(typ, 1), poisonArg(typ), {Type: typ}, {Kind: 6, Type: typ},
			{Kind: impl.OperandNull, Type: typ}, {Kind: impl.OperandGlobal, Type: typ}, nullArg(), globalArg(0), wordArg(64, 0),
			valueArg(typ, -1), valueArg(typ, 1), valueArg(typ, 2), valueArg(typ, 1<<62), valueArg(8, 0), valueArg(64, 1),
			{Kind: impl.OperandValue, Type: typ, Word: 1}, {Kind: impl.OperandValue, Type: typ ^ 1}, valueArg(impl.TypeNone, 0)}
		for _, o := range kinds {
			m := oddModule(typ, block(call(oddTake, 0, o), call(oddMake, typ), ins(impl.OpLoad, 64, nullArg()), ret()))
			checkFault(t, "an operand", typ, m, impl.Fault{Code: 8})
		}
	}
}

// TestValuesOfNoTypeElsewhere: a call alone asks for a type that is none; the table asks all else for a type.
func TestValuesOfNoTypeElsewhere(t *testing.T) {
	for _, typ := range noTypes {
		odd, one, bit := valueArg(typ, 0), wordArg(64, 1), wordArg(1, 1)
		list := []impl.Instr{
			ins(impl.OpStore, 0, odd, globalArg(0)), ins(impl.OpStore, 0, one, odd), ins(impl.OpLoad, 64, odd), ins(impl.OpPrint, 0, odd),
			ins(impl.OpOffset, impl.TypePtr, odd, one), ins(impl.OpOffset, impl.TypePtr, globalArg(0), odd),
			ins(impl.OpSelect, 64, odd, one, one), ins(impl.OpSelect, 64, bit, odd, odd), ins(impl.OpAdd, 64, odd, odd),
			ins(impl.OpZExt, 64, odd), ins(impl.OpSExt, 8, odd), ins(impl.OpTrunc, 1, odd), ins(impl.OpTrunc, 32, odd),
			compare(impl.PredEq, odd, one), compare(impl.PredNe, one, odd), call(0, 0, odd),
		}
		for pred := int64(impl.PredEq); pred <= impl.PredSGe; pred++ {
			list = append(list, compare(pred, odd, odd))
		}
		for _, i := range list {
			m := oddModule(typ, block(jump(1)), block(i, call(oddMake, typ), jump(0)))
			// What defines a value itself is the value 0, and the odd one is then the next.
			if i.Type != impl.TypeNone {
				for n, o := range i.Args {
					if o == odd {
						i.Args[n].Index = 1
					}
				}
			}
			code := int64(8)
			if i.Op == impl.OpCall {
				code = 6
			}
			checkFault(t, "an argument", typ, m, impl.Fault{Code: code, Block: 1})
		}
		for _, i := range []impl.Instr{branch(odd, 0, 1), switchOn(odd, nil, 0), switchOn(odd, []uint64{0}, 0, 1), ret(odd)} {
			m := oddModule(typ, block(call(oddMake, typ), jump(1)), block(i))
			if i.Op == impl.OpReturn {
				m.Funcs[0].Result = 64
			}
			checkFault(t, "an end's argument", typ, m, impl.Fault{Code: 8, Block: 1})
		}
		m := oddModule(typ, block(call(oddMake, typ), jump(1)), block(phi(64, []int64{0}, odd), ret()))
		checkFault(t, "a phi's argument", typ, m, impl.Fault{Code: 8, Block: 1})
	}
}

// drawOdd: a function whose calls ask for types of which some are none, and are mostly given values of just these.
func drawOdd(s *sequence) impl.Module {
	pool := []int64{64, 8, impl.TypePtr, 1, noTypes[s.below(len(noTypes))], noTypes[s.below(len(noTypes))]}
	draw := func() int64 { return pool[s.below(len(pool))] }
	m := ofFuncs(function("a", 0))
	m.Globals = []impl.Global{{Name: "g", Link: impl.LinkStrong, Size: 8}}
	for _, name := range []string{"b", "c", "d", "e"} {
		f := impl.Func{Name: name, Result: draw()}
		if s.below(3) == 0 {
			f.Result = 0
		}
		for range s.below(3) {
			f.Params = append(f.Params, draw())
		}
		m.Funcs = append(m.Funcs, f)
	}
	count := 2 + s.below(9)
	m.Funcs[0].Params = []int64{64}
	m.Funcs[0].Blocks = []impl.Block{{}, {}}
	for n := range count {
		i := call(int64(1+s.below(4)), 0)
		i.Type = m.Funcs[i.Callee].Result
		switch s.below(12) {
		case 0:
			i = ins(impl.OpStore, 0)
		case 1:
			i = ins(impl.OpLoad, draw())
		case 2:
			i = compare(1+int64(s.below(2)), impl.Operand{}, impl.Operand{})
		}
		b := &m.Funcs[0].Blocks[2*n/count]
		b.Instrs = append(b.Instrs, i)
	}
	fillOdd(s, &m, draw)
	return m
}

func fillOdd(s *sequence, m *impl.Module, draw func() int64) {
	types, _ := wantValues(m.Funcs[0])
	operand := func(typ int64) impl.Operand {
		start := s.below(len(types))
		for n := range types {
			if at := (start + n) % len(types); types[at] == typ && s.below(20) > 0 {
				return valueArg(typ, int64(at))
			}
		}
		switch {
		case typ == impl.TypePtr:
			return globalArg(0)
		case s.below(3) == 0:
			return poisonArg(typ)
		}
		return wordArg(typ, 1)
	}
	for b := range m.Funcs[0].Blocks {
		list := m.Funcs[0].Blocks[b].Instrs
		for at := range list {
			i := &list[at]
			wanted := []int64{64, 64}
			switch i.Op {
			case impl.OpCall:
				wanted = m.Funcs[i.Callee].Params
			case impl.OpStore:
				wanted = []int64{draw(), impl.TypePtr}
			case impl.OpLoad:
				wanted = []int64{impl.TypePtr}
			case impl.OpCompare:
				typ := draw()
				wanted = []int64{typ, typ}
			}
			i.Args = nil
			for _, typ := range wanted {
				i.Args = append(i.Args, operand(typ))
			}
		}
		m.Funcs[0].Blocks[b].Instrs = append(list, jump(1))
	}
}

// oddArgument: an argument that is a value of no type stands at a place of the first function ahead of the fault.
func oddArgument(m impl.Module, fault impl.Fault) bool {
	for b, block := range m.Funcs[0].Blocks {
		for at, i := range block.Instrs {
			if fault.Func == 0 && fault.Block == int64(b) && fault.At == int64(at) {
				return false
			}
			for _, o := range i.Args {
				if o.Kind == impl.OperandValue && !isType(o.Type) {
					return true
				}
			}
		}
	}
	return false
}

// TestShapeFaultOfOddCalls holds the faults of such modules against the words of the document.
func TestShapeFaultOfOddCalls(t *testing.T) {
	s := sequence(12)
	codes := map[int64]int{}
	for n := range 20000 {
		m := drawOdd(&s)
		got, want := impl.ShapeFault(m), wantFault(m)
		if got != want {
			t.Fatalf("module %d gives %v, not %v: %+v", n, got, want, m)
		}
		if want.Code != 0 && oddArgument(m, want) {
			codes[want.Code]++
		}
	}
	for _, code := range []int64{3, 6, 8} {
		if codes[code] < 500 {
			t.Error("the fault", code, "came", codes[code], "times behind an argument of no type")
		}
	}
}
