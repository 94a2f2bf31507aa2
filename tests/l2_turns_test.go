package tests

import (
	"testing"

	"loop.example/g00010/impl"
)

// at is the turn of one instruction of everyOperation.
func at(name string, block, place int64, code int64, do func(i *impl.Instr)) turn {
	return turn{name, func(m *impl.Module) { do(&m.Funcs[fullEvery].Blocks[block].Instrs[place]) }, impl.Fault{Code: code, Func: fullEvery, Block: block, At: place}}
}

// firstOf is the place in block 0 of everyOperation of the first instruction with this operation.
func firstOf(op int64) int64 {
	for n, i := range everyOperation().Blocks[0].Instrs {
		if i.Op == op {
			return int64(n)
		}
	}
	return -1
}

// inFirst is the turn of the first instruction with this operation in block 0.
func inFirst(name string, op int64, code int64, do func(i *impl.Instr)) turn {
	return at(name, 0, firstOf(op), code, do)
}

func TestFaultsOfEndsAndOperations(t *testing.T) {
	every := func(block, at int64, code int64) impl.Fault {
		return impl.Fault{Code: code, Func: fullEvery, Block: block, At: at}
	}
	blocks := func(m *impl.Module) []impl.Block { return m.Funcs[fullEvery].Blocks }
	checkTurns(t, []turn{
		{"a block without instructions", func(m *impl.Module) { blocks(m)[3].Instrs = nil }, every(3, -1, 4)},
		{"the first block without instructions", func(m *impl.Module) { blocks(m)[0].Instrs = nil }, every(0, -1, 4)},
		{"no end", func(m *impl.Module) { blocks(m)[2].Instrs = blocks(m)[2].Instrs[:2] }, every(2, 1, 4)},
		{"an end in the middle", func(m *impl.Module) { blocks(m)[2].Instrs[0] = trap() }, every(2, 0, 4)},
		{"an end behind the end", func(m *impl.Module) { blocks(m)[4].Instrs = append(blocks(m)[4].Instrs, trap()) }, every(4, 0, 4)},
		{"the middle ahead of the last", func(m *impl.Module) { blocks(m)[3].Instrs = []impl.Instr{trap(), ins(impl.OpPrint, 0)} }, every(3, 0, 4)},
		{"a wrong one ahead of the end", func(m *impl.Module) {
			blocks(m)[3].Instrs = []impl.Instr{ins(impl.OpPrint, 0), ins(impl.OpPrint, 0)}
		}, every(3, 0, 6)},
		{"a wrong end in the middle", func(m *impl.Module) { blocks(m)[3].Instrs = []impl.Instr{{Op: impl.OpJump, Type: 9}, jump(99)} }, every(3, 0, 4)},
		{"no operation at the end", func(m *impl.Module) { blocks(m)[3].Instrs[0].Op = 19 }, every(3, 0, 4)},
		{"what is behind is not looked at", func(m *impl.Module) { blocks(m)[1].Instrs[0].Words = nil; blocks(m)[2].Instrs = nil }, every(1, 0, 6)},
		inFirst("the operation 0", impl.OpAdd, 5, func(i *impl.Instr) { i.Op = 0 }),
		inFirst("the operation 19", impl.OpAdd, 5, func(i *impl.Instr) { i.Op = 19 }),
		inFirst("the operation 32", impl.OpAdd, 5, func(i *impl.Instr) { i.Op = 32 }),
		inFirst("the operation -1", impl.OpAdd, 5, func(i *impl.Instr) { i.Op = -1 }),
		inFirst("a great operation", impl.OpAdd, 5, func(i *impl.Instr) { i.Op = 1<<32 + impl.OpAdd }),
		inFirst("5 ahead of 6", impl.OpAdd, 5, func(i *impl.Instr) { i.Op, i.Type, i.Args = 77, -1, nil }),
	})
}

func TestFaultsOfFields(t *testing.T) {
	list := []turn{
		inFirst("no type", impl.OpAdd, 6, func(i *impl.Instr) { i.Type = 0 }),
		inFirst("a pointer's type", impl.OpXor, 6, func(i *impl.Instr) { i.Type = impl.TypePtr }),
		inFirst("a strange type", impl.OpMul, 6, func(i *impl.Instr) { i.Type = 7 }),
		inFirst("exact of a sum", impl.OpAdd, 6, func(i *impl.Instr) { i.Flags = 4 }),
		inFirst("a flag of an and", impl.OpAnd, 6, func(i *impl.Instr) { i.Flags = 1 }),
		inFirst("a flag of a remainder", impl.OpURem, 6, func(i *impl.Instr) { i.Flags = 4 }),
		inFirst("a wrong flag of a quotient", impl.OpUDiv, 6, func(i *impl.Instr) { i.Flags = 6 }),
		inFirst("flags below 0", impl.OpShl, 6, func(i *impl.Instr) { i.Flags = -1 << 63 }),
		inFirst("one argument", impl.OpAdd, 6, func(i *impl.Instr) { i.Args = i.Args[:1] }),
		inFirst("three arguments", impl.OpAdd, 6, func(i *impl.Instr) { i.Args = append(i.Args, wordArg(64, 1)) }),
		inFirst("a compare of width 8", impl.OpCompare, 6, func(i *impl.Instr) { i.Type = 8 }),
		inFirst("the predicate 0", impl.OpCompare, 6, func(i *impl.Instr) { i.Pred = 0 }),
		inFirst("the predicate 11", impl.OpCompare, 6, func(i *impl.Instr) { i.Pred = 11 }),
		inFirst("the predicate -1", impl.OpCompare, 6, func(i *impl.Instr) { i.Pred = -1 }),
		inFirst("a compare of none", impl.OpCompare, 6, func(i *impl.Instr) { i.Args = nil }),
		inFirst("a select of none", impl.OpSelect, 6, func(i *impl.Instr) { i.Type = 0 }),
		inFirst("a select of two", impl.OpSelect, 6, func(i *impl.Instr) { i.Args = i.Args[:2] }),
		inFirst("a cast to a pointer", impl.OpZExt, 6, func(i *impl.Instr) { i.Type = impl.TypePtr }),
		inFirst("a cast of two", impl.OpTrunc, 6, func(i *impl.Instr) { i.Args = append(i.Args, i.Args[0]) }),
		inFirst("an alloca of a number", impl.OpAlloca, 6, func(i *impl.Instr) { i.Type = 64 }),
		inFirst("an alloca of 0", impl.OpAlloca, 6, func(i *impl.Instr) { i.Size = 0 }),
		at("an alloca of 257", 0, firstOf(impl.OpAlloca)+1, 6, func(i *impl.Instr) { i.Size = 257 }),
		inFirst("an alloca with an argument", impl.OpAlloca, 6, func(i *impl.Instr) { i.Args = []impl.Operand{wordArg(64, 1)} }),
		inFirst("a load of none", impl.OpLoad, 6, func(i *impl.Instr) { i.Type = 0 }),
		inFirst("a store with a type", impl.OpStore, 6, func(i *impl.Instr) { i.Type = 32 }),
		inFirst("a store of nothing", impl.OpStore, 6, func(i *impl.Instr) { i.Args = i.Args[1:] }),
		inFirst("an offset that is a number", impl.OpOffset, 6, func(i *impl.Instr) { i.Type = 64 }),
		inFirst("a callee below 0", impl.OpCall, 6, func(i *impl.Instr) { i.Callee = -1 }),
		inFirst("a callee that there is not", impl.OpCall, 6, func(i *impl.Instr) { i.Callee = 5 }),
		inFirst("a great callee", impl.OpCall, 6, func(i *impl.Instr) { i.Callee = 1 << 62 }),
		inFirst("a call of another type", impl.OpCall, 6, func(i *impl.Instr) { i.Type = 32 }),
		inFirst("a call of no type", impl.OpCall, 6, func(i *impl.Instr) { i.Type = 0 }),
		inFirst("a call with one argument", impl.OpCall, 6, func(i *impl.Instr) { i.Args = i.Args[:1] }),
		inFirst("a print with a type", impl.OpPrint, 6, func(i *impl.Instr) { i.Type = 64 }),
		at("a call of nothing with a type", 0, firstOf(impl.OpCall)+1, 6, func(i *impl.Instr) { i.Type = 1 }),
		at("a branch to one", 0, firstOf(impl.OpBranch), 6, func(i *impl.Instr) { i.Blocks = i.Blocks[:1] }),
		at("a branch to three", 0, firstOf(impl.OpBranch), 6, func(i *impl.Instr) { i.Blocks = append(i.Blocks, 3) }),
		at("a phi of none", 2, 0, 6, func(i *impl.Instr) { i.Args, i.Blocks = nil, nil }),
		at("a phi of no type", 2, 0, 6, func(i *impl.Instr) { i.Type = 0 }),
		at("a phi with a block less", 2, 0, 6, func(i *impl.Instr) { i.Blocks = i.Blocks[:1] }),
		at("a phi with an argument less", 2, 0, 6, func(i *impl.Instr) { i.Args = i.Args[:1] }),
		at("a jump to none", 3, 0, 6, func(i *impl.Instr) { i.Blocks = nil }),
		at("a jump to two", 3, 0, 6, func(i *impl.Instr) { i.Blocks = []int64{5, 5} }),
		at("a jump of a word", 3, 0, 6, func(i *impl.Instr) { i.Args = []impl.Operand{wordArg(1, 1)} }),
		at("a switch with a word less", 1, 0, 6, func(i *impl.Instr) { i.Words = i.Words[:2] }),
		at("a switch with a block less", 1, 0, 6, func(i *impl.Instr) { i.Blocks = i.Blocks[:3] }),
		at("a switch with a word twice", 1, 0, 6, func(i *impl.Instr) { i.Words[2] = 0 }),
		at("a switch of two", 1, 0, 6, func(i *impl.Instr) { i.Args = append(i.Args, i.Args[0]) }),
		at("a return of none", 5, 1, 6, func(i *impl.Instr) { i.Args = nil }),
		at("a return of two", 5, 1, 6, func(i *impl.Instr) { i.Args = append(i.Args, i.Args[0]) }),
		at("a trap with a type", 4, 0, 6, func(i *impl.Instr) { i.Type = 1 }),
		at("a trap with a block", 4, 0, 6, func(i *impl.Instr) { i.Blocks = []int64{0} }),
		at("6 ahead of 7", 3, 0, 6, func(i *impl.Instr) { i.Blocks = []int64{99, 99} }),
		at("6 ahead of 8", 2, 0, 6, func(i *impl.Instr) { i.Pred, i.Args[0].Type = 1, 7 }),
		{"a return of something", func(m *impl.Module) { m.Funcs[fullOwn].Blocks[0].Instrs[0].Args = []impl.Operand{wordArg(64, 1)} }, impl.Fault{Code: 6, Func: fullOwn}},
		{"an alloca elsewhere", func(m *impl.Module) {
			b := &m.Funcs[fullEvery].Blocks[4]
			b.Instrs = []impl.Instr{alloca(1), trap()}
		}, impl.Fault{Code: 6, Func: fullEvery, Block: 4}},
	}
	checkTurns(t, append(list, needlessFields()...))
}

// needlessFields: each instruction, with each field set that it does not have.
func needlessFields() []turn {
	var out []turn
	for b, block := range everyOperation().Blocks {
		for n, i := range block.Instrs {
			add := func(name string, do func(i *impl.Instr)) {
				out = append(out, at(name, int64(b), int64(n), 6, do))
			}
			if i.Op > impl.OpXor {
				add("needless flags", func(i *impl.Instr) { i.Flags = 1 })
			}
			if i.Op != impl.OpCompare {
				add("a needless predicate", func(i *impl.Instr) { i.Pred = 1 })
			}
			if i.Op != impl.OpCall {
				add("a needless callee", func(i *impl.Instr) { i.Callee = 1 })
			}
			if i.Op != impl.OpAlloca {
				add("a needless size", func(i *impl.Instr) { i.Size = 1 })
			}
			if i.Op != impl.OpSwitch {
				add("a needless word", func(i *impl.Instr) { i.Words = []uint64{1} })
			}
			if len(i.Blocks) == 0 {
				add("a needless block", func(i *impl.Instr) { i.Blocks = []int64{0} })
			}
		}
	}
	return out
}

func TestFaultsOfBlocksAndPhis(t *testing.T) {
	var list []turn
	for _, block := range []int64{-1, 6, 40, 1 << 32, -1 << 63, 1<<63 - 1} {
		list = append(list,
			at("a jump", 3, 0, 7, func(i *impl.Instr) { i.Blocks[0] = block }),
			at("a branch", 0, firstOf(impl.OpBranch), 7, func(i *impl.Instr) { i.Blocks[1] = block }),
			at("a switch", 1, 0, 7, func(i *impl.Instr) { i.Blocks[3] = block }),
			at("a phi", 2, 1, 7, func(i *impl.Instr) { i.Blocks[0] = block }),
			at("7 ahead of 8", 2, 1, 7, func(i *impl.Instr) { i.Blocks[1] = block; i.Args[0].Kind = 0 }))
	}
	second := func(m *impl.Module) []impl.Instr { return m.Funcs[fullEvery].Blocks[2].Instrs }
	list = append(list, turn{"a phi behind a print", func(m *impl.Module) {
		second(m)[0] = ins(impl.OpPrint, 0, wordArg(64, 1))
		second(m)[1] = phi(64, []int64{0, 1}, wordArg(64, 1), wordArg(64, 2))
	}, impl.Fault{Code: 9, Func: fullEvery, Block: 2, At: 1}}, turn{"8 ahead of 9", func(m *impl.Module) {
		second(m)[0] = ins(impl.OpPrint, 0, wordArg(64, 1))
		second(m)[1].Args[0].Kind = 0
	}, impl.Fault{Code: 8, Func: fullEvery, Block: 2, At: 1}}, turn{"one far behind", func(m *impl.Module) {
		b := m.Funcs[fullEvery].Blocks
		b[2].Instrs = []impl.Instr{second(m)[0], second(m)[1], ins(impl.OpPrint, 0, wordArg(64, 1)), phi(64, []int64{0}, wordArg(64, 1)), phi(64, []int64{0}, wordArg(64, 1)), trap()}
	}, impl.Fault{Code: 9, Func: fullEvery, Block: 2, At: 3}})
	checkTurns(t, list)
}

func TestFaultsOfArguments(t *testing.T) {
	list := []turn{
		inFirst("a word that is none", impl.OpMul, 8, func(i *impl.Instr) { i.Args[1].Word = 256 }),
		inFirst("a word of no type", impl.OpAdd, 8, func(i *impl.Instr) { i.Args[1].Type = 0 }),
		inFirst("a word with a number", impl.OpAdd, 8, func(i *impl.Instr) { i.Args[1].Index = 1 }),
		inFirst("a word of a pointer", impl.OpLoad, 8, func(i *impl.Instr) { i.Args[0] = wordArg(impl.TypePtr, 0) }),
		inFirst("the kind 0", impl.OpAdd, 8, func(i *impl.Instr) { i.Args[1] = impl.Operand{Type: 64} }),
		inFirst("the kind 6", impl.OpAdd, 8, func(i *impl.Instr) { i.Args[1].Kind = 6 }),
		inFirst("the kind -1", impl.OpAdd, 8, func(i *impl.Instr) { i.Args[1].Kind = -1 }),
		inFirst("the null of a number", impl.OpAdd, 8, func(i *impl.Instr) { i.Args[1] = impl.Operand{Kind: impl.OperandNull, Type: 64} }),
		inFirst("null with a word", impl.OpLoad, 8, func(i *impl.Instr) { i.Args[0] = nullArg(); i.Args[0].Word = 1 }),
		inFirst("null with a number", impl.OpLoad, 8, func(i *impl.Instr) { i.Args[0] = nullArg(); i.Args[0].Index = 1 }),
		inFirst("poison with a word", impl.OpURem, 8, func(i *impl.Instr) { i.Args[1].Word = 1 }),
		inFirst("poison with a number", impl.OpURem, 8, func(i *impl.Instr) { i.Args[1].Index = -1 }),
		inFirst("poison of no type", impl.OpStore, 8, func(i *impl.Instr) { i.Args[0] = poisonArg(0) }),
		inFirst("poison of a strange type", impl.OpStore, 8, func(i *impl.Instr) { i.Args[0] = poisonArg(33) }),
		inFirst("a value below 0", impl.OpAdd, 8, func(i *impl.Instr) { i.Args[0].Index = -1 }),
		inFirst("a value that there is not", impl.OpAdd, 8, func(i *impl.Instr) { i.Args[0].Index = 34 }),
		inFirst("a great value", impl.OpAdd, 8, func(i *impl.Instr) { i.Args[0].Index = 1<<63 - 1 }),
		inFirst("a value with a word", impl.OpAdd, 8, func(i *impl.Instr) { i.Args[0].Word = 1 }),
		inFirst("a value of another type", impl.OpAdd, 8, func(i *impl.Instr) { i.Args[0] = valueArg(64, 2) }),
		inFirst("a global below 0", impl.OpOffset, 8, func(i *impl.Instr) { i.Args[0].Index = -1 }),
		inFirst("a global that there is not", impl.OpOffset, 8, func(i *impl.Instr) { i.Args[0].Index = 4 }),
		inFirst("a global with a word", impl.OpOffset, 8, func(i *impl.Instr) { i.Args[0].Word = 1 }),
		inFirst("a global of a number", impl.OpOffset, 8, func(i *impl.Instr) { i.Args[0].Type = 64 }),
		inFirst("a global as a number", impl.OpAdd, 8, func(i *impl.Instr) { i.Args[0] = globalArg(0) }),
		inFirst("arguments of another width", impl.OpAdd, 8, func(i *impl.Instr) { i.Args[0], i.Args[1] = wordArg(32, 1), wordArg(32, 1) }),
		inFirst("the second of another width", impl.OpShl, 8, func(i *impl.Instr) { i.Args[1] = wordArg(8, 1) }),
		inFirst("a compare of two widths", impl.OpCompare, 8, func(i *impl.Instr) { i.Args[1] = wordArg(16, 1) }),
		inFirst("an order of pointers", impl.OpCompare, 8, func(i *impl.Instr) { i.Args[0], i.Args[1] = nullArg(), nullArg() }),
		inFirst("a pointer and a number", impl.OpCompare, 8, func(i *impl.Instr) { i.Pred, i.Args[0] = impl.PredEq, nullArg() }),
		inFirst("a compare of no types", impl.OpCompare, 8, func(i *impl.Instr) { i.Pred, i.Args[0], i.Args[1] = impl.PredEq, poisonArg(7), poisonArg(7) }),
		inFirst("a select by a byte", impl.OpSelect, 8, func(i *impl.Instr) { i.Args[0] = wordArg(8, 1) }),
		inFirst("a select of two types", impl.OpSelect, 8, func(i *impl.Instr) { i.Args[2] = wordArg(64, 1) }),
		inFirst("a greater one to a lesser", impl.OpZExt, 8, func(i *impl.Instr) { i.Args[0] = wordArg(32, 1) }),
		inFirst("one to its own width", impl.OpZExt, 8, func(i *impl.Instr) { i.Args[0] = wordArg(16, 1) }),
		inFirst("a cast of a pointer", impl.OpZExt, 8, func(i *impl.Instr) { i.Args[0] = nullArg() }),
		inFirst("a sign to its own width", impl.OpSExt, 8, func(i *impl.Instr) { i.Args[0] = wordArg(64, 1) }),
		inFirst("a bit cut to a bit", impl.OpTrunc, 8, func(i *impl.Instr) { i.Args[0] = wordArg(1, 1) }),
		inFirst("a pointer cut", impl.OpTrunc, 8, func(i *impl.Instr) { i.Args[0] = poisonArg(impl.TypePtr) }),
		inFirst("cut to all 64 bits", impl.OpTrunc, 8, func(i *impl.Instr) { i.Type = 64 }),
		inFirst("a load through a number", impl.OpLoad, 8, func(i *impl.Instr) { i.Args[0] = wordArg(64, 4096) }),
		inFirst("a store through a number", impl.OpStore, 8, func(i *impl.Instr) { i.Args[1] = wordArg(64, 4096) }),
		inFirst("an offset by a byte", impl.OpOffset, 8, func(i *impl.Instr) { i.Args[1] = wordArg(8, 1) }),
		inFirst("an offset by a pointer", impl.OpOffset, 8, func(i *impl.Instr) { i.Args[1] = nullArg() }),
		inFirst("arguments turned round", impl.OpCall, 8, func(i *impl.Instr) { i.Args[0], i.Args[1] = i.Args[1], i.Args[0] }),
		inFirst("a print of a pointer", impl.OpPrint, 8, func(i *impl.Instr) { i.Args[0] = globalArg(0) }),
		inFirst("a print of a byte", impl.OpPrint, 8, func(i *impl.Instr) { i.Args[0] = wordArg(8, 1) }),
		inFirst("a branch by a byte", impl.OpBranch, 8, func(i *impl.Instr) { i.Args[0] = wordArg(8, 1) }),
		at("a phi of another width", 2, 0, 8, func(i *impl.Instr) { i.Args[1] = wordArg(32, 1) }),
		at("a phi of a pointer and a number", 2, 1, 8, func(i *impl.Instr) { i.Args[1] = wordArg(64, 1) }),
		at("a phi of another type", 2, 0, 8, func(i *impl.Instr) { i.Type = 32 }),
		at("a switch on a pointer", 1, 0, 8, func(i *impl.Instr) { i.Args[0], i.Words, i.Blocks = nullArg(), nil, i.Blocks[:1] }),
		at("a word of the switch", 1, 0, 8, func(i *impl.Instr) { i.Words[1] = 256 }),
		at("the last word of the switch", 1, 0, 8, func(i *impl.Instr) { i.Words[2] = 1 << 63 }),
		at("a switch on a bit", 1, 0, 8, func(i *impl.Instr) { i.Args[0] = valueArg(1, 3) }),
		at("a return of a byte", 5, 1, 8, func(i *impl.Instr) { i.Args[0] = wordArg(8, 1) }),
		at("a return of a pointer", 5, 1, 8, func(i *impl.Instr) { i.Args[0] = nullArg() }),
		{"a return of a number", func(m *impl.Module) { m.Funcs[fullWeak].Blocks[0].Instrs[0].Args[0] = wordArg(64, 1) }, impl.Fault{Code: 8, Func: fullWeak}},
	}
	for pred := int64(impl.PredULt); pred <= impl.PredSGe; pred++ {
		list = append(list, at("pointers in an order", 0, firstOf(impl.OpCompare)+1, 8, func(i *impl.Instr) { i.Pred = pred }))
	}
	checkTurns(t, list)
}

// TestFirstFaultByPlace: of several faults the first place tells, and at one place the first code.
func TestFirstFaultByPlace(t *testing.T) {
	own := func(code int64) impl.Fault { return impl.Fault{Code: code, Func: fullOwn} }
	checkTurns(t, []turn{
		{"an argument ahead of an empty block", func(m *impl.Module) {
			b := m.Funcs[fullEvery].Blocks
			b[1].Instrs[0].Words[1] = 300
			b[2].Instrs = nil
			b[0].Instrs[20].Args[0].Type = 3
		}, impl.Fault{Code: 8, Func: fullEvery, At: 20}},
		{"a phi ahead of a head", func(m *impl.Module) {
			m.Funcs[fullEvery].Blocks[5].Instrs[0].Args[1].Word = 0
			m.Funcs[fullEvery].Blocks[5].Instrs[0].Args[1].Kind = 9
			m.Funcs[fullOwn].Name = ""
		}, impl.Fault{Code: 8, Func: fullEvery, Block: 5}},
		{"a head ahead of its body", func(m *impl.Module) {
			m.Funcs[fullOwn].Blocks[0].Instrs = nil
			m.Funcs[fullOwn].Result = 5
		}, impl.Fault{Code: 3, Func: fullOwn, Block: -1, At: -1}},
		{"a body ahead of the next", func(m *impl.Module) {
			m.Funcs[fullOwn].Blocks[0].Instrs[0] = jump(1)
			m.Funcs[fullWeak].Blocks = nil
		}, own(7)},
		{"the callee's fault comes behind", func(m *impl.Module) {
			m.Funcs[fullWeak].Result = 7
			m.Funcs[fullEvery].Blocks[0].Instrs[firstOf(impl.OpCall)+3].Type = 7
		}, impl.Fault{Code: 3, Func: fullWeak, Block: -1, At: -1}},
		{"nothing alike", func(m *impl.Module) { m.Funcs[fullOwn].Blocks[0].Instrs[0] = impl.Instr{Op: 99, Type: -1} }, own(4)},
	})
}
