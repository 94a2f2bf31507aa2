package tests

import "loop.example/g00010/impl"

func wordArg(t int64, v uint64) impl.Operand {
	return impl.Operand{Kind: impl.OperandWord, Type: t, Word: v}
}

func valueArg(t int64, n int64) impl.Operand {
	return impl.Operand{Kind: impl.OperandValue, Type: t, Index: n}
}

func globalArg(n int64) impl.Operand {
	return impl.Operand{Kind: impl.OperandGlobal, Type: impl.TypePtr, Index: n}
}

func poisonArg(t int64) impl.Operand {
	return impl.Operand{Kind: impl.OperandPoison, Type: t}
}

func nullArg() impl.Operand {
	return impl.Operand{Kind: impl.OperandNull, Type: impl.TypePtr}
}

func ins(op int64, t int64, args ...impl.Operand) impl.Instr {
	return impl.Instr{Op: op, Type: t, Args: args}
}

func withFlags(i impl.Instr, flags int64) impl.Instr {
	i.Flags = flags
	return i
}

func compare(pred int64, x, y impl.Operand) impl.Instr {
	return impl.Instr{Op: impl.OpCompare, Type: 1, Pred: pred, Args: []impl.Operand{x, y}}
}

func alloca(size int64) impl.Instr {
	return impl.Instr{Op: impl.OpAlloca, Type: impl.TypePtr, Size: size}
}

func call(callee int64, t int64, args ...impl.Operand) impl.Instr {
	return impl.Instr{Op: impl.OpCall, Type: t, Callee: callee, Args: args}
}

func phi(t int64, blocks []int64, args ...impl.Operand) impl.Instr {
	return impl.Instr{Op: impl.OpPhi, Type: t, Args: args, Blocks: blocks}
}

func jump(block int64) impl.Instr {
	return impl.Instr{Op: impl.OpJump, Blocks: []int64{block}}
}

func branch(x impl.Operand, yes, no int64) impl.Instr {
	return impl.Instr{Op: impl.OpBranch, Args: []impl.Operand{x}, Blocks: []int64{yes, no}}
}

func switchOn(x impl.Operand, words []uint64, blocks ...int64) impl.Instr {
	return impl.Instr{Op: impl.OpSwitch, Args: []impl.Operand{x}, Words: words, Blocks: blocks}
}

func ret(args ...impl.Operand) impl.Instr {
	return impl.Instr{Op: impl.OpReturn, Args: args}
}

func trap() impl.Instr {
	return impl.Instr{Op: impl.OpTrap}
}

func block(list ...impl.Instr) impl.Block {
	return impl.Block{Instrs: list}
}

// function is strong and without parameters.
func function(name string, result int64, blocks ...impl.Block) impl.Func {
	return impl.Func{Name: name, Link: impl.LinkStrong, Result: result, Blocks: blocks}
}

func modules(list ...impl.Module) []impl.Module {
	return list
}

func ofFuncs(list ...impl.Func) impl.Module {
	return impl.Module{Funcs: list}
}

func ofGlobals(list ...impl.Global) impl.Module {
	return impl.Module{Globals: list}
}

// The numbers of the functions of fullModule.
const (
	fullHelp = iota
	fullTell
	fullEvery
	fullOwn
	fullWeak
)

// fullModule has each operation, each kind of operand and each link in it, in the right shape.
func fullModule() impl.Module {
	return impl.Module{
		Globals: []impl.Global{
			{Name: "table", Link: impl.LinkStrong, Fixed: true, Size: 4, Bytes: []byte{1, 2, 3, 4}},
			{Name: "far", Link: impl.LinkExtern, Size: 8},
			{Name: "spare", Link: impl.LinkWeak, Size: 16, Bytes: []byte{9}},
			{Name: "own.g", Link: impl.LinkLocal, Size: 256},
		},
		Funcs: []impl.Func{
			{Name: "help", Link: impl.LinkExtern, Params: []int64{64, impl.TypePtr}, Result: 64},
			{Name: "tell", Link: impl.LinkExtern, Params: []int64{1}},
			everyOperation(),
			{Name: "own", Link: impl.LinkLocal, Params: []int64{1, 8, 16, 32, 64, 65}, Blocks: []impl.Block{block(ret())}},
			{Name: "weak", Link: impl.LinkWeak, Result: impl.TypePtr, Blocks: []impl.Block{block(ret(globalArg(3)))}},
		},
	}
}

// everyOperation has the parameters 0 to 3, a number, a pointer, a byte and a bit; its values follow in the comments.
func everyOperation() impl.Func {
	f := function("every", 64)
	f.Params = []int64{64, impl.TypePtr, 8, 1}
	n, p, b, bit := valueArg(64, 0), valueArg(impl.TypePtr, 1), valueArg(8, 2), valueArg(1, 3)
	f.Blocks = []impl.Block{
		block(
			alloca(16), // 4
			alloca(256),
			withFlags(ins(impl.OpAdd, 64, n, wordArg(64, 1)), 3), // 6
			withFlags(ins(impl.OpSub, 64, n, valueArg(64, 6)), 1),
			withFlags(ins(impl.OpMul, 8, b, wordArg(8, 255)), 2),
			withFlags(ins(impl.OpUDiv, 8, b, b), 4),
			withFlags(ins(impl.OpSDiv, 8, b, wordArg(8, 3)), 4), // 10
			ins(impl.OpURem, 8, b, poisonArg(8)),
			ins(impl.OpSRem, 64, n, wordArg(64, 7)),
			withFlags(ins(impl.OpShl, 64, n, wordArg(64, 2)), 3),
			withFlags(ins(impl.OpLShr, 64, n, wordArg(64, 2)), 4),
			withFlags(ins(impl.OpAShr, 64, n, wordArg(64, 2)), 4), // 15
			ins(impl.OpAnd, 1, bit, wordArg(1, 1)),
			ins(impl.OpOr, 1, bit, bit),
			ins(impl.OpXor, 32, wordArg(32, 5), poisonArg(32)),
			compare(impl.PredSGe, b, wordArg(8, 4)),
			compare(impl.PredEq, p, nullArg()),                            // 20
			compare(impl.PredNe, valueArg(impl.TypePtr, 4), globalArg(2)), // 21
			ins(impl.OpSelect, impl.TypePtr, bit, p, globalArg(0)),        // 22
			ins(impl.OpZExt, 16, b), ins(impl.OpSExt, 64, bit),            // 23, 24
			ins(impl.OpTrunc, 1, n), ins(impl.OpLoad, 32, p), // 25, 26
			ins(impl.OpStore, 0, valueArg(32, 26), globalArg(1)),
			ins(impl.OpStore, 0, nullArg(), valueArg(impl.TypePtr, 4)),
			ins(impl.OpOffset, impl.TypePtr, globalArg(3), n), // 27
			call(fullHelp, 64, n, valueArg(impl.TypePtr, 27)), // 28
			call(fullTell, 0, bit),
			call(fullEvery, 64, n, p, b, bit), // 29
			call(fullWeak, impl.TypePtr),      // 30
			ins(impl.OpPrint, 0, valueArg(64, 28)), branch(bit, 1, 2)),
		block(switchOn(b, []uint64{0, 255, 7}, 2, 3, 4, 3)),
		block(phi(64, []int64{0, 1}, n, valueArg(64, 29)), // 31
			phi(impl.TypePtr, []int64{0, 1}, nullArg(), globalArg(1)), // 32
			switchOn(valueArg(64, 31), nil, 5)),
		block(jump(5)),
		block(trap()),
		block(phi(64, []int64{2, 3}, valueArg(64, 31), wordArg(64, 11)), // 33
			ret(valueArg(64, 33))),
	}
	return f
}

// sumFunc adds up the numbers below its argument, with phis that reach forward.
func sumFunc() impl.Func {
	f := function("sum", 64,
		block(jump(1)),
		block(phi(64, []int64{0, 2}, wordArg(64, 0), valueArg(64, 5)), phi(64, []int64{0, 2}, wordArg(64, 0), valueArg(64, 4)),
			compare(impl.PredULt, valueArg(64, 1), valueArg(64, 0)), branch(valueArg(1, 3), 2, 3)),
		block(ins(impl.OpAdd, 64, valueArg(64, 2), valueArg(64, 1)), ins(impl.OpAdd, 64, valueArg(64, 1), wordArg(64, 1)), jump(1)),
		block(ret(valueArg(64, 2))))
	f.Params = []int64{64}
	return f
}
