package tests

import (
	"math/big"
	"strings"

	"loop.example/g00010/impl"
)

// row is one of the document's table of instructions. In args stand: T the instruction's own type, X that of the
// first argument, A any type, W a width, < and > a lesser and a greater width, P a pointer, 1 and 6 the widths 1
// and 64, R the function's result (nothing if it is none), C the callee's parameters, * any number of T.
type row struct {
	result string
	args   string
	blocks int
	flags  int64
}

var table = map[int64]row{
	impl.OpAdd: {result: "W", args: "TT", flags: 3}, impl.OpSub: {result: "W", args: "TT", flags: 3}, impl.OpMul: {result: "W", args: "TT", flags: 3},
	impl.OpUDiv: {result: "W", args: "TT", flags: 4}, impl.OpSDiv: {result: "W", args: "TT", flags: 4}, impl.OpURem: {result: "W", args: "TT"}, impl.OpSRem: {result: "W", args: "TT"},
	impl.OpShl: {result: "W", args: "TT", flags: 3}, impl.OpLShr: {result: "W", args: "TT", flags: 4}, impl.OpAShr: {result: "W", args: "TT", flags: 4},
	impl.OpAnd: {result: "W", args: "TT"}, impl.OpOr: {result: "W", args: "TT"}, impl.OpXor: {result: "W", args: "TT"},
	impl.OpCompare: {result: "1", args: "XX"},
	impl.OpSelect:  {result: "A", args: "1TT"},
	impl.OpZExt:    {result: "W", args: "<"}, impl.OpSExt: {result: "W", args: "<"}, impl.OpTrunc: {result: "W", args: ">"},
	impl.OpPhi:    {result: "A", args: "*"},
	impl.OpAlloca: {result: "P"},
	impl.OpLoad:   {result: "A", args: "P"},
	impl.OpStore:  {args: "AP"},
	impl.OpOffset: {result: "P", args: "P6"},
	impl.OpCall:   {result: "C", args: "C"},
	impl.OpPrint:  {args: "6"},
	impl.OpJump:   {blocks: 1},
	impl.OpBranch: {args: "1", blocks: 2},
	impl.OpSwitch: {args: "W"},
	impl.OpReturn: {args: "R"},
	impl.OpTrap:   {},
}

func isType(t int64) bool {
	switch t {
	case 1, 8, 16, 32, 64, 65:
		return true
	}
	return false
}

func isWidth(t int64) bool {
	return isType(t) && t != 65
}

func fitsLetter(letter byte, t int64, i impl.Instr) bool {
	switch letter {
	case 'T':
		return t == i.Type
	case 'X':
		return t == i.Args[0].Type && (isWidth(t) || t == 65 && i.Pred <= impl.PredNe)
	case 'A':
		return isType(t)
	case 'W':
		return isWidth(t)
	case '<':
		return isWidth(t) && t < i.Type
	case '>':
		return isWidth(t) && t > i.Type
	case 'P':
		return t == 65
	case '1':
		return t == 1
	}
	return t == 64
}

// wantTypes are the letters of the arguments, or types of a function where the table speaks of them.
func wantTypes(m impl.Module, f impl.Func, i impl.Instr) (letters string, types []int64) {
	switch letters = table[i.Op].args; letters {
	case "C":
		if 0 <= i.Callee && i.Callee < int64(len(m.Funcs)) {
			return "", m.Funcs[i.Callee].Params
		}
		return "", nil
	case "R":
		if f.Result == 0 {
			return "", nil
		}
		return "", []int64{f.Result}
	case "*":
		return strings.Repeat("T", max(1, len(i.Args))), nil
	}
	return letters, nil
}

func differ(words []uint64) bool {
	seen := map[uint64]bool{}
	for _, w := range words {
		seen[w] = true
	}
	return len(seen) == len(words)
}

func fieldsAsTable(m impl.Module, f impl.Func, block int64, i impl.Instr) bool {
	r := table[i.Op]
	rest := i
	rest.Args, rest.Blocks, rest.Words = nil, nil, nil
	rest.Op, rest.Type = 0, 0
	blocks, words := r.blocks, 0
	switch i.Op {
	case impl.OpCompare:
		rest.Pred = 0
		if i.Pred < 1 || i.Pred > 10 {
			return false
		}
	case impl.OpAlloca:
		rest.Size = 0
		if block != 0 || i.Size < 1 || i.Size > 256 {
			return false
		}
	case impl.OpCall:
		rest.Callee = 0
		if i.Callee < 0 || i.Callee >= int64(len(m.Funcs)) || i.Type != m.Funcs[i.Callee].Result {
			return false
		}
	case impl.OpSwitch:
		words, blocks = len(i.Words), len(i.Words)+1
		if words > 12 || !differ(i.Words) {
			return false
		}
	case impl.OpPhi:
		blocks = len(i.Args)
	}
	for _, flag := range []int64{1, 2, 4} {
		rest.Flags &^= r.flags & flag
	}
	if rest.Flags != 0 || rest.Pred != 0 || rest.Callee != 0 || rest.Size != 0 || len(i.Blocks) != blocks || len(i.Words) != words {
		return false
	}
	if r.result == "" && i.Type != 0 || r.result != "" && r.result != "C" && !fitsLetter(r.result[0], i.Type, i) {
		return false
	}
	letters, types := wantTypes(m, f, i)
	return len(i.Args) == len(letters)+len(types)
}

func isOperandOf(m impl.Module, types []int64, o impl.Operand) bool {
	switch {
	case o.Kind < 1 || o.Kind > 5:
		return false
	case o.Kind == impl.OperandWord:
		return o.Index == 0 && isWidth(o.Type) && bigWord(o.Word).Cmp(power(o.Type)) < 0
	case o.Word != 0:
		return false
	case o.Kind == impl.OperandValue:
		return o.Index >= 0 && o.Index < int64(len(types)) && types[o.Index] == o.Type
	case o.Kind == impl.OperandGlobal:
		return o.Index >= 0 && o.Index < int64(len(m.Globals)) && o.Type == 65
	case o.Kind == impl.OperandNull:
		return o.Index == 0 && o.Type == 65
	}
	return o.Index == 0 && isType(o.Type)
}

func argumentsAsTable(m impl.Module, f impl.Func, values []int64, i impl.Instr) bool {
	letters, types := wantTypes(m, f, i)
	for n, o := range i.Args {
		if !isOperandOf(m, values, o) || len(letters) > 0 && !fitsLetter(letters[n], o.Type, i) || len(types) > 0 && types[n] != o.Type {
			return false
		}
	}
	for _, w := range i.Words {
		if bigWord(w).Cmp(power(i.Args[0].Type)) >= 0 {
			return false
		}
	}
	return true
}

func wantCode(m impl.Module, f impl.Func, values []int64, block int, at int) int64 {
	list := f.Blocks[block].Instrs
	i := list[at]
	if _, known := table[i.Op]; (at == len(list)-1) != (known && i.Op >= impl.OpJump) {
		return 4
	} else if !known {
		return 5
	}
	if !fieldsAsTable(m, f, int64(block), i) {
		return 6
	}
	for _, b := range i.Blocks {
		if b < 0 || b >= int64(len(f.Blocks)) {
			return 7
		}
	}
	if !argumentsAsTable(m, f, values, i) {
		return 8
	}
	for _, earlier := range list[:at] {
		if i.Op == impl.OpPhi && earlier.Op != impl.OpPhi {
			return 9
		}
	}
	return 0
}

// wantValues are all values of a function: their types, and where they are defined.
func wantValues(f impl.Func) ([]int64, []impl.Place) {
	var types []int64
	var places []impl.Place
	for _, t := range f.Params {
		types, places = append(types, t), append(places, impl.Place{Block: -1, At: -1})
	}
	for b := range f.Blocks {
		for at, i := range f.Blocks[b].Instrs {
			if i.Type != 0 {
				types, places = append(types, i.Type), append(places, impl.Place{Block: int64(b), At: int64(at)})
			}
		}
	}
	return types, places
}

func wantUses(f impl.Func, value int64) []impl.Place {
	var out []impl.Place
	for b := range f.Blocks {
		for at, i := range f.Blocks[b].Instrs {
			count := 0
			for _, o := range i.Args {
				if o.Kind == impl.OperandValue && o.Index == value {
					count++
				}
			}
			if count > 0 {
				out = append(out, impl.Place{Block: int64(b), At: int64(at)})
			}
		}
	}
	return out
}

func wantName(name string) bool {
	const first = "abcdefghijklmnopqrstuvwxyzABCDEFGHIJKLMNOPQRSTUVWXYZ_.$"
	return name != "" && len(name) <= 24 && allIn(name[:1], first) && allIn(name, first+"0123456789")
}

func allIn(name, letters string) bool {
	for _, c := range []byte(name) {
		if strings.IndexByte(letters, c) < 0 {
			return false
		}
	}
	return true
}

func headAsWanted(m impl.Module, fn int) bool {
	f := m.Funcs[fn]
	for _, g := range m.Globals {
		if g.Name == f.Name {
			return false
		}
	}
	for _, other := range m.Funcs[:fn] {
		if other.Name == f.Name {
			return false
		}
	}
	if !wantName(f.Name) || f.Link < 0 || f.Link > 3 || len(f.Params) > 6 || f.Result != 0 && !isType(f.Result) {
		return false
	}
	for _, t := range f.Params {
		if !isType(t) {
			return false
		}
	}
	count, frame := 0, new(big.Int)
	for _, b := range f.Blocks {
		count += len(b.Instrs)
		for _, i := range b.Instrs {
			if i.Op == impl.OpAlloca && i.Size > 0 {
				frame.Add(frame, big.NewInt(i.Size))
			}
		}
	}
	if (f.Link == impl.LinkExtern) == (len(f.Blocks) > 0) || len(f.Blocks) > 40 {
		return false
	}
	return count <= 256 && frame.Cmp(big.NewInt(512)) <= 0
}

func globalAsWanted(m impl.Module, at int) bool {
	g := m.Globals[at]
	for _, other := range m.Globals[:at] {
		if other.Name == g.Name {
			return false
		}
	}
	if g.Link == impl.LinkExtern && len(g.Bytes) > 0 {
		return false
	}
	return wantName(g.Name) && g.Link >= 0 && g.Link <= 3 && g.Size >= 1 && g.Size <= 256 && int64(len(g.Bytes)) <= g.Size
}

// wantFault is the first fault by the words of the document.
func wantFault(m impl.Module) impl.Fault {
	if len(m.Globals) > 12 || len(m.Funcs) > 12 {
		return impl.Fault{Code: 1, Func: -1, Block: -1, At: -1}
	}
	for at := range m.Globals {
		if !globalAsWanted(m, at) {
			return impl.Fault{Code: 2, Func: -1, Block: -1, At: int64(at)}
		}
	}
	for fn, f := range m.Funcs {
		if !headAsWanted(m, fn) {
			return impl.Fault{Code: 3, Func: int64(fn), Block: -1, At: -1}
		}
		values, _ := wantValues(f)
		for b := range f.Blocks {
			if len(f.Blocks[b].Instrs) == 0 {
				return impl.Fault{Code: 4, Func: int64(fn), Block: int64(b), At: -1}
			}
			for at := range f.Blocks[b].Instrs {
				if code := wantCode(m, f, values, b, at); code != 0 {
					return impl.Fault{Code: code, Func: int64(fn), Block: int64(b), At: int64(at)}
				}
			}
		}
	}
	return impl.Fault{}
}
