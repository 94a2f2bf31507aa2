package tests

import (
	"encoding/hex"
	"fmt"
	"math/big"
	"regexp"
	"strconv"
	"strings"

	"loop.example/g00010/impl"
)

var nameOfType = map[int64]string{0: "void", 1: "i1", 8: "i8", 16: "i16", 32: "i32", 64: "i64", 65: "ptr"}

var nameOfOp = map[int64]string{
	1: "add", 2: "sub", 3: "mul", 4: "udiv", 5: "sdiv", 6: "urem", 7: "srem", 8: "shl", 9: "lshr", 10: "ashr", 11: "and", 12: "or", 13: "xor",
	14: "cmp", 15: "select", 16: "zext", 17: "sext", 18: "trunc",
	20: "phi", 21: "alloca", 22: "load", 23: "store", 24: "offset", 25: "call", 26: "print", 27: "jump", 28: "branch", 29: "switch", 30: "return", 31: "trap",
}

var nameOfPred = map[int64]string{1: "eq", 2: "ne", 3: "ult", 4: "ule", 5: "ugt", 6: "uge", 7: "slt", 8: "sle", 9: "sgt", 10: "sge"}

var nameOfLink = []string{"extern", "strong", "weak", "local"}

// formOfOp is the document's table of lines; what is not in it is an operation.
var formOfOp = map[int64]string{
	impl.OpCompare: "cmp PRED FIRST ARGS", impl.OpSelect: "select TYPE ARGS",
	impl.OpZExt: "zext FIRST ARGS to TYPE", impl.OpSExt: "sext FIRST ARGS to TYPE", impl.OpTrunc: "trunc FIRST ARGS to TYPE",
	impl.OpPhi: "phi TYPE PAIRS", impl.OpAlloca: "alloca SIZE", impl.OpLoad: "load TYPE ARGS", impl.OpStore: "store FIRST ARGS", impl.OpOffset: "offset ARGS",
	impl.OpCall: "call TYPE @CALLEE(ARGS)", impl.OpPrint: "print ARGS",
	impl.OpJump: "jump GOALS", impl.OpBranch: "branch ARGS, GOALS", impl.OpSwitch: "switch FIRST ARGS, CASES", impl.OpReturn: "return FIRST ARGS", impl.OpTrap: "trap",
}

// wantWordText is the text of a word of a width, by numbers without bounds.
func wantWordText(t int64, v uint64) string {
	if !isWidth(t) || bigWord(v).Cmp(power(t)) >= 0 {
		return ""
	}
	if t == 1 {
		return bigWord(v).String()
	}
	return bigSigned(t, v).String()
}

func wantOperandText(m impl.Module, o impl.Operand) string {
	switch {
	case o.Kind == impl.OperandWord:
		return wantWordText(o.Type, o.Word)
	case o.Kind == impl.OperandNull:
		return "null"
	case o.Kind == impl.OperandPoison:
		return "poison"
	case o.Kind == impl.OperandValue:
		return fmt.Sprint("%", o.Index)
	case o.Kind == impl.OperandGlobal && o.Index >= 0 && o.Index < int64(len(m.Globals)):
		return "@" + m.Globals[o.Index].Name
	}
	return ""
}

// wantLine is an instruction of a module in the right shape, without the value that it defines.
func wantLine(m impl.Module, i impl.Instr) string {
	form := formOfOp[i.Op]
	if form == "" {
		form = nameOfOp[i.Op] + []string{"", " nsw", " nuw", " nuw nsw", " exact"}[i.Flags] + " TYPE ARGS"
	}
	if i.Op == impl.OpReturn && len(i.Args) == 0 {
		return "return"
	}
	var args, goals, pairs, cases []string
	first := ""
	for n, o := range i.Args {
		args = append(args, wantOperandText(m, o))
		if n == 0 {
			first = nameOfType[o.Type]
		}
		if i.Op == impl.OpPhi {
			pairs = append(pairs, fmt.Sprintf("[%s, %d]", args[n], i.Blocks[n]))
		}
	}
	for n, b := range i.Blocks {
		goals = append(goals, fmt.Sprint(b))
		if n == 0 {
			cases = append(cases, fmt.Sprint(b))
		} else if i.Op == impl.OpSwitch {
			cases = append(cases, fmt.Sprintf("%s: %d", wantWordText(i.Args[0].Type, i.Words[n-1]), b))
		}
	}
	callee := ""
	if i.Op == impl.OpCall {
		callee = m.Funcs[i.Callee].Name
	}
	comma := func(list []string) string { return strings.Join(list, ", ") }
	return strings.NewReplacer("PRED", nameOfPred[i.Pred], "FIRST", first, "ARGS", comma(args), "TYPE", nameOfType[i.Type], "PAIRS", comma(pairs),
		"SIZE", fmt.Sprint(i.Size), "CALLEE", callee, "GOALS", comma(goals), "CASES", comma(cases)).Replace(form)
}

// wantLines are the lines of a function's instructions, by block, as FormatInstr tells them.
func wantLines(m impl.Module, f impl.Func) [][]string {
	var out [][]string
	value := len(f.Params)
	for _, b := range f.Blocks {
		var lines []string
		for _, i := range b.Instrs {
			line := wantLine(m, i)
			if i.Type != 0 {
				line = fmt.Sprintf("%%%d = %s", value, line)
				value++
			}
			lines = append(lines, line)
		}
		out = append(out, lines)
	}
	return out
}

// wantText is the text of a module in the right shape.
func wantText(m impl.Module) string {
	var text strings.Builder
	for _, g := range m.Globals {
		fixed := map[bool]string{true: " fixed"}[g.Fixed]
		fmt.Fprintf(&text, "global @%s %s%s %d", g.Name, nameOfLink[g.Link], fixed, g.Size)
		if len(g.Bytes) > 0 {
			fmt.Fprintf(&text, " %x", g.Bytes)
		}
		text.WriteString("\n")
	}
	for _, f := range m.Funcs {
		var params []string
		for _, t := range f.Params {
			params = append(params, nameOfType[t])
		}
		fmt.Fprintf(&text, "func @%s %s (%s) %s", f.Name, nameOfLink[f.Link], strings.Join(params, ", "), nameOfType[f.Result])
		if f.Link == impl.LinkExtern {
			text.WriteString("\n")
			continue
		}
		text.WriteString(" {\n")
		for b, lines := range wantLines(m, f) {
			fmt.Fprintf(&text, "%d:\n", b)
			for _, line := range lines {
				text.WriteString("  " + line + "\n")
			}
		}
		text.WriteString("}\n")
	}
	return text.String()
}

// pattern takes a line's form: T a type, N a number, W a word, O an operand, G a name; each is a group.
func pattern(form string) *regexp.Regexp {
	const name = `[A-Za-z_.$][A-Za-z_.$0-9]{0,23}`
	const word = `-?[1-9][0-9]*|0`
	return regexp.MustCompile("^" + strings.NewReplacer("T", "(void|i1|i8|i16|i32|i64|ptr)", "N", "([1-9][0-9]*|0)", "W", "("+word+")",
		"O", "(null|poison|%(?:[1-9][0-9]*|0)|@"+name+"|"+word+")", "G", "("+name+")", "L", "(strong|weak|local)").Replace(form) + "$")
}

var (
	globalLine = pattern(`global @G (extern|strong|weak|local)( fixed)? N(?: ([0-9a-f]+))?`)
	headLine   = pattern(`func @G L \(((?:\w+(?:, \w+)*)?)\) T {`)
	externLine = pattern(`func @G (extern) \(((?:\w+(?:, \w+)*)?)\) T`)
	definition = pattern(`  %N = (.*)`)
	operandAll = pattern(`O`)
	pairForm   = pattern(`\[O, N\]`)
	caseForm   = pattern(`W: N`)
)

// linePatterns are by the first word of a line.
var linePatterns = func() map[string]*regexp.Regexp {
	out := map[string]*regexp.Regexp{
		"cmp": pattern(`cmp (\w+) T O, O`), "select": pattern(`select T O, O, O`),
		"zext": pattern(`zext T O to T`), "sext": pattern(`sext T O to T`), "trunc": pattern(`trunc T O to T`),
		"phi": pattern(`phi T (\[.*\])`), "alloca": pattern(`alloca N`), "load": pattern(`load T O`), "store": pattern(`store T O, O`), "offset": pattern(`offset O, O`),
		"call": pattern(`call T @G\((.*)\)`), "print": pattern(`print O`),
		"jump": pattern(`jump N`), "branch": pattern(`branch O, N, N`), "switch": pattern(`switch T O, N((?:, .*)?)`), "return": pattern(`return(?: T O)?`), "trap": pattern(`trap`),
	}
	for op := int64(1); op <= 13; op++ {
		out[nameOfOp[op]] = pattern(nameOfOp[op] + `( nuw)?( nsw)?( exact)? T O, O`)
	}
	return out
}()

// strictReader is another reader: it takes each line by its pattern, and stops at what is not as it should be.
type strictReader struct {
	m       impl.Module
	globals map[string]int64
	funcs   map[string]int64
	failed  bool
}

func (r *strictReader) must(holds bool) {
	r.failed = r.failed || !holds
}

func (r *strictReader) match(p *regexp.Regexp, line string) []string {
	groups := p.FindStringSubmatch(line)
	r.must(groups != nil)
	if groups == nil {
		return make([]string, 9)
	}
	return groups
}

func numberOf[N comparable](r *strictReader, names map[int64]N, name N) int64 {
	for number, n := range names {
		if n == name {
			return number
		}
	}
	r.must(false)
	return -1
}

func (r *strictReader) typ(name string) int64 {
	return numberOf(r, nameOfType, name)
}

func (r *strictReader) number(text string) int64 {
	n, err := strconv.ParseInt(text, 10, 64)
	r.must(err == nil)
	return n
}

func (r *strictReader) word(t int64, text string) uint64 {
	n, ok := new(big.Int).SetString(text, 10)
	if !ok || !isWidth(t) {
		r.must(false)
		return 0
	}
	low, high := new(big.Int).Neg(power(t-1)), power(t-1)
	if t == 1 {
		low, high = big.NewInt(0), big.NewInt(2)
	}
	r.must(low.Cmp(n) <= 0 && n.Cmp(high) < 0)
	return wordOf(t, n)
}

func (r *strictReader) operand(t int64, text string) impl.Operand {
	r.match(operandAll, text)
	switch {
	case text == "null":
		return impl.Operand{Kind: impl.OperandNull, Type: t}
	case text == "poison":
		return impl.Operand{Kind: impl.OperandPoison, Type: t}
	case strings.HasPrefix(text, "%"):
		return impl.Operand{Kind: impl.OperandValue, Type: t, Index: r.number(text[1:])}
	case strings.HasPrefix(text, "@"):
		at, known := r.globals[text[1:]]
		r.must(known)
		return impl.Operand{Kind: impl.OperandGlobal, Type: t, Index: at}
	}
	return impl.Operand{Kind: impl.OperandWord, Type: t, Word: r.word(t, text)}
}

func (r *strictReader) operands(texts []string, types ...int64) []impl.Operand {
	r.must(len(texts) == len(types))
	var out []impl.Operand
	for n, text := range texts {
		if n < len(types) {
			out = append(out, r.operand(types[n], text))
		}
	}
	return out
}

func (r *strictReader) instr(line string) impl.Instr {
	word, _, _ := strings.Cut(line, " ")
	p := linePatterns[word]
	if p == nil {
		r.must(false)
		return impl.Instr{}
	}
	g := r.match(p, line)
	i := impl.Instr{Op: numberOf(r, nameOfOp, word)}
	if r.failed {
		return i
	}
	switch i.Op {
	case impl.OpCompare:
		i.Type, i.Pred = 1, numberOf(r, nameOfPred, g[1])
		i.Args = r.operands(g[3:], r.typ(g[2]), r.typ(g[2]))
	case impl.OpSelect:
		i.Type = r.typ(g[1])
		i.Args = r.operands(g[2:], 1, i.Type, i.Type)
	case impl.OpZExt, impl.OpSExt, impl.OpTrunc:
		i.Type, i.Args = r.typ(g[3]), r.operands(g[2:3], r.typ(g[1]))
	case impl.OpPhi:
		i.Type = r.typ(g[1])
		for _, pair := range strings.Split(strings.ReplaceAll(g[2], "], [", "]\n["), "\n") {
			of := r.match(pairForm, pair)
			i.Args, i.Blocks = append(i.Args, r.operand(i.Type, of[1])), append(i.Blocks, r.number(of[2]))
		}
	case impl.OpAlloca:
		i.Type, i.Size = impl.TypePtr, r.number(g[1])
	case impl.OpLoad:
		i.Type, i.Args = r.typ(g[1]), r.operands(g[2:], impl.TypePtr)
	case impl.OpStore:
		i.Args = r.operands(g[2:], r.typ(g[1]), impl.TypePtr)
	case impl.OpOffset:
		i.Type, i.Args = impl.TypePtr, r.operands(g[1:], impl.TypePtr, 64)
	case impl.OpCall:
		callee, known := r.funcs[g[2]]
		i.Type, i.Callee = r.typ(g[1]), callee
		if r.must(known); known && (g[3] != "" || len(r.m.Funcs[callee].Params) > 0) {
			i.Args = r.operands(strings.Split(g[3], ", "), r.m.Funcs[callee].Params...)
		}
	case impl.OpPrint:
		i.Args = r.operands(g[1:], 64)
	case impl.OpJump:
		i.Blocks = []int64{r.number(g[1])}
	case impl.OpBranch:
		i.Args, i.Blocks = r.operands(g[1:2], 1), []int64{r.number(g[2]), r.number(g[3])}
	case impl.OpSwitch:
		i.Args, i.Blocks = r.operands(g[2:3], r.typ(g[1])), []int64{r.number(g[3])}
		for _, one := range strings.Split(g[4], ", ")[1:] {
			of := r.match(caseForm, one)
			i.Words, i.Blocks = append(i.Words, r.word(r.typ(g[1]), of[1])), append(i.Blocks, r.number(of[2]))
		}
	case impl.OpReturn:
		if g[1] != "" {
			i.Args = r.operands(g[2:], r.typ(g[1]))
		}
	case impl.OpTrap:
	default:
		for n, flag := range []int64{impl.FlagNUW, impl.FlagNSW, impl.FlagExact} {
			if g[1+n] != "" {
				i.Flags += flag
			}
		}
		i.Type = r.typ(g[4])
		i.Args = r.operands(g[5:], i.Type, i.Type)
	}
	return i
}

// body reads the lines of a function up to its end, and gives those behind it.
func (r *strictReader) body(f *impl.Func, lines []string) []string {
	value := int64(len(f.Params))
	for n, line := range lines {
		if line == "}" {
			return lines[n+1:]
		}
		if line == fmt.Sprint(len(f.Blocks), ":") {
			f.Blocks = append(f.Blocks, impl.Block{})
			continue
		}
		defines := strings.HasPrefix(line, "  %")
		if defines {
			g := r.match(definition, line)
			r.must(g[1] == fmt.Sprint(value))
			value++
			line = "  " + g[2]
		}
		r.must(strings.HasPrefix(line, "  ") && len(f.Blocks) > 0)
		if r.failed {
			return nil
		}
		i := r.instr(line[2:])
		r.must(defines == (i.Type != 0))
		last := &f.Blocks[len(f.Blocks)-1]
		last.Instrs = append(last.Instrs, i)
	}
	r.must(false)
	return nil
}

func (r *strictReader) heads(lines []string) {
	for _, line := range lines {
		switch {
		case strings.HasPrefix(line, "global "):
			g := r.match(globalLine, line)
			size := r.number(g[4])
			one := impl.Global{Name: g[1], Link: indexOf(nameOfLink, g[2]), Fixed: g[3] != "", Size: size}
			list, err := hex.DecodeString(g[5])
			r.must(err == nil)
			one.Bytes = list
			r.globals[g[1]] = int64(len(r.m.Globals))
			r.m.Globals = append(r.m.Globals, one)
			r.must(len(r.m.Funcs) == 0)
		case strings.HasPrefix(line, "func "):
			p := headLine
			if !strings.HasSuffix(line, "{") {
				p = externLine
			}
			g := r.match(p, line)
			f := impl.Func{Name: g[1], Link: indexOf(nameOfLink, g[2]), Result: r.typ(g[4])}
			for _, name := range strings.Split(g[3], ", ") {
				if g[3] != "" {
					f.Params = append(f.Params, r.typ(name))
				}
			}
			r.funcs[g[1]] = int64(len(r.m.Funcs))
			r.m.Funcs = append(r.m.Funcs, f)
		}
	}
}

func indexOf(list []string, text string) int64 {
	for n, one := range list {
		if one == text {
			return int64(n)
		}
	}
	return -1
}

// wantRead reads a text by the words of the document.
func wantRead(text string) impl.ReadResult {
	if text == "" || len(text) > 200000 || !strings.HasSuffix(text, "\n") {
		return impl.ReadResult{}
	}
	lines := strings.Split(strings.TrimSuffix(text, "\n"), "\n")
	r := strictReader{globals: map[string]int64{}, funcs: map[string]int64{}}
	r.heads(lines)
	fn := 0
	for len(lines) > 0 && !r.failed {
		line := lines[0]
		lines = lines[1:]
		if r.must(strings.HasPrefix(line, "global ") || strings.HasPrefix(line, "func ")); strings.HasPrefix(line, "func ") {
			if strings.HasSuffix(line, "{") {
				lines = r.body(&r.m.Funcs[fn], lines)
			}
			fn++
		}
	}
	if r.failed || wantFault(r.m) != (impl.Fault{}) {
		return impl.ReadResult{}
	}
	return impl.ReadResult{Good: true, Module: r.m}
}
