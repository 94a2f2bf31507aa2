package tests

import (
	"math/big"
	"slices"

	"loop.example/g00010/impl"
)

// longWay is how many steps at one instruction the teller of folding takes one by one, and how many times it goes on behind them.
const longWay = 2000

// wantFold is Fold of a well-made function, step by step. An instruction at which the steps lead back to the function as it is stays so while the others have their turns, and is then tried again.
// What takes too long to tell is not told.
func wantFold(f impl.Func) (folded impl.Func, told bool) {
	var over []int64
	changed := false
	for range longWay {
		_, rule, value := wantStepBut(f, over)
		if rule == 0 && !changed {
			return f, true
		}
		if rule == 0 {
			over, changed = nil, false
			continue
		}
		to, back, told := wantRun(f, over, value)
		switch {
		case !told:
			return f, false
		case back:
			over = append(over, value)
			continue
		}
		if len(impl.ValueTypes(to)) < len(impl.ValueTypes(f)) {
			for n, v := range over {
				if v > value {
					over[n]--
				}
			}
		}
		f, changed = to, true
	}
	return f, false
}

// wantRun are the steps at a value by rule 8, one behind the other, until there is none or another value has its turn; or else the one step by another rule.
// If they lead back to the function as it was, they lead nowhere; if they lead back to another one, it is the first step alone.
func wantRun(f impl.Func, over []int64, value int64) (to impl.Func, back, told bool) {
	first, rule, _ := wantStepBut(f, over)
	if rule != 8 {
		return first, false, true
	}
	now, mark := f, impl.Func{}
	for n := range longWay {
		next, rule, at := wantStepBut(now, over)
		switch {
		case rule != 8 || at != value:
			return now, false, true
		case alike(next, f):
			return f, true, true
		case alike(next, mark):
			return first, false, true
		}
		if n&(n+1) == 0 {
			mark = next
		}
		now = next
		if n%64 == 63 {
			now = wantLeap(now, over, value)
		}
	}
	return f, false, false
}

func instrOf(f impl.Func, value int64) impl.Instr {
	at := impl.DefinedAt(f, value)
	return f.Blocks[at.Block].Instrs[at.At]
}

// withWord is a function with another word as the second argument of what defines a value.
func withWord(f impl.Func, value int64, v uint64) impl.Func {
	f = deepCopy(f)
	instrOf(f, value).Args[1].Word = v
	return f
}

// wantRound are the steps at an offset until its first argument is what it was; signs are those of its word behind each step. Empty if it does not come to that.
func wantRound(f impl.Func, over []int64, value int64) (to impl.Func, signs []int) {
	from := instrOf(f, value).Args[0]
	for range 50 {
		next, rule, at := wantStepBut(f, over)
		if rule != 8 || at != value {
			return f, nil
		}
		f = next
		i := instrOf(f, value)
		signs = append(signs, bigSigned(64, i.Args[1].Word).Sign())
		if i.Args[0] == from {
			return f, signs
		}
	}
	return f, nil
}

// wantLeap leaves out as many rounds of an offset as are all alike: the word grows by as much in each,
// and what comes to pass hangs on whether it is below, at or above some number; so if a round far off is like the first, then so are all between.
func wantLeap(f impl.Func, over []int64, value int64) impl.Func {
	if instrOf(f, value).Op != impl.OpOffset {
		return f
	}
	to, signs := wantRound(f, over, value)
	from := bigSigned(64, instrOf(f, value).Args[1].Word)
	by := new(big.Int).Sub(bigSigned(64, instrOf(to, value).Args[1].Word), from)
	for j := 63; j >= 0 && len(signs) > 0; j-- {
		far := new(big.Int).Add(from, new(big.Int).Lsh(by, uint(j)))
		if !far.IsInt64() {
			continue
		}
		there := withWord(f, value, wordOf(64, far))
		if _, other := wantRound(there, over, value); slices.Equal(signs, other) {
			f, from = there, far
		}
	}
	return f
}
