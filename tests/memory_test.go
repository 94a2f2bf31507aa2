package tests

import (
	"cmp"
	"reflect"
	"slices"
	"testing"
)

// stretch is the memory of one list, up to its capacity.
type stretch struct {
	from, to uintptr
}

// stretches are those of all lists in a thing, the lists in lists too.
func stretches(v reflect.Value) []stretch {
	var out []stretch
	switch v.Kind() {
	case reflect.Slice:
		if size := uintptr(v.Cap()) * v.Type().Elem().Size(); size > 0 {
			out = append(out, stretch{v.Pointer(), v.Pointer() + size})
		}
		for i := range v.Len() {
			out = append(out, stretches(v.Index(i))...)
		}
	case reflect.Struct:
		for i := range v.NumField() {
			out = append(out, stretches(v.Field(i))...)
		}
	}
	return out
}

// sharesMemory: two lists of the answer, or one of the answer and one of the argument, have memory in common.
func sharesMemory(answer, argument any) bool {
	type owned struct {
		stretch
		mine bool
	}
	var all []owned
	for _, s := range stretches(reflect.ValueOf(answer)) {
		all = append(all, owned{s, true})
	}
	if len(all) == 0 {
		return false
	}
	for _, s := range stretches(reflect.ValueOf(argument)) {
		all = append(all, owned{s, false})
	}
	slices.SortFunc(all, func(a, b owned) int { return cmp.Compare(a.from, b.from) })
	// Lists of the argument may lie over one another: what counts is how far each side has come.
	var mineTo, otherTo uintptr
	for _, s := range all {
		if s.from < mineTo || s.mine && s.from < otherTo {
			return true
		}
		if s.mine {
			mineTo = s.to
		} else {
			otherTo = max(otherTo, s.to)
		}
	}
	return false
}

// deepCopy shares no memory with what it copies; nil stays nil.
func deepCopy[T any](thing T) T {
	out := reflect.New(reflect.TypeOf(thing)).Elem()
	copyInto(out, reflect.ValueOf(thing))
	return out.Interface().(T)
}

func copyInto(to, from reflect.Value) {
	switch from.Kind() {
	case reflect.Slice:
		if from.IsNil() {
			return
		}
		to.Set(reflect.MakeSlice(from.Type(), from.Len(), from.Len()))
		for i := range from.Len() {
			copyInto(to.Index(i), from.Index(i))
		}
	case reflect.Struct:
		for i := range from.NumField() {
			copyInto(to.Field(i), from.Field(i))
		}
	default:
		to.Set(from)
	}
}

// alike holds an empty list and nil to be the same value.
func alike(a, b any) bool {
	return alikeValues(reflect.ValueOf(a), reflect.ValueOf(b))
}

func alikeValues(a, b reflect.Value) bool {
	if a.Type() != b.Type() {
		return false
	}
	switch a.Kind() {
	case reflect.Slice:
		if a.Len() != b.Len() {
			return false
		}
		for i := range a.Len() {
			if !alikeValues(a.Index(i), b.Index(i)) {
				return false
			}
		}
		return true
	case reflect.Struct:
		for i := range a.NumField() {
			if !alikeValues(a.Field(i), b.Field(i)) {
				return false
			}
		}
		return true
	}
	return a.Interface() == b.Interface()
}

// overwrite puts other things into all numbers of all lists of an answer.
func overwrite(v reflect.Value) {
	switch v.Kind() {
	case reflect.Slice:
		for i := range v.Len() {
			overwrite(v.Index(i))
		}
	case reflect.Struct:
		for i := range v.NumField() {
			overwrite(v.Field(i))
		}
	case reflect.Int64:
		if v.CanSet() {
			v.SetInt(v.Int() + 77)
		}
	case reflect.Uint8, reflect.Uint64:
		if v.CanSet() {
			v.SetUint(v.Uint() ^ 77)
		}
	}
}

// checkPure asks a function twice at an argument, and holds it to promise 1.
func checkPure[A, B any](t *testing.T, name string, argument A, ask func(A) B) {
	t.Helper()
	before := deepCopy(argument)
	answer := ask(argument)
	if !reflect.DeepEqual(argument, before) {
		t.Error(name, "changes its argument", before, "to", argument)
	}
	if sharesMemory(answer, argument) {
		t.Error(name, "shares memory:", argument, answer)
	}
	kept := deepCopy(answer)
	overwrite(reflect.ValueOf(answer))
	if again := ask(before); !alike(again, kept) {
		t.Error(name, "answers", kept, "and then", again)
	}
	if !reflect.DeepEqual(argument, before) {
		t.Error(name, "hands out its argument", before)
	}
}

func TestMemoryHelpers(t *testing.T) {
	list := []int64{1, 2, 3}
	if !sharesMemory(list[:1], list[2:]) || !sharesMemory(list, list[1:]) || sharesMemory(deepCopy(list), list) || !sharesMemory([][]int64{list, list[1:]}, 0) || sharesMemory([]int64{}, list) {
		t.Error("sharesMemory")
	}
	m := fullModule()
	if sharesMemory(deepCopy(m), m) || !alike(deepCopy(m), m) || len(stretches(reflect.ValueOf(m))) < 60 {
		t.Error("deepCopy")
	}
	other := deepCopy(m)
	other.Funcs[2].Blocks[1].Instrs[0].Words[2]++
	if alike(other, m) || !alike([]int64{}, []int64(nil)) {
		t.Error("alike")
	}
}
