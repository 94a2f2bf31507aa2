package tests

import (
	"reflect"
	"testing"

	"loop.example/g00010/impl"
)

func (s *sequence) below(n int) int {
	return int(s.next() % uint64(n))
}

// numbersToPut turn something in most fields.
var numbersToPut = []int64{-1 << 63, -1, 0, 1, 2, 3, 4, 5, 6, 7, 8, 12, 13, 14, 16, 19, 20, 21, 25, 27, 29, 30, 31, 32, 33, 64, 65, 66, 255, 256, 257, 512, 513, 1<<63 - 1}

// leaves adds all numbers, texts, bools and lists in a thing, the lists with their parts.
func leaves(v reflect.Value, out []reflect.Value) []reflect.Value {
	switch v.Kind() {
	case reflect.Struct:
		for i := range v.NumField() {
			out = leaves(v.Field(i), out)
		}
		return out
	case reflect.Slice:
		for i := range v.Len() {
			out = leaves(v.Index(i), out)
		}
	}
	return append(out, v)
}

// turnSomething changes one number, text, bool or list of a module.
func turnSomething(s *sequence, m *impl.Module) {
	all := leaves(reflect.ValueOf(m).Elem(), make([]reflect.Value, 0, 2000))
	v := all[s.below(len(all))]
	number := numbersToPut[s.below(len(numbersToPut))]
	switch v.Kind() {
	case reflect.Int64:
		if s.below(2) == 0 {
			number = v.Int() + int64(s.below(3)) - 1
		}
		v.SetInt(number)
	case reflect.Uint8:
		v.SetUint(uint64(uint8(number)))
	case reflect.Uint64:
		v.SetUint(uint64(number))
	case reflect.Bool:
		v.SetBool(!v.Bool())
	case reflect.String:
		v.SetString([]string{"", "table", "own", "every", "$x", "1x", "x y", "abcdefghijklmnopqrstuvwxy"}[s.below(8)])
	case reflect.Slice:
		turnList(s, v)
	}
}

// turnList leaves one out, has one twice, or changes two.
func turnList(s *sequence, v reflect.Value) {
	list := reflect.MakeSlice(v.Type(), 0, v.Len()+1)
	if v.Len() == 0 {
		v.Set(reflect.Append(list, reflect.Zero(v.Type().Elem())))
		return
	}
	way, a, b := s.below(4), s.below(v.Len()), s.below(v.Len())
	for i := range v.Len() {
		one := v.Index(i)
		if way == 2 && i == a {
			one = v.Index(b)
		} else if way == 2 && i == b {
			one = v.Index(a)
		}
		if way != 0 || i != a {
			list = reflect.Append(list, deepValue(one))
		}
		if way == 1 && i == a {
			list = reflect.Append(list, deepValue(one))
		}
	}
	if way == 3 {
		list = list.Slice(0, b)
	}
	v.Set(list)
}

func deepValue(v reflect.Value) reflect.Value {
	out := reflect.New(v.Type()).Elem()
	copyInto(out, v)
	return out
}

// TestShapeFaultOfManyModules holds the faults of modules turned at random against the words of the document.
func TestShapeFaultOfManyModules(t *testing.T) {
	s := sequence(2)
	codes := map[int64]int{}
	for n := range 20000 {
		m := fullModule()
		for range 1 + s.below(3) {
			turnSomething(&s, &m)
		}
		got, want := impl.ShapeFault(m), wantFault(m)
		if got != want {
			t.Fatalf("module %d gives %v, not %v: %+v", n, got, want, m)
		}
		codes[want.Code]++
	}
	for code := int64(0); code <= 9; code++ {
		if code != 1 && code != 9 && codes[code] < 50 {
			t.Error("the fault", code, "came", codes[code], "times")
		}
	}
}

// TestModulesAreLeftAlone is promise 1 for what asks about one module, function, type or name.
func TestModulesAreLeftAlone(t *testing.T) {
	s := sequence(5)
	for range 400 {
		m := fullModule()
		for range s.below(4) {
			turnSomething(&s, &m)
		}
		checkPure(t, "ShapeFault", m, impl.ShapeFault)
		for _, f := range m.Funcs {
			value, block, at := int64(s.below(40))-2, int64(s.below(8))-1, int64(s.below(40))-1
			checkPure(t, "ValueTypes", f, impl.ValueTypes)
			checkPure(t, "UsesOf", f, func(f impl.Func) []impl.Place { return impl.UsesOf(f, value) })
			checkPure(t, "DefinedAt", f, func(f impl.Func) impl.Place { return impl.DefinedAt(f, value) })
			checkPure(t, "ResultOf", f, func(f impl.Func) int64 { return impl.ResultOf(f, block, at) })
		}
	}
	for _, n := range strange {
		checkPure(t, "ValidType", n, impl.ValidType)
		checkPure(t, "SizeOf", n, impl.SizeOf)
		checkPure(t, "IsEnd", n, impl.IsEnd)
	}
	checkPure(t, "ValidName", "a$1", impl.ValidName)
}

// TestValueTypesAreNewMemory: parameters with room behind them are not written to.
func TestValueTypesAreNewMemory(t *testing.T) {
	room := []int64{64, 8, 7, 7, 7, 7}
	f := sumFunc()
	f.Params = room[:1]
	checkPure(t, "ValueTypes", f, impl.ValueTypes)
	checkPure(t, "ValueTypes", impl.Func{Params: room[:2]}, impl.ValueTypes)
	if room[1] != 8 || room[2] != 7 {
		t.Error("what lies behind the parameters is", room[1:])
	}
}
