package heap_test

import (
	"math"
	"math/rand"
	"strconv"
	"testing"

	"concordat/api"
	"concordat/heap"
)

func value(kind int, n int64) heap.Value { return heap.Value{Kind: kind, N: n} }

// P21.1
func TestFirst(t *testing.T) {
	if heap.Null != 0 || heap.Int != 1 || heap.Bool != 2 || heap.Object != 3 {
		t.Error("the kinds of values")
	}
	for kind, want := range map[string]heap.Value{"int": value(heap.Int, 0), "boolean": value(heap.Bool, 0), "": {}, "A": {}, "void": {}, "null": {}, "Int": {}, "bool": {}} {
		if got := heap.First(kind); got != want {
			t.Errorf("First(%q) = %v, want %v", kind, got, want)
		}
	}
}

// P21.1
func TestMake(t *testing.T) {
	h := heap.New()
	if h.Many() != 0 {
		t.Error(h.Many())
	}
	for i := range api.MaxObject {
		v, e := h.Make("c" + strconv.Itoa(i%3))
		if v != value(heap.Object, int64(i)+1) || e != api.OK || h.Many() != i+1 {
			t.Fatalf("object %d: %v, %d", i, v, e)
		}
	}
	for range 2 {
		if v, e := h.Make("A"); v != (heap.Value{}) || e != api.ErrLimit || h.Many() != api.MaxObject {
			t.Errorf("one too many: %v, %d", v, e)
		}
	}
	for n, want := range map[int64]string{1: "c0", 2: "c1", 10000: "c0", 0: "", -1: "", 10001: "", math.MaxInt64: "", math.MinInt64: ""} {
		if got, is := h.Class(value(heap.Object, n)); got != want || is != (want != "") {
			t.Errorf("Class of object %d = %q, %t", n, got, is)
		}
	}
	for _, kind := range []int{heap.Null, heap.Int, heap.Bool, 4, -1} {
		if got, is := h.Class(value(kind, 1)); got != "" || is {
			t.Errorf("Class of the kind %d = %q, %t", kind, got, is)
		}
	}
	h = heap.New()
	v, _ := h.Make("")
	if got, is := h.Class(v); got != "" || !is {
		t.Errorf("%q, %t", got, is)
	}
}

// P21.2
func TestGetAndSet(t *testing.T) {
	h := heap.New()
	a, _ := h.Make("A")
	b, _ := h.Make("A")
	static := value(heap.Int, 0)
	get := func(v heap.Value, id, kind string, want heap.Value) {
		t.Helper()
		if got, e := h.Get(v, id, kind); got != want || e != api.OK {
			t.Errorf("Get(%v, %q, %q) = %v, %d, want %v", v, id, kind, got, e, want)
		}
	}
	get(a, "A.f", "int", value(heap.Int, 0))
	get(a, "A.f", "boolean", value(heap.Bool, 0))
	get(a, "A.f", "A", heap.Value{})
	get(static, "A.f", "int", value(heap.Int, 0))
	for i, x := range []heap.Value{value(heap.Int, 7), value(heap.Object, 99), {}, value(17, -4)} {
		if e := h.Set(a, "A.f", x); e != api.OK {
			t.Error(i, e)
		}
		get(a, "A.f", "boolean", x)
		get(b, "A.f", "int", value(heap.Int, 0))
		get(a, "A.g", "int", value(heap.Int, 0))
		get(static, "A.f", "boolean", value(heap.Bool, 0))
	}
	h.Set(static, "A.f", a)
	h.Set(b, "", b)
	get(static, "A.f", "int", a)
	get(b, "", "int", b)
	get(static, "", "int", value(heap.Int, 0))
	for _, c := range []struct {
		v heap.Value
		e api.Errno
	}{
		{heap.Value{}, api.ErrNull}, {value(heap.Null, 1), api.ErrNull}, {value(heap.Null, -5), api.ErrNull},
		{value(heap.Object, 0), api.ErrNull}, {value(heap.Object, 3), api.ErrNull}, {value(heap.Object, -1), api.ErrNull}, {value(heap.Object, math.MaxInt64), api.ErrNull}, {value(heap.Object, math.MinInt64), api.ErrNull},
		{value(heap.Int, 1), api.ErrArg}, {value(heap.Int, -1), api.ErrArg}, {value(heap.Bool, 0), api.ErrArg}, {value(heap.Bool, 1), api.ErrArg}, {value(4, 0), api.ErrArg}, {value(-1, 1), api.ErrArg},
	} {
		if got, e := h.Get(c.v, "A.f", "int"); got != (heap.Value{}) || e != c.e {
			t.Errorf("Get(%v) = %v, %d, want %d", c.v, got, e, c.e)
		}
		if e := h.Set(c.v, "A.f", a); e != c.e {
			t.Errorf("Set(%v) = %d, want %d", c.v, e, c.e)
		}
	}
	get(a, "A.f", "int", value(17, -4))
	if h.Many() != 2 {
		t.Error(h.Many())
	}
}

// P21.3
func TestShow(t *testing.T) {
	for v, want := range map[heap.Value]string{
		value(heap.Int, 0): "0", value(heap.Int, -7): "-7", value(heap.Int, 1<<31): "-2147483648", value(heap.Int, 1<<32+1): "1",
		value(heap.Bool, 1): "true", value(heap.Bool, 0): "false", value(heap.Bool, 2): "false", value(heap.Bool, -1): "false",
		value(heap.Object, 1): "object", value(heap.Object, 0): "object", value(heap.Object, -1): "object",
		{}: "null", value(heap.Null, 1): "null", value(4, 1): "null", value(-1, 1): "null",
	} {
		if got := heap.Show(v); got != want {
			t.Errorf("Show(%v) = %q, want %q", v, got, want)
		}
	}
}

// P21.3
func TestNil(t *testing.T) {
	var h *heap.Heap
	if v, e := h.Make("A"); v != (heap.Value{}) || e != api.ErrArg {
		t.Error(v, e)
	}
	for _, v := range []heap.Value{{}, value(heap.Int, 0), value(heap.Object, 1), value(heap.Bool, 1)} {
		if x, e := h.Get(v, "A.f", "int"); x != (heap.Value{}) || e != api.ErrArg {
			t.Error(x, e)
		}
		if e := h.Set(v, "A.f", v); e != api.ErrArg {
			t.Error(e)
		}
		if s, is := h.Class(v); s != "" || is {
			t.Error(s, is)
		}
	}
	if h.Many() != 0 {
		t.Error(h.Many())
	}
	// A heap that New did not make.
	var zero heap.Heap
	if e := zero.Set(value(heap.Int, 0), "A.f", value(heap.Bool, 1)); e != api.OK {
		t.Error(e)
	}
	if v, e := zero.Get(value(heap.Int, 0), "A.f", "int"); v != value(heap.Bool, 1) || e != api.OK {
		t.Error(v, e)
	}
}

// P21.4, and that two heaps have nothing in common.
func TestConsequence(t *testing.T) {
	r := rand.New(rand.NewSource(19))
	h, other := heap.New(), heap.New()
	places := []heap.Value{value(heap.Int, 0)}
	for range 4 {
		v, _ := h.Make("A")
		other.Make("A")
		places = append(places, v)
	}
	type key struct {
		v  heap.Value
		id string
	}
	stored := map[key]heap.Value{}
	for range 1000 {
		k := key{places[r.Intn(5)], []string{"A.f", "A.g", "B.f"}[r.Intn(3)]}
		x := value(r.Intn(4), r.Int63n(5))
		h.Set(k.v, k.id, x)
		stored[k] = x
		for k, want := range stored {
			if got, e := h.Get(k.v, k.id, "int"); got != want || e != api.OK {
				t.Fatalf("%v is %v, not %v", k, got, want)
			}
			if got, _ := other.Get(k.v, k.id, "int"); got != value(heap.Int, 0) {
				t.Fatal("two heaps share memory")
			}
		}
	}
}
