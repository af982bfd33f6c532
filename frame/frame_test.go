package frame_test

import (
	"math"
	"strings"
	"testing"

	"hopmesh/api"
	"hopmesh/frame"
)

// lastSlot is 2^40 / 10000, rounded down.
const lastSlot = 109951162

// data, ack, beacon, message and call return a valid frame of each kind, of messages with a target and without one.
func data() api.Frame {
	return api.Frame{Kind: 1, Source: 2, Target: 1, List: 3, Sequence: 4, Flow: 5, Number: 600, Data: "data"}
}

func ack() api.Frame {
	return api.Frame{Kind: 2, Source: 2, Target: 1, List: 3, Sequence: 4, Error: -1}
}

func beacon() api.Frame {
	return api.Frame{Kind: 3, Source: 2, Target: -1, List: 3, Sequence: 4, Slot: 70000000, Rank: 256, Epoch: 9, Data: "offer"}
}

func message() api.Frame {
	return api.Frame{Kind: 4, Source: 2, Target: 1, List: 3, Sequence: 4, Data: "message"}
}

func call() api.Frame {
	return api.Frame{Kind: 4, Source: 2, Target: -1, List: 3, Sequence: 4, Data: "call"}
}

// kinds returns a frame of each kind.
func kinds() map[string]api.Frame {
	return map[string]api.Frame{"data": data(), "ack": ack(), "beacon": beacon(), "message": message(), "call": call()}
}

// with returns a frame that is changed.
func with(f api.Frame, change func(*api.Frame)) api.Frame {
	change(&f)
	return f
}

// member is a number of a frame, with its range and the kinds for which it is named.
type member struct {
	name        string
	least, most int
	kinds       string
	of          func(*api.Frame) *int
}

// members returns all numbers but Kind and Target.
func members() []member {
	return []member{
		{"Source", 0, 31, "data ack beacon message call", func(f *api.Frame) *int { return &f.Source }},
		{"List", 0, 255, "data ack beacon message call", func(f *api.Frame) *int { return &f.List }},
		{"Sequence", 0, 255, "data ack beacon message call", func(f *api.Frame) *int { return &f.Sequence }},
		{"Flow", 0, 255, "data", func(f *api.Frame) *int { return &f.Flow }},
		{"Number", 0, 65535, "data", func(f *api.Frame) *int { return &f.Number }},
		{"Error", -32768, 32767, "ack", func(f *api.Frame) *int { return &f.Error }},
		{"Slot", 0, lastSlot, "beacon", func(f *api.Frame) *int { return &f.Slot }},
		{"Rank", 0, 65535, "beacon", func(f *api.Frame) *int { return &f.Rank }},
		{"Epoch", 0, 65535, "beacon", func(f *api.Frame) *int { return &f.Epoch }},
	}
}

// good returns valid frames that can be sent.
func good() map[string]api.Frame {
	frames := kinds()
	for kind, f := range kinds() {
		for _, m := range members() {
			if !strings.Contains(m.kinds, kind) {
				continue
			}
			for name, n := range map[string]int{"least": m.least, "0": 0, "most": m.most} {
				frames[kind+", "+name+" "+m.name] = with(f, func(f *api.Frame) { *m.of(f) = n })
			}
		}
		if f.Target != -1 {
			frames[kind+" to 0"] = with(f, func(f *api.Frame) { f.Target = 0 })
			frames[kind+" to 31"] = with(f, func(f *api.Frame) { f.Target = 31 })
		}
		if kind != "ack" {
			frames[kind+" without data"] = with(f, func(f *api.Frame) { f.Data = "" })
			frames[kind+" with bytes"] = with(f, func(f *api.Frame) { f.Data = "\x00\xff\x80" })
		}
	}
	return frames
}

// long returns valid frames that cannot be sent.
func long() map[string]api.Frame {
	frames := map[string]api.Frame{}
	for kind, f := range kinds() {
		if kind == "ack" {
			continue
		}
		for name, n := range map[string]int{"one byte too many": room(f) + 1, "126 bytes": 126, "127 bytes": 127, "128 bytes": 128, "4095 bytes": 4095, "4096 bytes": 4096, "more than MaxData bytes": api.MaxData + 1} {
			frames[kind+", "+name] = with(f, func(f *api.Frame) { f.Data = strings.Repeat("x", n) })
		}
	}
	return frames
}

// room returns how many bytes of data a frame can have at most.
func room(f api.Frame) int {
	return map[bool]map[int]int{true: {1: 117, 4: 120}, false: {3: 113, 4: 121}}[f.Target != -1][f.Kind]
}

// bad returns frames that are not valid.
func bad() map[string]api.Frame {
	frames := map[string]api.Frame{"nothing": {}}
	for kind, f := range kinds() {
		for _, m := range members() {
			set := func(n int) api.Frame { return with(f, func(f *api.Frame) { *m.of(f) = n }) }
			if strings.Contains(m.kinds, kind) {
				frames[kind+", below "+m.name], frames[kind+", above "+m.name] = set(m.least-1), set(m.most+1)
			} else {
				frames[kind+", "+m.name+" of 1"], frames[kind+", "+m.name+" of -1"], frames[kind+", most "+m.name] = set(1), set(-1), set(m.most)
			}
			frames[kind+", a small "+m.name], frames[kind+", a great "+m.name] = set(math.MinInt), set(math.MaxInt)
		}
		for name, target := range map[string]int{"the source": f.Source, "-2": -2, "32": 32, "a small node": math.MinInt, "a great node": math.MaxInt} {
			frames[kind+" to "+name] = with(f, func(f *api.Frame) { f.Target = target })
		}
		for name, k := range map[string]int{"0": 0, "5": 5, "-1": -1, "a small number": math.MinInt, "a great number": math.MaxInt} {
			frames[kind+", but of the kind "+name] = with(f, func(f *api.Frame) { f.Kind = k })
		}
	}
	frames["a beacon to 0"] = with(beacon(), func(f *api.Frame) { f.Target = 0 })
	frames["a beacon to 1"] = with(beacon(), func(f *api.Frame) { f.Target = 1 })
	frames["a beacon to 31"] = with(beacon(), func(f *api.Frame) { f.Target = 31 })
	frames["data to all"] = with(data(), func(f *api.Frame) { f.Target = -1 })
	frames["an acknowledgement to all"] = with(ack(), func(f *api.Frame) { f.Target = -1 })
	frames["an acknowledgement with data"] = with(ack(), func(f *api.Frame) { f.Data = "a" })
	frames["an acknowledgement with a byte 0"] = with(ack(), func(f *api.Frame) { f.Data = "\x00" })
	frames["not valid, and too long"] = with(data(), func(f *api.Frame) { f.Rank, f.Data = 1, strings.Repeat("x", 1000) })
	frames["an acknowledgement that is too long"] = with(ack(), func(f *api.Frame) { f.Data = strings.Repeat("x", 1000) })
	return frames
}

func TestCheck(t *testing.T) {
	for name, f := range good() {
		if e := frame.Check(f); e != api.OK {
			t.Errorf("%s: error %d", name, e)
		}
	}
	for name, f := range long() {
		if e := frame.Check(f); e != api.OK {
			t.Errorf("%s: error %d", name, e)
		}
	}
	for name, f := range bad() {
		if e := frame.Check(f); e != api.ErrArg {
			t.Errorf("%s: error %d", name, e)
		}
	}
}

func TestTime(t *testing.T) {
	for _, c := range []struct {
		name string
		f    api.Frame
		want int
	}{
		{"an acknowledgement", ack(), 832}, {"another one", with(ack(), func(f *api.Frame) { f.Source, f.List, f.Error = 31, 255, 32767 }), 832},
		{"data without data", of(data(), 0), 32 * 16}, {"the longest data", of(data(), 117), 32 * 133}, {"ordinary data", of(data(), 4), 32 * 20},
		{"a beacon without data", of(beacon(), 0), 32 * 20}, {"the longest beacon", of(beacon(), 113), 32 * 133},
		{"a message without data", of(message(), 0), 32 * 13}, {"the longest message", of(message(), 120), 32 * 133},
		{"a call without data", of(call(), 0), 32 * 12}, {"the longest call", of(call(), 121), 32 * 133}, {"one byte less", of(call(), 120), 32 * 132},
	} {
		if got, e := frame.Time(c.f); got != c.want || e != api.OK {
			t.Errorf("%s: %d, error %d, want %d", c.name, got, e, c.want)
		}
	}
}

// of returns a frame with n bytes of data.
func of(f api.Frame, n int) api.Frame {
	f.Data = strings.Repeat("d", n)
	return f
}

func TestRoom(t *testing.T) {
	for kind, f := range kinds() {
		if kind == "ack" {
			if got, e := frame.Room(f); got != 0 || e != api.ErrArg {
				t.Errorf("an acknowledgement: %d, error %d", got, e)
			}
			continue
		}
		for n := range room(f) + 1 {
			if got, e := frame.Room(of(f, n)); got != room(f)-n || e != api.OK {
				t.Errorf("%s with %d bytes: %d, error %d", kind, n, got, e)
			}
		}
	}
}

func TestErrorsOfTimeAndRoom(t *testing.T) {
	for name, f := range bad() {
		if got, e := frame.Time(f); got != 0 || e != api.ErrArg {
			t.Errorf("the time of %s: %d, error %d", name, got, e)
		}
		if got, e := frame.Room(f); got != 0 || e != api.ErrArg {
			t.Errorf("the room of %s: %d, error %d", name, got, e)
		}
	}
	for name, f := range long() {
		if got, e := frame.Time(f); got != 0 || e != api.ErrTooLarge {
			t.Errorf("the time of %s: %d, error %d", name, got, e)
		}
		if got, e := frame.Room(f); got != 0 || e != api.ErrTooLarge {
			t.Errorf("the room of %s: %d, error %d", name, got, e)
		}
	}
}

func TestAck(t *testing.T) {
	for _, f := range []api.Frame{data(), message(), of(data(), 0), of(message(), 500)} {
		for _, list := range []int{0, 1, 200, 255} {
			for _, difference := range []int{-32768, -1, 0, 1, 40, 32767} {
				want := api.Frame{Kind: 2, Source: 1, Target: 2, List: list, Sequence: 4, Error: difference}
				if got, e := frame.Ack(f, list, difference); got != want || e != api.OK {
					t.Errorf("%v, %d, %d: %v, error %d", f, list, difference, got, e)
				}
			}
		}
	}
	ends := with(data(), func(f *api.Frame) { f.Source, f.Target, f.Sequence = 0, 31, 255 })
	if got, e := frame.Ack(ends, 9, 8); got != (api.Frame{Kind: 2, Source: 31, Target: 0, List: 9, Sequence: 255, Error: 8}) || e != api.OK {
		t.Errorf("%v, error %d", got, e)
	}
}

func TestErrorsOfAck(t *testing.T) {
	frames := bad()
	for name, f := range map[string]api.Frame{"an acknowledgement": ack(), "a beacon": beacon(), "a message without a target": call()} {
		frames[name] = f
	}
	for name, f := range frames {
		for _, n := range []int{0, -1, math.MaxInt} {
			if got, e := frame.Ack(f, n, n); got != (api.Frame{}) || e != api.ErrArg {
				t.Errorf("%s, %d: %v, error %d", name, n, got, e)
			}
		}
	}
	for _, f := range []api.Frame{data(), message()} {
		for _, c := range [][2]int{{-1, 0}, {256, 0}, {math.MinInt, 0}, {math.MaxInt, 0}, {0, -32769}, {0, 32768}, {255, math.MinInt}, {255, math.MaxInt}, {-1, 40000}} {
			if got, e := frame.Ack(f, c[0], c[1]); got != (api.Frame{}) || e != api.ErrRange {
				t.Errorf("%v, %v: %v, error %d", f, c, got, e)
			}
		}
	}
}

func TestAnswers(t *testing.T) {
	for _, f := range []api.Frame{data(), message(), of(data(), 117), of(message(), 500)} {
		for _, list := range []int{0, 7, 255} {
			for _, difference := range []int{-32768, 0, 5, 32767} {
				right, _ := frame.Ack(f, list, difference)
				if !frame.Answers(f, right) {
					t.Errorf("%v is not answered by %v", f, right)
				}
			}
		}
		right, _ := frame.Ack(f, 3, 5)
		for name, change := range changes() {
			if frame.Answers(f, with(right, change)) {
				t.Errorf("%v is answered by %v, with %s", f, right, name)
			}
			if frame.Answers(with(f, change), right) {
				t.Errorf("%v, with %s, is answered by %v", f, name, right)
			}
		}
		if frame.Answers(right, f) || frame.Answers(right, right) || frame.Answers(f, f) {
			t.Errorf("%v answers, or %v is answered", f, right)
		}
	}
}

// changes returns changes of a frame from 2 to 1 and of its acknowledgement, behind which this is no pair any more.
func changes() map[string]func(*api.Frame) {
	return map[string]func(*api.Frame){
		"kind 3": func(f *api.Frame) { f.Kind = 3 }, "no kind": func(f *api.Frame) { f.Kind = 0 }, "kind 5": func(f *api.Frame) { f.Kind = 5 },
		"source 3": func(f *api.Frame) { f.Source = 3 }, "target 3": func(f *api.Frame) { f.Target = 3 }, "no target": func(f *api.Frame) { f.Target = -1 }, "source 32": func(f *api.Frame) { f.Source = 32 },
		"both exchanged": func(f *api.Frame) { f.Source, f.Target = f.Target, f.Source }, "the source alone": func(f *api.Frame) { f.Source = f.Target },
		"sequence 5": func(f *api.Frame) { f.Sequence = 5 }, "sequence 260": func(f *api.Frame) { f.Sequence = 260 }, "list -1": func(f *api.Frame) { f.List = -1 }, "list 256": func(f *api.Frame) { f.List = 256 },
		"a slot": func(f *api.Frame) { f.Slot = 1 }, "a rank": func(f *api.Frame) { f.Rank = 1 }, "an epoch": func(f *api.Frame) { f.Epoch = 1 }, "a great error": func(f *api.Frame) { f.Error = 32768 },
	}
}

func TestAnswersOfOtherFields(t *testing.T) {
	f := data()
	right, _ := frame.Ack(f, 3, 5)
	for name, a := range map[string]api.Frame{
		"data": with(right, func(f *api.Frame) { f.Data = "d" }), "a flow": with(right, func(f *api.Frame) { f.Flow = 5 }), "a number": with(right, func(f *api.Frame) { f.Number = 600 }),
		"nothing": {}, "a great difference": with(right, func(f *api.Frame) { f.Error = 32768 }), "a small difference": with(right, func(f *api.Frame) { f.Error = -32769 }), "a beacon": beacon(), "a call": call(),
	} {
		if frame.Answers(f, a) {
			t.Errorf("%s answers", name)
		}
	}
	for name, f := range bad() {
		if frame.Answers(f, right) || frame.Answers(f, f) || frame.Answers(data(), f) {
			t.Errorf("%s is answered, or answers", name)
		}
	}
	for name, f := range map[string]api.Frame{"a beacon": beacon(), "a call": call(), "an acknowledgement": ack()} {
		turned := api.Frame{Kind: 2, Source: f.Target, Target: f.Source, List: 3, Sequence: 4, Error: 5}
		if frame.Answers(f, turned) || frame.Answers(f, right) || frame.Answers(right, turned) {
			t.Errorf("%s is answered", name)
		}
	}
}

func TestFor(t *testing.T) {
	for _, f := range []api.Frame{data(), ack(), message(), of(data(), 500)} {
		for node := -3; node < 35; node++ {
			if got := frame.For(f, node); got != (node == f.Target) {
				t.Errorf("%v for %d: %t", f, node, got)
			}
		}
	}
	for _, f := range []api.Frame{beacon(), call(), of(beacon(), 500)} {
		for node := -3; node < 35; node++ {
			if got := frame.For(f, node); got != (node != 2 && 0 <= node && node < 32) {
				t.Errorf("%v for %d: %t", f, node, got)
			}
		}
	}
	for _, node := range []int{0, 31} {
		if !frame.For(with(data(), func(f *api.Frame) { f.Target = node }), node) || frame.For(with(beacon(), func(f *api.Frame) { f.Source = node }), node) {
			t.Errorf("for the node %d", node)
		}
	}
	for _, node := range []int{math.MinInt, math.MaxInt, -1, 32} {
		for kind, f := range kinds() {
			if frame.For(f, node) || frame.For(with(f, func(f *api.Frame) { f.Target = node }), node) {
				t.Errorf("%s is for %d", kind, node)
			}
		}
	}
	for name, f := range bad() {
		for _, node := range []int{f.Target, f.Source, 0, 1, 2, 3, 31, -1, 32} {
			if frame.For(f, node) {
				t.Errorf("%s is for %d", name, node)
			}
		}
	}
}
