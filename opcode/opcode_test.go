package opcode_test

import (
	"testing"

	"pergola/api"
	"pergola/opcode"
)

func TestP141OfEachByte(t *testing.T) {
	count := 0
	for op, want := range plainTable {
		o, is := opcode.Of(byte(op))
		if o != want || is != (want.Word != "") {
			t.Errorf("P14.1: Of(%x) = %+v %v, not %+v", op, o, is, want)
		}
		if is {
			count++
		}
	}
	if count != 36 {
		t.Errorf("P14.1: %d operations", count)
	}
}

func TestP141OfEachName(t *testing.T) {
	for _, k := range []struct {
		op byte
		o  opcode.Info
	}{
		{api.OpStop, opcode.Info{Word: "stop"}},
		{api.OpAdd, opcode.Info{Word: "add", Takes: 2, Gives: 1, Gas: 1}},
		{api.OpSub, opcode.Info{Word: "sub", Takes: 2, Gives: 1, Gas: 1}},
		{api.OpMul, opcode.Info{Word: "mul", Takes: 2, Gives: 1, Gas: 2}},
		{api.OpDiv, opcode.Info{Word: "div", Takes: 2, Gives: 1, Gas: 2}},
		{api.OpMod, opcode.Info{Word: "mod", Takes: 2, Gives: 1, Gas: 2}},
		{api.OpLess, opcode.Info{Word: "less", Takes: 2, Gives: 1, Gas: 1}},
		{api.OpEqual, opcode.Info{Word: "equal", Takes: 2, Gives: 1, Gas: 1}},
		{api.OpNot, opcode.Info{Word: "not", Takes: 1, Gives: 1, Gas: 1}},
		{api.OpPushOne, opcode.Info{Word: "push", Behind: 1, Gives: 1, Gas: 1}},
		{api.OpPushOne + 1, opcode.Info{Word: "push", Behind: 2, Gives: 1, Gas: 1}},
		{api.OpPushOne + 7, opcode.Info{Word: "push", Behind: 8, Gives: 1, Gas: 1}},
		{api.OpPop, opcode.Info{Word: "pop", Takes: 1, Gas: 1}},
		{api.OpDup, opcode.Info{Word: "dup", Behind: 1, Gives: 1, Gas: 1}},
		{api.OpSwap, opcode.Info{Word: "swap", Behind: 1, Gas: 1}},
		{api.OpJump, opcode.Info{Word: "jump", Takes: 1, Gas: 3}},
		{api.OpJumpIf, opcode.Info{Word: "jumpif", Takes: 2, Gas: 3}},
		{api.OpMark, opcode.Info{Word: "mark", Gas: 1}},
		{api.OpLoad, opcode.Info{Word: "load", Takes: 1, Gives: 1, Gas: 10}},
		{api.OpStore, opcode.Info{Word: "store", Takes: 2, Gas: 20}},
		{api.OpSelf, opcode.Info{Word: "self", Gives: 1, Gas: 1}},
		{api.OpCaller, opcode.Info{Word: "caller", Gives: 1, Gas: 1}},
		{api.OpValue, opcode.Info{Word: "value", Gives: 1, Gas: 1}},
		{api.OpInput, opcode.Info{Word: "input", Takes: 1, Gives: 1, Gas: 1}},
		{api.OpBalance, opcode.Info{Word: "balance", Takes: 1, Gives: 1, Gas: 8}},
		{api.OpGas, opcode.Info{Word: "gas", Gives: 1, Gas: 1}},
		{api.OpNumber, opcode.Info{Word: "number", Gives: 1, Gas: 1}},
		{api.OpCall, opcode.Info{Word: "call", Takes: 4, Gives: 1, Gas: 40}},
		{api.OpResult, opcode.Info{Word: "result", Gives: 1, Gas: 1}},
		{api.OpReturn, opcode.Info{Word: "return", Takes: 1}},
		{api.OpRevert, opcode.Info{Word: "revert", Takes: 1}},
	} {
		if o, is := opcode.Of(k.op); o != k.o || !is {
			t.Errorf("P14.1: Of(%x) = %+v %v, not %+v", k.op, o, is, k.o)
		}
	}
}

func TestP141OfWhatIsNoOperation(t *testing.T) {
	for _, op := range []byte{api.OpNot + 1, 0x0f, api.OpPushOne - 1, api.OpPushOne + 8, api.OpPop - 1, api.OpSwap + 1, 0x3f, 0x43, 0x4f, 0x52, 0x5f, 0x67, 0x6f, 0x72, 0x7f, 0x82, 0xa0, 0xfe, 0xff} {
		if o, is := opcode.Of(op); o != (opcode.Info{}) || is {
			t.Errorf("P14.1: Of(%x) = %+v %v", op, o, is)
		}
	}
}
