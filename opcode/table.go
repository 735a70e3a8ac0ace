package opcode

import "pergola/api"

// row is what the table has of an operation; bytes are wide enough for all of its numbers.
type row struct {
	op                         byte
	word                       string
	behind, takes, gives, cost byte
}

// The pushes differ in the bytes behind them alone: the row of the shortest stands for all eight.
const pushes = 8

var table = [...]row{
	{api.OpStop, "stop", 0, 0, 0, 0},
	{api.OpAdd, "add", 0, 2, 1, 1},
	{api.OpSub, "sub", 0, 2, 1, 1},
	{api.OpMul, "mul", 0, 2, 1, 2},
	{api.OpDiv, "div", 0, 2, 1, 2},
	{api.OpMod, "mod", 0, 2, 1, 2},
	{api.OpLess, "less", 0, 2, 1, 1},
	{api.OpEqual, "equal", 0, 2, 1, 1},
	{api.OpNot, "not", 0, 1, 1, 1},
	{api.OpPushOne, pushWord, 1, 0, 1, 1},
	{api.OpPop, "pop", 0, 1, 0, 1},
	{api.OpDup, "dup", 1, 0, 1, 1},
	{api.OpSwap, "swap", 1, 0, 0, 1},
	{api.OpJump, "jump", 0, 1, 0, 3},
	{api.OpJumpIf, "jumpif", 0, 2, 0, 3},
	{api.OpMark, "mark", 0, 0, 0, 1},
	{api.OpLoad, "load", 0, 1, 1, 10},
	{api.OpStore, "store", 0, 2, 0, 20},
	{api.OpSelf, "self", 0, 0, 1, 1},
	{api.OpCaller, "caller", 0, 0, 1, 1},
	{api.OpValue, "value", 0, 0, 1, 1},
	{api.OpInput, "input", 0, 1, 1, 1},
	{api.OpBalance, "balance", 0, 1, 1, 8},
	{api.OpGas, "gas", 0, 0, 1, 1},
	{api.OpNumber, "number", 0, 0, 1, 1},
	{api.OpCall, "call", 0, 4, 1, 40},
	{api.OpResult, "result", 0, 0, 1, 1},
	{api.OpReturn, "return", 0, 1, 0, 0},
	{api.OpRevert, "revert", 0, 1, 0, 0},
}

func isPush(op byte) bool {
	return op >= api.OpPushOne && op < api.OpPushOne+pushes
}

// pushOf tells the push that has so many bytes behind it.
func pushOf(size int) byte { return byte(api.OpPushOne + size - 1) }
