package vm

import (
	"pergola/api"
	"pergola/state"
)

// operations tells what each operation does, by its byte: all those that opcode.Of knows.
func operations[T state.Tree]() map[byte]func(*machine[T]) {
	return map[byte]func(*machine[T]){
		api.OpStop:        (*machine[T]).stop,
		api.OpAdd:         (*machine[T]).add,
		api.OpSub:         (*machine[T]).sub,
		api.OpMul:         (*machine[T]).mul,
		api.OpDiv:         (*machine[T]).div,
		api.OpMod:         (*machine[T]).mod,
		api.OpLess:        (*machine[T]).less,
		api.OpEqual:       (*machine[T]).equal,
		api.OpNot:         (*machine[T]).not,
		api.OpPushOne:     (*machine[T]).push,
		api.OpPushOne + 1: (*machine[T]).push,
		api.OpPushOne + 2: (*machine[T]).push,
		api.OpPushOne + 3: (*machine[T]).push,
		api.OpPushOne + 4: (*machine[T]).push,
		api.OpPushOne + 5: (*machine[T]).push,
		api.OpPushOne + 6: (*machine[T]).push,
		api.OpPushOne + 7: (*machine[T]).push,
		api.OpPop:         (*machine[T]).pop,
		api.OpDup:         (*machine[T]).dup,
		api.OpSwap:        (*machine[T]).swap,
		api.OpJump:        (*machine[T]).jump,
		api.OpJumpIf:      (*machine[T]).jumpIf,
		api.OpMark:        (*machine[T]).mark,
		api.OpLoad:        (*machine[T]).load,
		api.OpStore:       (*machine[T]).store,
		api.OpSelf:        (*machine[T]).self,
		api.OpCaller:      (*machine[T]).caller,
		api.OpValue:       (*machine[T]).value,
		api.OpInput:       (*machine[T]).input,
		api.OpBalance:     (*machine[T]).balance,
		api.OpGas:         (*machine[T]).gasLeft,
		api.OpNumber:      (*machine[T]).number,
		api.OpCall:        (*machine[T]).call,
		api.OpResult:      (*machine[T]).lastResult,
		api.OpReturn:      (*machine[T]).returned,
		api.OpRevert:      (*machine[T]).revert,
	}
}
