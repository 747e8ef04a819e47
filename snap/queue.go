package snap

import (
	"container/heap"

	"trug/api"
	"trug/op"
)

// queue finds the operation that is to be applied next, without asking each of them again after each step. Operations are meant by their index in ops.
type queue struct {
	ops []api.Op
	// Those that were ready when they were laid here, as a heap.
	ready []int
	// Those that are not ready, by a dot that they knew and that is not known yet.
	waiting map[api.Dot][]int
}

func newQueue(l []api.Op, known api.Vec) *queue {
	q := &queue{ops: l, waiting: map[api.Dot][]int{}}
	for i := range l {
		q.add(known, i)
	}
	return q
}

// add lays an operation where it belongs: nowhere if it can never be applied, because what is known only grows.
func (q *queue) add(known api.Vec, i int) {
	switch op.Ready(known, q.ops[i]) {
	case api.OK:
		heap.Push(q, i)
	case api.ErrGap:
		dot := missing(known, q.ops[i].Ctx)
		q.waiting[dot] = append(q.waiting[dot], i)
	}
}

// missing returns a dot that ctx has and known does not have, where ctx is not below known.
func missing(known, ctx api.Vec) (dot api.Dot) {
	for rep, seq := range ctx {
		if seq > known[rep] {
			dot = api.Dot{Rep: uint8(rep), Seq: seq}
		}
	}
	return dot
}

// wake looks again at the operations that waited for dot, which is known now.
func (q *queue) wake(known api.Vec, dot api.Dot) {
	for _, i := range q.waiting[dot] {
		q.add(known, i)
	}
}

// next takes the first of the operations that are ready, and returns -1 if there is none.
func (q *queue) next(known api.Vec) int {
	for q.Len() > 0 {
		i, _ := heap.Pop(q).(int)
		// One with the same dot may have been applied meanwhile.
		if op.Ready(known, q.ops[i]) == api.OK {
			return i
		}
	}
	return -1
}

// Len, Less, Swap, Push and Pop are what package heap asks for.

func (q *queue) Len() int {
	return len(q.ready)
}

// Less puts first the operation that no other one is less than; of several, the first of the list.
func (q *queue) Less(i, j int) bool {
	a, b := q.ready[i], q.ready[j]
	return op.Less(q.ops[a], q.ops[b]) || a < b && !op.Less(q.ops[b], q.ops[a])
}

func (q *queue) Swap(i, j int) {
	q.ready[i], q.ready[j] = q.ready[j], q.ready[i]
}

func (q *queue) Push(x any) {
	i, _ := x.(int)
	q.ready = append(q.ready, i)
}

func (q *queue) Pop() any {
	last := len(q.ready) - 1
	i := q.ready[last]
	q.ready = q.ready[:last]
	return i
}
