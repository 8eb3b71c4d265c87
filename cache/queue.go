package cache

import "outcrop/api"

// item is a chunk that is kept.
type item[V any] struct {
	at    api.At
	v     V
	used  int // the number of its last use
	place int // where it is in the queue
}

// outside is the place of what is in no queue.
const outside = -1

// pinned tells whether a chunk may not go. Such a one is in no queue, so that none stands at the top that has to stay.
func (x *item[V]) pinned() bool { return x.place == outside }

// queue is a heap by container/heap's rules: at its top is the chunk that was used least recently.
type queue[V any] []*item[V]

func (q *queue[V]) Len() int { return len(*q) }

func (q *queue[V]) Less(i, j int) bool { return (*q)[i].used < (*q)[j].used }

// Swap and Push note the places too, so that a chunk is found in the queue wherever it is.
func (q *queue[V]) Swap(i, j int) {
	l := *q
	l[i], l[j] = l[j], l[i]
	l[i].place, l[j].place = i, j
}

func (q *queue[V]) Push(x any) {
	chunk := x.(*item[V])
	chunk.place = len(*q)
	*q = append(*q, chunk)
}

// Pop is given the last one, since heap has put there what is to go. It clears the place, or the list would still keep what the chunk has.
func (q *queue[V]) Pop() any {
	l := *q
	last := len(l) - 1
	chunk := l[last]
	chunk.place = outside
	l[last] = nil
	*q = l[:last]
	return chunk
}
