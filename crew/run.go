package crew

import (
	"sync"

	"bole/api"
)

// request is a call that a client of Run asks for, with the client's own channel for what is told of it.
type request struct {
	client int
	index  int
	call   api.Call
	told   chan<- api.Told
}

// Run lets as many clients as there are scripts do their calls, all at the same time: all answers in the one order.
func Run(f api.Caller, scripts [][]api.Call) []api.Told {
	var clients sync.WaitGroup
	asked := make(chan request)
	all := make([]api.Told, count(scripts))
	for client, script := range scripts {
		clients.Go(func() { follow(client, script, asked, all) })
	}
	go func() {
		clients.Wait()
		close(asked)
	}()
	serve(f, asked)
	return all
}

func count(scripts [][]api.Call) int {
	n := 0
	for _, script := range scripts {
		n += len(script)
	}
	return n
}

// follow does the calls of a client, each as soon as the one ahead is answered, and puts what is told of each into its place of the one order.
func follow(client int, script []api.Call, asked chan<- request, all []api.Told) {
	answers := make(chan api.Told)
	for i, x := range script {
		asked <- request{client, i, x, answers}
		told := <-answers
		all[told.Order] = told
	}
}

// serve carries out what is asked, one behind the other, till no client asks any more.
func serve(f api.Caller, asked <-chan request) {
	order := 0
	for r := range asked {
		r.told <- api.Told{Client: r.client, Index: r.index, Order: order, Answer: ask(f, r.call)}
		order++
	}
}
