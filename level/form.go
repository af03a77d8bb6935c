package level

import "scholium/api"

// cases: how many sets of parameters there are that may be 0 together. A set is a number whose bits are the parameters.
const cases = 1 << api.MaxParams

// form is what a right level comes to where just the parameters of a set are 0, and all others are 1 or more. There each LIMax is known to be 0, or the greater one; so the level is the greatest of one number and of parameters to which something is added. The number is told as the least value, that where the others are 1: what a parameter hides of it would else be told in several ways. So two levels are alike in a case just if their forms are one.
type form struct {
	least int
	// added: to each parameter, told one higher; 0 of a parameter that the level doesn't hang on.
	added [api.MaxParams]int
}

// forms: a level's form in each case, and whether it is right; noughts, if it isn't.
func forms(l api.Level) (list [cases]form, right bool) {
	if !Right(l, api.MaxParams) {
		return list, false
	}
	for zeros := range list {
		list[zeros] = formOf(l, zeros)
	}
	return list, true
}

// formOf: a right level's form, where the parameters of a set are 0.
func formOf(l api.Level, zeros int) form {
	switch l.Kind {
	case api.LNum:
		return form{least: l.N}
	case api.LParam:
		return param(l.N, zeros)
	case api.LSucc:
		return raised(formOf(l.Args[0], zeros))
	}
	b := formOf(l.Args[1], zeros)
	if l.Kind == api.LIMax && b == (form{}) {
		return b
	}
	return join(formOf(l.Args[0], zeros), b)
}

func param(n, zeros int) form {
	var f form
	if zeros>>n&1 == 0 {
		f.least = 1
		f.added[n] = 1
	}
	return f
}

func raised(f form) form {
	f.least++
	for i, more := range f.added {
		if more > 0 {
			f.added[i]++
		}
	}
	return f
}

// join: the form of the greater one of two.
func join(a, b form) form {
	a.least = max(a.least, b.least)
	for i, more := range b.added {
		a.added[i] = max(a.added[i], more)
	}
	return a
}
