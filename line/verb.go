package line

import (
	"muniment/api"
)

// verb is a verb's number, its word, and how many words come behind it.
type verb struct {
	number byte
	word   string
	args   int
}

var verbs = [...]verb{
	{api.VCreate, "create", 4},
	{api.VDrop, "drop", 2},
	{api.VLogin, "login", 2},
	{api.VCheck, "check", 1},
	{api.VRevoke, "revoke", 1},
	{api.VPass, "pass", 3},
	{api.VRole, "role", 3},
	{api.VUnlock, "unlock", 2},
	{api.VWho, "who", 2},
	{api.VList, "list", 1},
	{api.VAudit, "audit", 2},
}

func verbOfWord(word string) (verb, bool) {
	for _, v := range verbs {
		if v.word == word {
			return v, true
		}
	}
	return verb{}, false
}

func verbOfNumber(number byte) (verb, bool) {
	for _, v := range verbs {
		if v.number == number {
			return v, true
		}
	}
	return verb{}, false
}
