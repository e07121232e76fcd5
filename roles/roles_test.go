package roles_test

import (
	"slices"
	"strings"
	"testing"

	"muniment/api"
	"muniment/roles"
)

// P6.1: every role's word, and every number that is no role's.
func TestWords(t *testing.T) {
	words := map[byte]string{api.User: "user", api.Clerk: "clerk", api.Admin: "admin"}
	for r := range 256 {
		want := words[byte(r)]
		if got := roles.Word(byte(r)); got != want {
			t.Errorf("Word(%d) = %q, want %q", r, got, want)
		}
	}
	for r, w := range words {
		if got, e := roles.Parse(w); got != r || e != api.OK {
			t.Errorf("Parse(%s) = %d, %d, want %d", w, got, e, r)
		}
	}
}

// P6.1: texts that are no role's word.
func TestParseRefused(t *testing.T) {
	for _, s := range []string{
		"", " ", "User", "USER", "CLERK", "Admin", "users", "use", "userclerk", "user ", " user", "user\x00", "\x00", "clerk\n", "admi", "dmin", "admin admin",
		"root", "norole", "NoRole", "none", "0", "1", "2", "3", "\x01", "\x03", "\xff", "us\u00e9r", "\uff55ser", strings.Repeat("user", 100000),
	} {
		if r, e := roles.Parse(s); r != api.NoRole || e != api.ErrText {
			t.Errorf("Parse(%.40q) = %d, %d, want error %d", s, r, e, api.ErrText)
		}
	}
}

// may is a line of what is allowed: who may do that, to their own account or not; where it matters, to whom and with which new role.
type may struct {
	verb  byte
	role  byte
	own   []bool
	whom  []byte
	fresh []byte
}

var (
	either = []bool{false, true}
	mine   = []bool{true}
	others = []bool{false}
)

// allowed is all that the document allows, written out.
var allowed = []may{
	{verb: api.VCheck, role: api.User, own: mine},
	{verb: api.VCheck, role: api.Clerk, own: mine},
	{verb: api.VCheck, role: api.Admin, own: mine},
	{verb: api.VRevoke, role: api.User, own: mine},
	{verb: api.VRevoke, role: api.Clerk, own: mine},
	{verb: api.VRevoke, role: api.Admin, own: mine},
	{verb: api.VPass, role: api.User, own: mine},
	{verb: api.VPass, role: api.Clerk, own: mine},
	{verb: api.VPass, role: api.Admin, own: mine},
	{verb: api.VWho, role: api.User, own: mine},
	{verb: api.VWho, role: api.Clerk, own: either},
	{verb: api.VWho, role: api.Admin, own: either},
	{verb: api.VList, role: api.Clerk, own: either},
	{verb: api.VList, role: api.Admin, own: either},
	{verb: api.VAudit, role: api.Admin, own: either},
	{verb: api.VUnlock, role: api.Clerk, own: others, whom: []byte{api.NoRole, api.User}},
	{verb: api.VUnlock, role: api.Admin, own: others, whom: []byte{api.NoRole, api.User, api.Clerk}},
	{verb: api.VDrop, role: api.Clerk, own: others, whom: []byte{api.NoRole, api.User}},
	{verb: api.VDrop, role: api.Admin, own: others, whom: []byte{api.NoRole, api.User, api.Clerk}},
	{verb: api.VCreate, role: api.Clerk, own: either, fresh: []byte{api.User}},
	{verb: api.VCreate, role: api.Admin, own: either, fresh: []byte{api.User, api.Clerk, api.Admin}},
	{verb: api.VRole, role: api.Admin, own: others, whom: []byte{api.NoRole, api.User, api.Clerk}, fresh: []byte{api.User, api.Clerk, api.Admin}},
}

func (m may) allows(role, verb byte, own bool, whom, fresh byte) bool {
	among := func(l []byte, r byte) bool { return l == nil || slices.Contains(l, r) }
	return m.role == role && m.verb == verb && slices.Contains(m.own, own) && among(m.whom, whom) && among(m.fresh, fresh)
}

// P6.2, P2: who may do what, for every verb's number and every role, and for numbers that are no role; asked twice.
func TestMay(t *testing.T) {
	numbers := []byte{0, 1, 2, 3, 4, 5, 127, 128, 129, 254, 255}
	yes := 0
	for _, role := range numbers {
		for verb := range 256 {
			for _, own := range either {
				for _, whom := range numbers {
					for _, fresh := range numbers {
						want := slices.ContainsFunc(allowed, func(m may) bool { return m.allows(role, byte(verb), own, whom, fresh) })
						for range 2 {
							if got := roles.May(role, byte(verb), own, whom, fresh); got != want {
								t.Fatalf("May(%d, %d, %v, %d, %d) = %v", role, verb, own, whom, fresh, got)
							}
						}
						if want {
							yes++
						}
					}
				}
			}
		}
	}
	if yes < 1000 {
		t.Errorf("only %d are allowed", yes)
	}
}

// P6.2: numbers that are no role may do nothing, whatever it is; each new role and each role of another one by itself.
func TestMayEachNumber(t *testing.T) {
	for r := range 256 {
		x := byte(r)
		isRole := r >= 1 && r <= 3
		for verb := range 256 {
			for _, own := range either {
				if !isRole && (roles.May(x, byte(verb), own, api.NoRole, api.User) || roles.May(x, byte(verb), own, api.User, api.Admin)) {
					t.Errorf("May(%d, %d, %v)", r, verb, own)
				}
			}
		}
		if got := roles.May(api.Admin, api.VCreate, false, 0, x); got != isRole {
			t.Errorf("an admin may create one of role %d: %v", r, got)
		}
		if got := roles.May(api.Admin, api.VRole, false, api.User, x); got != isRole {
			t.Errorf("an admin may give role %d: %v", r, got)
		}
		if got := roles.May(api.Admin, api.VDrop, false, x, 0); got != (r < 3) {
			t.Errorf("an admin may drop one of role %d: %v", r, got)
		}
		if got := roles.May(api.Clerk, api.VDrop, false, x, 0); got != (r < 2) {
			t.Errorf("a clerk may drop one of role %d: %v", r, got)
		}
		if got := roles.May(api.Admin, api.VRole, false, x, api.User); got != (r < 3) {
			t.Errorf("an admin may change one of role %d: %v", r, got)
		}
	}
}

// P6.2: some that are easily mistaken, one by one.
func TestMayKnown(t *testing.T) {
	for _, c := range []struct {
		role, verb  byte
		own         bool
		whom, fresh byte
		want        bool
	}{
		{api.Clerk, api.VCreate, false, api.NoRole, api.User, true},
		{api.Clerk, api.VCreate, false, api.NoRole, api.Clerk, false},
		{api.Clerk, api.VCreate, false, api.NoRole, api.Admin, false},
		{api.User, api.VCreate, false, api.NoRole, api.User, false},
		{api.Admin, api.VCreate, false, api.NoRole, api.Admin, true},
		{api.Admin, api.VCreate, false, api.NoRole, api.NoRole, false},
		{api.User, api.VWho, true, api.User, 0, true},
		{api.User, api.VWho, false, api.User, 0, false},
		{api.Clerk, api.VWho, false, api.Admin, 0, true},
		{api.Clerk, api.VCheck, false, api.User, 0, false},
		{api.Admin, api.VPass, false, api.User, 0, false},
		{api.Admin, api.VLogin, true, api.Admin, api.Admin, false},
		{api.Clerk, api.VAudit, true, 0, 0, false},
		{api.Clerk, api.VUnlock, false, api.Clerk, 0, false},
		{api.Admin, api.VUnlock, false, api.Admin, 0, false},
		{api.Admin, api.VUnlock, true, api.User, 0, false},
		{api.User, api.VDrop, false, api.NoRole, 0, false},
		{api.Clerk, api.VRole, false, api.User, api.User, false},
		{api.Admin, api.VRole, false, api.Admin, api.User, false},
		{api.Admin, api.VRole, true, api.User, api.Clerk, false},
		{api.Admin, api.VRole, false, api.User, api.NoRole, false},
		{4, api.VCreate, true, 0, api.User, false},
		{255, api.VWho, true, 0, 0, false},
		{api.NoRole, api.VCheck, true, 0, 0, false},
		{api.Admin, 0, true, 0, api.User, false},
		{api.Admin, 12, true, 0, api.User, false},
	} {
		if got := roles.May(c.role, c.verb, c.own, c.whom, c.fresh); got != c.want {
			t.Errorf("May(%d, %d, %v, %d, %d) = %v", c.role, c.verb, c.own, c.whom, c.fresh, got)
		}
	}
}
