package ir

import "cubby/api"

// Check tells the first thing for which f may not be.
func Check(f api.Func) api.Errno {
	if !Name(f.Name) {
		return api.ErrName
	}
	if !shaped(f) {
		return api.ErrShape
	}
	for _, ins := range f.Blocks {
		for i, x := range ins {
			if err := checkIns(f, x, i == len(ins)-1); err != api.OK {
				return err
			}
		}
	}
	return api.OK
}

func shaped(f api.Func) bool {
	if f.Params < 0 || f.Params > api.MaxParams || f.Regs < f.Params || f.Regs > api.MaxRegs {
		return false
	}
	if len(f.Blocks) < 1 || len(f.Blocks) > api.MaxBlocks {
		return false
	}
	all := 0
	for _, ins := range f.Blocks {
		if len(ins) == 0 {
			return false
		}
		all += len(ins)
	}
	return all <= api.MaxIns
}

// checkIns checks an instruction of f; last says that it is its block's last one.
func checkIns(f api.Func, x api.Ins, last bool) api.Errno {
	has := fieldsOf(x.Op)
	switch {
	case !fits(x, has) || Last(x.Op) != last:
		return api.ErrOp
	case !registers(x, has, f.Regs):
		return api.ErrReg
	case has.a == number && (x.A < 0 || x.A >= api.Words):
		return api.ErrNumber
	case !below(Targets(x), len(f.Blocks)):
		return api.ErrTarget
	case has.call && !Name(x.Name):
		return api.ErrName
	case has.call && len(x.Args) > api.MaxParams:
		return api.ErrArity
	}
	return api.OK
}

// fits tells whether the Op has fields at all, and those that it does not have are 0, or empty.
func fits(x api.Ins, has fields) bool {
	if has == (fields{}) {
		return false
	}
	if has.d == none && x.D != 0 || has.a == none && x.A != 0 || has.b == none && x.B != 0 {
		return false
	}
	return has.call || x.Name == "" && len(x.Args) == 0
}

// registers tells whether each register that x names is one. Def is not asked: its -1 may be a D that is wrong.
func registers(x api.Ins, has fields, regs int) bool {
	if has.d == register && (x.D < 0 || x.D >= regs) {
		return false
	}
	return below(Uses(x), regs)
}

// below tells whether each of list is one of 0 to n - 1.
func below(list []int, n int) bool {
	for _, v := range list {
		if v < 0 || v >= n {
			return false
		}
	}
	return true
}
