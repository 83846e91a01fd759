import PyProof.Rows.All
import Wide.All
import OpenK.AllK
import Wide.FinOn
import Lean
import PyProof.EqAt
import PyProof.EqKinds
import PyProof.TupleCall
import PySem.Challenge.RW_fivefields_k38_marks_refused
set_option maxHeartbeats 4000000
set_option compiler.extract_closed false
namespace Hd
open PySem PySem.W PySem.Calls PyProof.Rows
section
set_option maxHeartbeats 0
set_option maxRecDepth 100000
set_option linter.all false
noncomputable section
noncomputable abbrev pw:Program:=PySem.Challenge.pw_fivefields_k38_marks_refused
noncomputable abbrev bi:List Stmt:=behindTheImports pw
noncomputable def nth:List Stmt->Nat->Stmt
 |s::_,0=>s
 |_::r,n+1=>nth r n
 |[],_=>.Pass default
noncomputable def tp(i:Nat):Stmt:=nth pw.main.body i
noncomputable def bd:Stmt->List Stmt
 |.FunctionDef _ _ b _ _ _ _ _ _ _=>b
 |.ClassDef _ _ _ b _ _ _ _ _ _ _=>b
 |_=>[]
noncomputable def ag:Stmt->Arguments
 |.FunctionDef _ a _ _ _ _ _ _ _ _=>a
 |_=>⟨[],[],none,[],[],none,[]⟩
noncomputable def sc:Stmt->Scope
 |.FunctionDef _ _ _ _ _ _ s _ _ _=>s
 |.ClassDef _ _ _ _ _ _ s _ _ _ _=>s
 |_=>pw.main.scope
noncomputable def r(a:Addr):Value:=.ref a
noncomputable def i(n:Int):Value:=.int n 0
noncomputable def de(P:Params)(k:Str)(t:Tok)(v:Value):DictEntry:=⟨PyData.keyHash P k,.str k t,v⟩
noncomputable def tu(l:List Value):Obj:=⟨.type "tuple",none,.seq l.toArray 0,#[]⟩
noncomputable def di(l:List DictEntry)(n:Nat):Obj:=⟨.type "dict",none,.dict l.toArray n,#[]⟩
noncomputable def co(l:List Value):Obj:=⟨.type "code",none,.fields l.toArray,#[]⟩
noncomputable def fd(l:List Value):Obj:=⟨.none,none,.fields l.toArray,#[]⟩
noncomputable def lf(x:Obj):BT:=.node x .nil .nil
noncomputable abbrev nd:Obj->BT->BT->BT:=BT.node
noncomputable def sf(t:Tok):Value:=.str "/claim/cut.py" t
noncomputable def fz(n q:Str)(s:Stmt):Obj:=⟨.none,none,.func ⟨n,q,ag s,.stmts (bd s),sc s,0,[],.none,.none,.none,.none,none,.none,.none,0⟩,#[]⟩
noncomputable def fn(n q:Str)(s:Stmt)(g:Addr)(c:List (Str×Addr))(d k o m:Value)(a:Option Addr)(x y:Value)(b:Addr):Obj:=⟨.type "function",none,.func ⟨n,q,ag s,.stmts (bd s),sc s,g,c,d,k,o,m,a,x,y,b⟩,#[]⟩
noncomputable def ib(s:Stmt)(i:Nat):Stmt:=nth (bd s) i
noncomputable def ev:Env:={scope:=pw.main.scope,locals:=mainNs,globals:=mainNs,cells:=[],code:=(r 13),frame:=some 14}
noncomputable def cd:Code:=.body bi ev
noncomputable abbrev an:Option Value:=(some (r 6))
noncomputable abbrev bk:List Frame:=[topFrame ⟨0,0,0,0⟩]
def o0:Obj:=tu []
def o1:Obj:=fd []
def o2:Obj:=co [(.str "<module>" 182),(.str "<module>" 183),(sf 184),(i 1),(i 0),(i 0),(i 0),(i 0),(r 11),(.bool false),(i 181),(r 12),.none,.none,.none,.none,(i 185),(i 1),(sf 186)]
def o3:Obj:=⟨(.type "frame"),none,.plain,#[(some (r 13)),(some (r 3)),(some (r 3)),none,(some (.str "__main__" 164)),none,(some (r 0))]⟩
def hA(P:Params):Heap:=⟨⟨[(boot_o_0 P),(boot_o_1 P),(boot_o_2 P),(boot_o_3 P),(boot_o_4 P),(boot_o_5 P),(boot_o_6 P),(boot_o_7 P),(boot_o_8 P),(boot_o_9 P),(boot_o_10 P),o0,o1,o2,o3]⟩,⟨[],[],[],0,[],[],false,#[],[],0,false,false,false,0,[2000,10,10],false,0,true,[],[],0,false⟩⟩
def sA(w:World)(os:OsState):Shared:=⟨hA w.params,#[],⟨0,0,0,0⟩,187,os⟩
theorem pre(w:World)(os:OsState):
  topGo treeTable pw w 11 an 12 ⟨boot_heap w.params,⟨[]⟩,boot_drawn,boot_toks,os⟩ (topStub pw) =
  some (sA w os,⟨denote treeTable cd,cd,⟨0,0,0,0⟩,bk⟩):=by kernel_rfl
def t0(P:Params):BT:=(nd (boot_o_0 P) (nd (boot_o_1 P) (nd (boot_o_3 P) (lf (boot_o_7 P)) (lf o0)) (nd (boot_o_5 P) (lf (boot_o_9 P)) (lf o2))) (nd (boot_o_2 P) (nd (boot_o_4 P) (lf (boot_o_8 P)) (lf o1)) (nd (boot_o_6 P) (lf (boot_o_10 P)) (lf o3))))
def s0(w:World)(os:OsState):SharedT:=⟨t0 w.params,15,⟨[],[],[],0,[],[],false,#[],[],0,false,false,false,0,[2000,10,10],false,0,true,[],[],0,false⟩,#[],⟨0,0,0,0⟩,187,os⟩
theorem blk(w:World)(os:OsState):
  segRun treeTable pw w 11 an 1 1 (sA w os) (blockOf bi ev cd ⟨0,0,0,0⟩ bk) =
  some (.next,(s0 w os).abs,cd,⟨0,0,0,0⟩):=by kernel_rfl
def o4(P:Params):Obj:=di [(de P "__name__" 165 (.str "fivefields.errors" 194)),(de P "__doc__" 166 .none),(de P "__package__" 167 .none),(de P "__loader__" 168 (.builtin "__main__.__loader__#opaque")),(de P "__spec__" 169 .none),(de P "__annotations__" 170 (r 6)),(de P "__builtins__" 171 (r 4)),(de P "__file__" 173 (sf 172)),(de P "__cached__" 174 .none),(de P "_wall" 193 (r 21)),(de P "FieldError" 213 (r 31)),(de P "NoDay" 229 (r 44)),(de P "NoMoment" 245 (r 56)),(de P "NoField" 270 (r 75)),(de P "NoRow" 295 (r 94)),(de P "NoBook" 311 (r 106)),(de P "NoClock" 327 (r 118)),(de P "NoName" 352 (r 137))] 18
def o5:Obj:=fd [(i 1),(i 0),(r 20),(i 5),(i 0),(r 27),(i 7),(i 0),(r 40),(i 9),(i 0),(r 52),(i 11),(i 0),(r 64),(i 15),(i 0),(r 83),(i 19),(i 0),(r 102),(i 21),(i 0),(r 114),(i 23),(i 0),(r 126)]
def o6:Obj:=tu [(.str "k" 190)]
def o7:Obj:=fz "_wall" "_wall" (tp 0)
def o8:Obj:=co [(.str "_wall" 187),(.str "_wall" 188),(sf 189),(i 1),(i 1),(i 0),(i 0),(i 3),(r 15),(.bool true),(i 181),(r 16),.none,(r 17),(r 18),(r 19),(i 191),(i 1),(sf 192)]
def o9:Obj:=fn "_wall" "_wall" (tp 0) 3 [] .none .none .none (.str "__main__" 164) none (r 20) .none 0
def o10:Obj:=tu [(.type "ValueError")]
def o11:Obj:=⟨(.type "builtin_function_or_method"),none,(.fields #[(.builtin "type.__prepare__"),(.type "type")]),#[]⟩
def o12(P:Params):Obj:=di [(de P "__module__" 203 (.str "fivefields.errors" 194)),(de P "__qualname__" 205 (.str "FieldError" 204)),(de P "__firstlineno__" 207 (.int 5 206)),(de P "__static_attributes__" 208 (r 29))] 4
def o13:Obj:=co [(.str "FieldError" 198),(.str "FieldError" 199),(sf 200),(i 5),(i 0),(i 0),(i 0),(i 0),(r 25),(.bool false),(i 181),(r 26),.none,.none,.none,.none,(i 201),(i 5),(sf 202)]
def o14:Obj:=⟨(.type "frame"),none,.plain,#[(some (r 27)),(some (r 3)),(some (r 24)),none,(some (.str "fivefields.errors" 194)),none,(some (r 0))]⟩
def o15(P:Params):Obj:=di [(de P "__module__" 203 (.str "fivefields.errors" 194)),(de P "__firstlineno__" 207 (.int 5 206)),(de P "__static_attributes__" 208 (r 29)),(de P "__weakref__" 210 (r 32)),(de P "__doc__" 211 .none)] 3
def o16:Obj:=⟨(.type "type"),none,(.cls ⟨"FieldError",[(.type "ValueError")],[(r 31),(.type "ValueError"),(.type "Exception"),(.type "BaseException"),(.type "object")],30,"FieldError",true,[],[(r 44),(r 56),(r 75),(r 94),(r 106),(r 118),(r 137)],false,none,false⟩),#[(some (r 22)),none,(some (.str "FieldError" 196)),(some (.str "FieldError" 204)),(some (.builtin "ValueError.__new__")),(some (.bool true))]⟩
def o17:Obj:=⟨(.type "getset_descriptor"),none,(.fields #[(.str "__weakref__" 209),(r 31),(.builtin "ExceptionGroup.__weakref__"),.none]),#[]⟩
def o18:Obj:=⟨(.type "super"),none,(.fields #[(r 31),(r 31),(r 31)]),#[]⟩
def o19:Obj:=⟨(.type "builtin_function_or_method"),none,(.fields #[(.builtin "object.__init_subclass__"),(r 31)]),#[]⟩
def o20:Obj:=tu [(r 31)]
def o21(P:Params):Obj:=di [(de P "__module__" 221 (.str "fivefields.errors" 194)),(de P "__qualname__" 223 (.str "NoDay" 222)),(de P "__firstlineno__" 225 (.int 7 224)),(de P "__static_attributes__" 226 (r 42))] 4
def o22:Obj:=co [(.str "NoDay" 216),(.str "NoDay" 217),(sf 218),(i 7),(i 0),(i 0),(i 0),(i 0),(r 38),(.bool false),(i 181),(r 39),.none,.none,.none,.none,(i 219),(i 7),(sf 220)]
def o23:Obj:=⟨(.type "frame"),none,.plain,#[(some (r 40)),(some (r 3)),(some (r 37)),none,(some (.str "fivefields.errors" 194)),none,(some (r 0))]⟩
def o24(P:Params):Obj:=di [(de P "__module__" 221 (.str "fivefields.errors" 194)),(de P "__firstlineno__" 225 (.int 7 224)),(de P "__static_attributes__" 226 (r 42)),(de P "__doc__" 227 .none)] 2
def o25:Obj:=⟨(.type "type"),none,(.cls ⟨"NoDay",[(r 31)],[(r 44),(r 31),(.type "ValueError"),(.type "Exception"),(.type "BaseException"),(.type "object")],43,"NoDay",true,[],[],false,none,false⟩),#[(some (r 35)),none,(some (.str "NoDay" 214)),(some (.str "NoDay" 222)),(some (.builtin "ValueError.__new__")),(some (.bool true))]⟩
def o26:Obj:=⟨(.type "super"),none,(.fields #[(r 44),(r 44),(r 44)]),#[]⟩
def o27:Obj:=⟨(.type "builtin_function_or_method"),none,(.fields #[(.builtin "object.__init_subclass__"),(r 44)]),#[]⟩
def o28(P:Params):Obj:=di [(de P "__module__" 237 (.str "fivefields.errors" 194)),(de P "__qualname__" 239 (.str "NoMoment" 238)),(de P "__firstlineno__" 241 (.int 9 240)),(de P "__static_attributes__" 242 (r 54))] 4
def o29:Obj:=co [(.str "NoMoment" 232),(.str "NoMoment" 233),(sf 234),(i 9),(i 0),(i 0),(i 0),(i 0),(r 50),(.bool false),(i 181),(r 51),.none,.none,.none,.none,(i 235),(i 9),(sf 236)]
def o30:Obj:=⟨(.type "frame"),none,.plain,#[(some (r 52)),(some (r 3)),(some (r 49)),none,(some (.str "fivefields.errors" 194)),none,(some (r 0))]⟩
def o31(P:Params):Obj:=di [(de P "__module__" 237 (.str "fivefields.errors" 194)),(de P "__firstlineno__" 241 (.int 9 240)),(de P "__static_attributes__" 242 (r 54)),(de P "__doc__" 243 .none)] 2
def o32:Obj:=⟨(.type "type"),none,(.cls ⟨"NoMoment",[(r 31)],[(r 56),(r 31),(.type "ValueError"),(.type "Exception"),(.type "BaseException"),(.type "object")],55,"NoMoment",true,[],[],false,none,false⟩),#[(some (r 47)),none,(some (.str "NoMoment" 230)),(some (.str "NoMoment" 238)),(some (.builtin "ValueError.__new__")),(some (.bool true))]⟩
def o33:Obj:=⟨(.type "super"),none,(.fields #[(r 56),(r 56),(r 56)]),#[]⟩
def o34:Obj:=⟨(.type "builtin_function_or_method"),none,(.fields #[(.builtin "object.__init_subclass__"),(r 56)]),#[]⟩
def o35(P:Params):Obj:=di [(de P "__module__" 253 (.str "fivefields.errors" 194)),(de P "__qualname__" 255 (.str "NoField" 254)),(de P "__firstlineno__" 257 (.int 11 256)),(de P "__init__" 265 (r 72)),(de P "__static_attributes__" 267 (r 73))] 5
def o36:Obj:=fd [(i 13),(i 4),(r 71)]
def o37:Obj:=co [(.str "NoField" 248),(.str "NoField" 249),(sf 250),(i 11),(i 0),(i 0),(i 0),(i 0),(r 62),(.bool false),(i 181),(r 63),.none,.none,.none,.none,(i 251),(i 11),(sf 252)]
def o38:Obj:=⟨(.type "frame"),none,.plain,#[(some (r 64)),(some (r 3)),(some (r 61)),none,(some (.str "fivefields.errors" 194)),none,(some (r 0))]⟩
def o39:Obj:=tu [(.str "self" 261),(.str "at" 262)]
def o40:Obj:=fz "__init__" "NoField.__init__" (ib (tp 5) 0)
def o41:Obj:=co [(.str "__init__" 258),(.str "NoField.__init__" 259),(sf 260),(i 13),(i 2),(i 0),(i 0),(i 3),(r 66),(.bool true),(i 181),(r 67),.none,(r 68),(r 69),(r 70),(i 263),(i 13),(sf 264)]
def o42:Obj:=fn "__init__" "NoField.__init__" (ib (tp 5) 0) 3 [] .none .none .none (.str "fivefields.errors" 194) none (r 71) .none 0
def o43:Obj:=tu [(.str "at" 266)]
def o44(P:Params):Obj:=di [(de P "__module__" 253 (.str "fivefields.errors" 194)),(de P "__firstlineno__" 257 (.int 11 256)),(de P "__init__" 265 (r 72)),(de P "__static_attributes__" 267 (r 73)),(de P "__doc__" 268 .none)] 2
def o45:Obj:=⟨(.type "type"),none,(.cls ⟨"NoField",[(r 31)],[(r 75),(r 31),(.type "ValueError"),(.type "Exception"),(.type "BaseException"),(.type "object")],74,"NoField",true,[],[],false,none,false⟩),#[(some (r 59)),none,(some (.str "NoField" 246)),(some (.str "NoField" 254)),(some (.builtin "ValueError.__new__")),(some (.bool true))]⟩
def o46:Obj:=⟨(.type "super"),none,(.fields #[(r 75),(r 75),(r 75)]),#[]⟩
def o47:Obj:=⟨(.type "builtin_function_or_method"),none,(.fields #[(.builtin "object.__init_subclass__"),(r 75)]),#[]⟩
def o48(P:Params):Obj:=di [(de P "__module__" 278 (.str "fivefields.errors" 194)),(de P "__qualname__" 280 (.str "NoRow" 279)),(de P "__firstlineno__" 282 (.int 15 281)),(de P "__init__" 290 (r 91)),(de P "__static_attributes__" 292 (r 92))] 5
def o49:Obj:=fd [(i 17),(i 4),(r 90)]
def o50:Obj:=co [(.str "NoRow" 273),(.str "NoRow" 274),(sf 275),(i 15),(i 0),(i 0),(i 0),(i 0),(r 81),(.bool false),(i 181),(r 82),.none,.none,.none,.none,(i 276),(i 15),(sf 277)]
def o51:Obj:=⟨(.type "frame"),none,.plain,#[(some (r 83)),(some (r 3)),(some (r 80)),none,(some (.str "fivefields.errors" 194)),none,(some (r 0))]⟩
def o52:Obj:=tu [(.str "self" 286),(.str "place" 287)]
def o53:Obj:=fz "__init__" "NoRow.__init__" (ib (tp 6) 0)
def o54:Obj:=co [(.str "__init__" 283),(.str "NoRow.__init__" 284),(sf 285),(i 17),(i 2),(i 0),(i 0),(i 3),(r 85),(.bool true),(i 181),(r 86),.none,(r 87),(r 88),(r 89),(i 288),(i 17),(sf 289)]
def o55:Obj:=fn "__init__" "NoRow.__init__" (ib (tp 6) 0) 3 [] .none .none .none (.str "fivefields.errors" 194) none (r 90) .none 0
def o56:Obj:=tu [(.str "place" 291)]
def o57(P:Params):Obj:=di [(de P "__module__" 278 (.str "fivefields.errors" 194)),(de P "__firstlineno__" 282 (.int 15 281)),(de P "__init__" 290 (r 91)),(de P "__static_attributes__" 292 (r 92)),(de P "__doc__" 293 .none)] 2
def o58:Obj:=⟨(.type "type"),none,(.cls ⟨"NoRow",[(r 31)],[(r 94),(r 31),(.type "ValueError"),(.type "Exception"),(.type "BaseException"),(.type "object")],93,"NoRow",true,[],[],false,none,false⟩),#[(some (r 78)),none,(some (.str "NoRow" 271)),(some (.str "NoRow" 279)),(some (.builtin "ValueError.__new__")),(some (.bool true))]⟩
def o59:Obj:=⟨(.type "super"),none,(.fields #[(r 94),(r 94),(r 94)]),#[]⟩
def o60:Obj:=⟨(.type "builtin_function_or_method"),none,(.fields #[(.builtin "object.__init_subclass__"),(r 94)]),#[]⟩
def o61(P:Params):Obj:=di [(de P "__module__" 303 (.str "fivefields.errors" 194)),(de P "__qualname__" 305 (.str "NoBook" 304)),(de P "__firstlineno__" 307 (.int 19 306)),(de P "__static_attributes__" 308 (r 104))] 4
def o62:Obj:=co [(.str "NoBook" 298),(.str "NoBook" 299),(sf 300),(i 19),(i 0),(i 0),(i 0),(i 0),(r 100),(.bool false),(i 181),(r 101),.none,.none,.none,.none,(i 301),(i 19),(sf 302)]
def o63:Obj:=⟨(.type "frame"),none,.plain,#[(some (r 102)),(some (r 3)),(some (r 99)),none,(some (.str "fivefields.errors" 194)),none,(some (r 0))]⟩
def o64(P:Params):Obj:=di [(de P "__module__" 303 (.str "fivefields.errors" 194)),(de P "__firstlineno__" 307 (.int 19 306)),(de P "__static_attributes__" 308 (r 104)),(de P "__doc__" 309 .none)] 2
def o65:Obj:=⟨(.type "type"),none,(.cls ⟨"NoBook",[(r 31)],[(r 106),(r 31),(.type "ValueError"),(.type "Exception"),(.type "BaseException"),(.type "object")],105,"NoBook",true,[],[],false,none,false⟩),#[(some (r 97)),none,(some (.str "NoBook" 296)),(some (.str "NoBook" 304)),(some (.builtin "ValueError.__new__")),(some (.bool true))]⟩
def o66:Obj:=⟨(.type "super"),none,(.fields #[(r 106),(r 106),(r 106)]),#[]⟩
def o67:Obj:=⟨(.type "builtin_function_or_method"),none,(.fields #[(.builtin "object.__init_subclass__"),(r 106)]),#[]⟩
def o68(P:Params):Obj:=di [(de P "__module__" 319 (.str "fivefields.errors" 194)),(de P "__qualname__" 321 (.str "NoClock" 320)),(de P "__firstlineno__" 323 (.int 21 322)),(de P "__static_attributes__" 324 (r 116))] 4
def o69:Obj:=co [(.str "NoClock" 314),(.str "NoClock" 315),(sf 316),(i 21),(i 0),(i 0),(i 0),(i 0),(r 112),(.bool false),(i 181),(r 113),.none,.none,.none,.none,(i 317),(i 21),(sf 318)]
def o70:Obj:=⟨(.type "frame"),none,.plain,#[(some (r 114)),(some (r 3)),(some (r 111)),none,(some (.str "fivefields.errors" 194)),none,(some (r 0))]⟩
def o71(P:Params):Obj:=di [(de P "__module__" 319 (.str "fivefields.errors" 194)),(de P "__firstlineno__" 323 (.int 21 322)),(de P "__static_attributes__" 324 (r 116)),(de P "__doc__" 325 .none)] 2
def o72:Obj:=⟨(.type "type"),none,(.cls ⟨"NoClock",[(r 31)],[(r 118),(r 31),(.type "ValueError"),(.type "Exception"),(.type "BaseException"),(.type "object")],117,"NoClock",true,[],[],false,none,false⟩),#[(some (r 109)),none,(some (.str "NoClock" 312)),(some (.str "NoClock" 320)),(some (.builtin "ValueError.__new__")),(some (.bool true))]⟩
def o73:Obj:=⟨(.type "super"),none,(.fields #[(r 118),(r 118),(r 118)]),#[]⟩
def o74:Obj:=⟨(.type "builtin_function_or_method"),none,(.fields #[(.builtin "object.__init_subclass__"),(r 118)]),#[]⟩
def o75(P:Params):Obj:=di [(de P "__module__" 335 (.str "fivefields.errors" 194)),(de P "__qualname__" 337 (.str "NoName" 336)),(de P "__firstlineno__" 339 (.int 23 338)),(de P "__init__" 347 (r 134)),(de P "__static_attributes__" 349 (r 135))] 5
def o76:Obj:=fd [(i 25),(i 4),(r 133)]
def o77:Obj:=co [(.str "NoName" 330),(.str "NoName" 331),(sf 332),(i 23),(i 0),(i 0),(i 0),(i 0),(r 124),(.bool false),(i 181),(r 125),.none,.none,.none,.none,(i 333),(i 23),(sf 334)]
def o78:Obj:=⟨(.type "frame"),none,.plain,#[(some (r 126)),(some (r 3)),(some (r 123)),none,(some (.str "fivefields.errors" 194)),none,(some (r 0))]⟩
def o79:Obj:=tu [(.str "self" 343),(.str "name" 344)]
def o80:Obj:=fz "__init__" "NoName.__init__" (ib (tp 9) 0)
def o81:Obj:=co [(.str "__init__" 340),(.str "NoName.__init__" 341),(sf 342),(i 25),(i 2),(i 0),(i 0),(i 3),(r 128),(.bool true),(i 181),(r 129),.none,(r 130),(r 131),(r 132),(i 345),(i 25),(sf 346)]
def o82:Obj:=fn "__init__" "NoName.__init__" (ib (tp 9) 0) 3 [] .none .none .none (.str "fivefields.errors" 194) none (r 133) .none 0
def o83:Obj:=tu [(.str "name" 348)]
def o84(P:Params):Obj:=di [(de P "__module__" 335 (.str "fivefields.errors" 194)),(de P "__firstlineno__" 339 (.int 23 338)),(de P "__init__" 347 (r 134)),(de P "__static_attributes__" 349 (r 135)),(de P "__doc__" 350 .none)] 2
def o85:Obj:=⟨(.type "type"),none,(.cls ⟨"NoName",[(r 31)],[(r 137),(r 31),(.type "ValueError"),(.type "Exception"),(.type "BaseException"),(.type "object")],136,"NoName",true,[],[],false,none,false⟩),#[(some (r 121)),none,(some (.str "NoName" 328)),(some (.str "NoName" 336)),(some (.builtin "ValueError.__new__")),(some (.bool true))]⟩
def o86:Obj:=⟨(.type "super"),none,(.fields #[(r 137),(r 137),(r 137)]),#[]⟩
def o87:Obj:=⟨(.type "builtin_function_or_method"),none,(.fields #[(.builtin "object.__init_subclass__"),(r 137)]),#[]⟩
def t1(P:Params):BT:=(nd (boot_o_0 P) (nd (boot_o_1 P) (nd (o4 P) (nd (boot_o_7 P) (nd o0 (nd o16 (nd o36 (lf o78) .nil) (lf o59)) (nd o20 (lf o11) (lf (o68 P)))) (nd o11 (nd o1 (nd o41 (lf o83) .nil) (lf o63)) (nd (o31 P) (lf o52) (lf o73)))) (nd o0 (nd o7 (nd o20 (nd o1 (lf o0) .nil) (lf (o61 P))) (nd o1 (lf o50) (lf o70))) (nd o13 (nd (o24 P) (nd o45 (lf o87) .nil) (lf o66)) (nd o20 (lf o55) (lf (o75 P)))))) (nd (boot_o_5 P) (nd (boot_o_9 P) (nd o6 (nd o18 (nd o38 (lf o1) .nil) (lf o20)) (nd (o28 P) (lf o0) (lf o1))) (nd o0 (nd o23 (nd o43 (lf o85) .nil) (lf (o64 P))) (nd o33 (lf o53) (lf o20)))) (nd o2 (nd o9 (nd (o21 P) (nd o0 (lf o81) .nil) (lf o1)) (nd o30 (lf o0) (lf (o71 P)))) (nd o0 (nd o26 (lf o47) (lf o20)) (nd (o35 P) (lf (o57 P)) (lf o76)))))) (nd (boot_o_2 P) (nd (boot_o_4 P) (nd (boot_o_8 P) (nd o1 (nd o17 (nd o37 (lf o0) .nil) (lf o60)) (nd o11 (lf (o48 P)) (lf o0))) (nd (o12 P) (nd o22 (nd o42 (lf (o84 P)) .nil) (lf o0)) (nd o32 (lf o0) (lf o74)))) (nd o5 (nd o8 (nd o11 (nd o39 (lf o80) .nil) (lf o0)) (nd o29 (lf o51) (lf o0))) (nd o14 (nd o25 (lf o46) (lf o67)) (nd o11 (lf o56) (lf o0))))) (nd (boot_o_6 P) (nd (boot_o_10 P) (nd o0 (nd o19 (nd o0 (lf o79) .nil) (lf o11)) (nd o0 (lf o49) (lf o69))) (nd o1 (nd o0 (nd (o44 P) (lf o86) .nil) (lf o65)) (nd o34 (lf o54) (lf o11)))) (nd o3 (nd o10 (nd o0 (nd o40 (lf o82) .nil) (lf o62)) (nd o0 (lf o1) (lf o72))) (nd (o15 P) (nd o27 (lf o20) (lf o11)) (nd o0 (lf o58) (lf o77)))))))
def s1(w:World)(os:OsState):SharedT:=⟨t1 w.params,140,⟨[],[],[],0,[],[],false,#[],[],0,false,false,false,0,[2000,10,10],false,0,true,[],[],0,false⟩,#[],⟨0,0,0,0⟩,353,os⟩
def l0:List Stmt:=(bi.drop 0).take 10
theorem r0(w:World)(os:OsState):
  segRunT treeTable pw w 11 an 1 1812 (s0 w os) (piecesOf l0 ev cd ⟨0,0,0,0⟩ bk) =
  some (.next,s1 w os,cd,⟨23,0,26,24⟩):=by kernel_rfl
def o88(P:Params):Obj:=di [(de P "__name__" 165 (.str "fivefields.marks" 452)),(de P "__doc__" 166 .none),(de P "__package__" 167 .none),(de P "__loader__" 168 (.builtin "__main__.__loader__#opaque")),(de P "__spec__" 169 .none),(de P "__annotations__" 170 (r 6)),(de P "__builtins__" 171 (r 4)),(de P "__file__" 173 (sf 172)),(de P "__cached__" 174 .none),(de P "_wall" 193 (r 21)),(de P "FieldError" 213 (r 31)),(de P "NoDay" 229 (r 44)),(de P "NoMoment" 245 (r 56)),(de P "NoField" 270 (r 75)),(de P "NoRow" 295 (r 94)),(de P "NoBook" 311 (r 106)),(de P "NoClock" 327 (r 118)),(de P "NoName" 352 (r 137)),(de P "NoWord" 368 (r 149)),(de P "FIGURES" 372 (.str "0123456789" 371)),(de P "all_figures" 378 (r 156)),(de P "is_written" 385 (r 163)),(de P "MOST_SIGNS" 389 (.int 300 388)),(de P "MOST_ITEMS" 391 (.int 40 390)),(de P "MOST_STRIDE" 393 (.int 99 392)),(de P "mask_of" 402 (r 170)),(de P "run_mask" 411 (r 177)),(de P "read_number" 421 (r 184)),(de P "read_run" 427 (r 189)),(de P "read_strided" 440 (r 196)),(de P "read_item" 451 (r 203)),(de P "MOST_MARKS" 455 (.int 20 454)),(de P "MOST_DAY" 457 (.int 31 456)),(de P "MOST_BACK" 459 (.int 30 458)),(de P "MOST_NTH" 461 (.int 5 460)),(de P "SUNDAY" 463 (.int 0 462)),(de P "SATURDAY" 465 (.int 6 464)),(de P "SUNDAY_TOO" 467 (.int 7 466)),(de P "ALL_WEEKDAYS" 469 (.int 127 468)),(de P "weekday_at" 477 (r 210)),(de P "all_days" 484 (r 217)),(de P "nearest_work" 494 (r 224)),(de P "first_one" 502 (r 231)),(de P "Mark" 538 (r 255)),(de P "Numbers" 579 (r 290)),(de P "Last" 621 (r 324)),(de P "Near" 662 (r 357))] 47
def o89:Obj:=fd [(i 1),(i 0),(r 20),(i 5),(i 0),(r 27),(i 7),(i 0),(r 40),(i 9),(i 0),(r 52),(i 11),(i 0),(r 64),(i 15),(i 0),(r 83),(i 19),(i 0),(r 102),(i 21),(i 0),(r 114),(i 23),(i 0),(r 126),(i 27),(i 0),(r 145),(i 31),(i 0),(r 155),(i 33),(i 0),(r 162),(i 39),(i 0),(r 169),(i 44),(i 0),(r 176),(i 46),(i 0),(r 183),(i 53),(i 0),(r 188),(i 60),(i 0),(r 195),(i 67),(i 0),(r 202),(i 84),(i 0),(r 209),(i 86),(i 0),(r 216),(i 88),(i 0),(r 223),(i 95),(i 0),(r 230),(i 97),(i 0),(r 237),(i 104),(i 0),(r 265),(i 114),(i 0),(r 298),(i 126),(i 0),(r 332)]
def o90:Obj:=⟨(.type "type"),none,(.cls ⟨"FieldError",[(.type "ValueError")],[(r 31),(.type "ValueError"),(.type "Exception"),(.type "BaseException"),(.type "object")],30,"FieldError",true,[],[(r 44),(r 56),(r 75),(r 94),(r 106),(r 118),(r 137),(r 149)],false,none,false⟩),#[(some (r 22)),none,(some (.str "FieldError" 196)),(some (.str "FieldError" 204)),(some (.builtin "ValueError.__new__")),(some (.bool true))]⟩
def o91(P:Params):Obj:=di [(de P "__module__" 360 (.str "fivefields.errors" 194)),(de P "__qualname__" 362 (.str "NoWord" 361)),(de P "__firstlineno__" 364 (.int 27 363)),(de P "__static_attributes__" 365 (r 147))] 4
def o92:Obj:=co [(.str "NoWord" 355),(.str "NoWord" 356),(sf 357),(i 27),(i 0),(i 0),(i 0),(i 0),(r 143),(.bool false),(i 181),(r 144),.none,.none,.none,.none,(i 358),(i 27),(sf 359)]
def o93:Obj:=⟨(.type "frame"),none,.plain,#[(some (r 145)),(some (r 3)),(some (r 142)),none,(some (.str "fivefields.errors" 194)),none,(some (r 0))]⟩
def o94(P:Params):Obj:=di [(de P "__module__" 360 (.str "fivefields.errors" 194)),(de P "__firstlineno__" 364 (.int 27 363)),(de P "__static_attributes__" 365 (r 147)),(de P "__doc__" 366 .none)] 2
def o95:Obj:=⟨(.type "type"),none,(.cls ⟨"NoWord",[(r 31)],[(r 149),(r 31),(.type "ValueError"),(.type "Exception"),(.type "BaseException"),(.type "object")],148,"NoWord",true,[],[],false,none,false⟩),#[(some (r 140)),none,(some (.str "NoWord" 353)),(some (.str "NoWord" 361)),(some (.builtin "ValueError.__new__")),(some (.bool true))]⟩
def o96:Obj:=⟨(.type "super"),none,(.fields #[(r 149),(r 149),(r 149)]),#[]⟩
def o97:Obj:=⟨(.type "builtin_function_or_method"),none,(.fields #[(.builtin "object.__init_subclass__"),(r 149)]),#[]⟩
def o98:Obj:=fz "all_figures" "all_figures" (tp 13)
def o99:Obj:=co [(.str "all_figures" 373),(.str "all_figures" 374),(sf 375),(i 31),(i 1),(i 0),(i 0),(i 3),(r 152),(.bool true),(i 181),(r 153),.none,.none,.none,(r 154),(i 376),(i 31),(sf 377)]
def aoB:Obj:=fn "all_figures" "all_figures" (tp 13) 3 [] .none .none .none (.str "fivefields.figures" 369) none (r 155) .none 0
def aqQ:Obj:=tu [(.str "text" 382)]
def ap1:Obj:=fz "is_written" "is_written" (tp 14)
def apM:Obj:=co [(.str "is_written" 379),(.str "is_written" 380),(sf 381),(i 33),(i 1),(i 0),(i 0),(i 3),(r 157),(.bool true),(i 181),(r 158),.none,(r 159),(r 160),(r 161),(i 383),(i 33),(sf 384)]
def anU:Obj:=fn "is_written" "is_written" (tp 14) 3 [] .none .none .none (.str "fivefields.figures" 369) none (r 162) .none 0
def aoQ:Obj:=tu [(.str "numbers" 397),(.str "mask" 398),(.str "number" 399)]
def an1:Obj:=fz "mask_of" "mask_of" (tp 19)
def ap3:Obj:=co [(.str "mask_of" 394),(.str "mask_of" 395),(sf 396),(i 39),(i 1),(i 0),(i 0),(i 3),(r 164),(.bool true),(i 181),(r 165),.none,(r 166),(r 167),(r 168),(i 400),(i 39),(sf 401)]
def aoR:Obj:=fn "mask_of" "mask_of" (tp 19) 3 [] .none .none .none (.str "fivefields.fields" 386) none (r 169) .none 0
def as4:Obj:=tu [(.str "first" 406),(.str "last" 407),(.str "stride" 408)]
def aqI:Obj:=fz "run_mask" "run_mask" (tp 20)
def apD:Obj:=co [(.str "run_mask" 403),(.str "run_mask" 404),(sf 405),(i 44),(i 3),(i 0),(i 0),(i 3),(r 171),(.bool true),(i 181),(r 172),.none,(r 173),(r 174),(r 175),(i 409),(i 44),(sf 410)]
def aoN:Obj:=fn "run_mask" "run_mask" (tp 20) 3 [] .none .none .none (.str "fivefields.fields" 386) none (r 176) .none 0
def aqA:Obj:=tu [(.str "text" 415),(.str "low" 416),(.str "high" 417),(.str "number" 418)]
def aoA:Obj:=fz "read_number" "read_number" (tp 21)
def aqU:Obj:=co [(.str "read_number" 412),(.str "read_number" 413),(sf 414),(i 46),(i 3),(i 0),(i 0),(i 3),(r 178),(.bool true),(i 181),(r 179),.none,(r 180),(r 181),(r 182),(i 419),(i 46),(sf 420)]
def asT:Obj:=fn "read_number" "read_number" (tp 21) 3 [] .none .none .none (.str "fivefields.fields" 386) none (r 183) .none 0
def aqC:Obj:=fz "read_run" "read_run" (tp 22)
def asE:Obj:=co [(.str "read_run" 422),(.str "read_run" 423),(sf 424),(i 53),(i 3),(i 0),(i 0),(i 3),(r 185),(.bool true),(i 181),(r 186),.none,.none,.none,(r 187),(i 425),(i 53),(sf 426)]
def aoM:Obj:=fn "read_run" "read_run" (tp 22) 3 [] .none .none .none (.str "fivefields.fields" 386) none (r 188) .none 0
def arO:Obj:=tu [(.str "run_text" 431),(.str "stride_text" 432),(.str "low" 433),(.str "high" 434),(.str "run" 435),(.str "stride" 436),(.str "last" 437)]
def aoI:Obj:=fz "read_strided" "read_strided" (tp 23)
def ar6:Obj:=co [(.str "read_strided" 428),(.str "read_strided" 429),(sf 430),(i 60),(i 4),(i 0),(i 0),(i 3),(r 190),(.bool true),(i 181),(r 191),.none,(r 192),(r 193),(r 194),(i 438),(i 60),(sf 439)]
def arL:Obj:=fn "read_strided" "read_strided" (tp 23) 3 [] .none .none .none (.str "fivefields.fields" 386) none (r 195) .none 0
def an2:Obj:=tu [(.str "item" 444),(.str "low" 445),(.str "high" 446),(.str "parts" 447),(.str "run" 448)]
def anY:Obj:=fz "read_item" "read_item" (tp 24)
def apA:Obj:=co [(.str "read_item" 441),(.str "read_item" 442),(sf 443),(i 67),(i 3),(i 0),(i 0),(i 3),(r 197),(.bool true),(i 181),(r 198),.none,(r 199),(r 200),(r 201),(i 449),(i 67),(sf 450)]
def apJ:Obj:=fn "read_item" "read_item" (tp 24) 3 [] .none .none .none (.str "fivefields.fields" 386) none (r 202) .none 0
def aqY:Obj:=tu [(.str "day" 473),(.str "first" 474)]
def aoZ:Obj:=fz "weekday_at" "weekday_at" (tp 34)
def aoT:Obj:=co [(.str "weekday_at" 470),(.str "weekday_at" 471),(sf 472),(i 84),(i 2),(i 0),(i 0),(i 3),(r 204),(.bool true),(i 181),(r 205),.none,(r 206),(r 207),(r 208),(i 475),(i 84),(sf 476)]
def anN:Obj:=fn "weekday_at" "weekday_at" (tp 34) 3 [] .none .none .none (.str "fivefields.marks" 452) none (r 209) .none 0
def anX:Obj:=tu [(.str "last" 481)]
def apF:Obj:=fz "all_days" "all_days" (tp 35)
def asR:Obj:=co [(.str "all_days" 478),(.str "all_days" 479),(sf 480),(i 86),(i 1),(i 0),(i 0),(i 3),(r 211),(.bool true),(i 181),(r 212),.none,(r 213),(r 214),(r 215),(i 482),(i 86),(sf 483)]
def ar3:Obj:=fn "all_days" "all_days" (tp 35) 3 [] .none .none .none (.str "fivefields.marks" 452) none (r 216) .none 0
def asL:Obj:=tu [(.str "day" 488),(.str "last" 489),(.str "first" 490),(.str "of_week" 491)]
def as0:Obj:=fz "nearest_work" "nearest_work" (tp 36)
def apV:Obj:=co [(.str "nearest_work" 485),(.str "nearest_work" 486),(sf 487),(i 88),(i 3),(i 0),(i 0),(i 3),(r 218),(.bool true),(i 181),(r 219),.none,(r 220),(r 221),(r 222),(i 492),(i 88),(sf 493)]
def aqW:Obj:=fn "nearest_work" "nearest_work" (tp 36) 3 [] .none .none .none (.str "fivefields.marks" 452) none (r 223) .none 0
def aq7:Obj:=tu [(.str "weekday" 498),(.str "first" 499)]
def anP:Obj:=fz "first_one" "first_one" (tp 37)
def asK:Obj:=co [(.str "first_one" 495),(.str "first_one" 496),(sf 497),(i 95),(i 2),(i 0),(i 0),(i 3),(r 225),(.bool true),(i 181),(r 226),.none,(r 227),(r 228),(r 229),(i 500),(i 95),(sf 501)]
def asC:Obj:=fn "first_one" "first_one" (tp 37) 3 [] .none .none .none (.str "fivefields.marks" 452) none (r 230) .none 0
def asF(P:Params):Obj:=di [(de P "__module__" 510 (.str "fivefields.marks" 452)),(de P "__qualname__" 512 (.str "Mark" 511)),(de P "__firstlineno__" 514 (.int 97 513)),(de P "days" 523 (r 245)),(de P "told" 530 (r 252)),(de P "__static_attributes__" 531 (r 253))] 6
def asU:Obj:=fd [(i 99),(i 4),(r 244),(i 102),(i 4),(r 251)]
def arZ:Obj:=co [(.str "Mark" 505),(.str "Mark" 506),(sf 507),(i 97),(i 0),(i 0),(i 0),(i 0),(r 235),(.bool false),(i 181),(r 236),.none,.none,.none,.none,(i 508),(i 97),(sf 509)]
def aoH:Obj:=⟨(.type "frame"),none,.plain,#[(some (r 237)),(some (r 3)),(some (r 234)),none,(some (.str "fivefields.marks" 452)),none,(some (r 0))]⟩
def as3:Obj:=tu [(.str "self" 518),(.str "last" 519),(.str "first" 520)]
def ap8:Obj:=fz "days" "Mark.days" (ib (tp 38) 0)
def arY:Obj:=co [(.str "days" 515),(.str "Mark.days" 516),(sf 517),(i 99),(i 3),(i 0),(i 0),(i 3),(r 239),(.bool true),(i 181),(r 240),.none,(r 241),(r 242),(r 243),(i 521),(i 99),(sf 522)]
def apL:Obj:=fn "days" "Mark.days" (ib (tp 38) 0) 3 [] .none .none .none (.str "fivefields.marks" 452) none (r 244) .none 0
def ap6:Obj:=tu [(.str "self" 527)]
def aqT:Obj:=fz "told" "Mark.told" (ib (tp 38) 1)
def ap4:Obj:=co [(.str "told" 524),(.str "Mark.told" 525),(sf 526),(i 102),(i 1),(i 0),(i 0),(i 3),(r 246),(.bool true),(i 181),(r 247),.none,(r 248),(r 249),(r 250),(i 528),(i 102),(sf 529)]
def asJ:Obj:=fn "told" "Mark.told" (ib (tp 38) 1) 3 [] .none .none .none (.str "fivefields.marks" 452) none (r 251) .none 0
def ap5(P:Params):Obj:=di [(de P "__module__" 510 (.str "fivefields.marks" 452)),(de P "__firstlineno__" 514 (.int 97 513)),(de P "days" 523 (r 245)),(de P "told" 530 (r 252)),(de P "__static_attributes__" 531 (r 253)),(de P "__dict__" 533 (r 256)),(de P "__weakref__" 535 (r 257)),(de P "__doc__" 536 .none)] 4
def o157:Obj:=⟨(.type "type"),none,(.cls ⟨"Mark",[(.type "object")],[(r 255),(.type "object")],254,"Mark",true,[],[(r 290),(r 324),(r 357)],false,none,false⟩),#[none,none,(some (.str "Mark" 503)),(some (.str "Mark" 511)),(some (.builtin "object.__new__")),(some (.bool true))]⟩
def ap9:Obj:=⟨(.type "getset_descriptor"),none,(.fields #[(.str "__dict__" 532),(r 255),(.builtin "function.__dict__"),(.builtin "function.__dict__#set")]),#[]⟩
def ar0:Obj:=⟨(.type "getset_descriptor"),none,(.fields #[(.str "__weakref__" 534),(r 255),(.builtin "ExceptionGroup.__weakref__"),.none]),#[]⟩
def arE:Obj:=⟨(.type "super"),none,(.fields #[(r 255),(r 255),(r 255)]),#[]⟩
def an4:Obj:=⟨(.type "builtin_function_or_method"),none,(.fields #[(.builtin "object.__init_subclass__"),(r 255)]),#[]⟩
def acB:Obj:=tu [(r 255)]
def apS(P:Params):Obj:=di [(de P "__module__" 546 (.str "fivefields.marks" 452)),(de P "__qualname__" 548 (.str "Numbers" 547)),(de P "__firstlineno__" 550 (.int 104 549)),(de P "__init__" 558 (r 273)),(de P "days" 567 (r 280)),(de P "told" 574 (r 287)),(de P "__static_attributes__" 576 (r 288))] 7
def aoU:Obj:=fd [(i 106),(i 4),(r 272),(i 109),(i 4),(r 279),(i 112),(i 4),(r 286)]
def arK:Obj:=co [(.str "Numbers" 541),(.str "Numbers" 542),(sf 543),(i 104),(i 0),(i 0),(i 0),(i 0),(r 263),(.bool false),(i 181),(r 264),.none,.none,.none,.none,(i 544),(i 104),(sf 545)]
def arP:Obj:=⟨(.type "frame"),none,.plain,#[(some (r 265)),(some (r 3)),(some (r 262)),none,(some (.str "fivefields.marks" 452)),none,(some (r 0))]⟩
def arU:Obj:=tu [(.str "self" 554),(.str "mask" 555)]
def asS:Obj:=fz "__init__" "Numbers.__init__" (ib (tp 39) 0)
def arR:Obj:=co [(.str "__init__" 551),(.str "Numbers.__init__" 552),(sf 553),(i 106),(i 2),(i 0),(i 0),(i 3),(r 267),(.bool true),(i 181),(r 268),.none,(r 269),(r 270),(r 271),(i 556),(i 106),(sf 557)]
def arV:Obj:=fn "__init__" "Numbers.__init__" (ib (tp 39) 0) 3 [] .none .none .none (.str "fivefields.marks" 452) none (r 272) .none 0
def ar7:Obj:=tu [(.str "self" 562),(.str "last" 563),(.str "first" 564)]
def apH:Obj:=fz "days" "Numbers.days" (ib (tp 39) 1)
def an6:Obj:=co [(.str "days" 559),(.str "Numbers.days" 560),(sf 561),(i 109),(i 3),(i 0),(i 0),(i 3),(r 274),(.bool true),(i 181),(r 275),.none,(r 276),(r 277),(r 278),(i 565),(i 109),(sf 566)]
def aoY:Obj:=fn "days" "Numbers.days" (ib (tp 39) 1) 3 [] .none .none .none (.str "fivefields.marks" 452) none (r 279) .none 0
def ar4:Obj:=tu [(.str "self" 571)]
def asZ:Obj:=⟨.none,none,(.func ⟨"told","Numbers.told",(ag (ib (tp 39) 2)),(.stmts (bd (ib (tp 39) 2))),(sc (ib (tp 38) 1)),0,[],.none,.none,.none,.none,none,.none,.none,0⟩),#[]⟩
def asH:Obj:=co [(.str "told" 568),(.str "Numbers.told" 569),(sf 570),(i 112),(i 1),(i 0),(i 0),(i 3),(r 281),(.bool true),(i 181),(r 282),.none,(r 283),(r 284),(r 285),(i 572),(i 112),(sf 573)]
def apW:Obj:=⟨(.type "function"),none,(.func ⟨"told","Numbers.told",(ag (ib (tp 39) 2)),(.stmts (bd (ib (tp 39) 2))),(sc (ib (tp 38) 1)),3,[],.none,.none,.none,(.str "fivefields.marks" 452),none,(r 286),.none,0⟩),#[]⟩
def an9:Obj:=tu [(.str "mask" 575)]
def ao7(P:Params):Obj:=di [(de P "__module__" 546 (.str "fivefields.marks" 452)),(de P "__firstlineno__" 550 (.int 104 549)),(de P "__init__" 558 (r 273)),(de P "days" 567 (r 280)),(de P "told" 574 (r 287)),(de P "__static_attributes__" 576 (r 288)),(de P "__doc__" 577 .none)] 2
def aqL:Obj:=⟨(.type "type"),none,(.cls ⟨"Numbers",[(r 255)],[(r 290),(r 255),(.type "object")],289,"Numbers",true,[],[],false,none,false⟩),#[(some (r 260)),none,(some (.str "Numbers" 539)),(some (.str "Numbers" 547)),(some (.builtin "object.__new__")),(some (.bool true))]⟩
def anS:Obj:=⟨(.type "super"),none,(.fields #[(r 290),(r 290),(r 290)]),#[]⟩
def anT:Obj:=⟨(.type "builtin_function_or_method"),none,(.fields #[(.builtin "object.__init_subclass__"),(r 290)]),#[]⟩
def an3(P:Params):Obj:=di [(de P "__module__" 587 (.str "fivefields.marks" 452)),(de P "__qualname__" 589 (.str "Last" 588)),(de P "__firstlineno__" 591 (.int 114 590)),(de P "__init__" 600 (r 307)),(de P "days" 609 (r 314)),(de P "told" 616 (r 321)),(de P "__static_attributes__" 618 (r 322))] 7
def aoJ:Obj:=fd [(i 116),(i 4),(r 306),(i 119),(i 4),(r 313),(i 124),(i 4),(r 320)]
def ap2:Obj:=co [(.str "Last" 582),(.str "Last" 583),(sf 584),(i 114),(i 0),(i 0),(i 0),(i 0),(r 296),(.bool false),(i 181),(r 297),.none,.none,.none,.none,(i 585),(i 114),(sf 586)]
def aq0:Obj:=⟨(.type "frame"),none,.plain,#[(some (r 298)),(some (r 3)),(some (r 295)),none,(some (.str "fivefields.marks" 452)),none,(some (r 0))]⟩
def aqP:Obj:=tu [(.int 0 592)]
def asD:Obj:=tu [(.str "self" 596),(.str "back" 597)]
def asB:Obj:=fz "__init__" "Last.__init__" (ib (tp 40) 0)
def anZ:Obj:=co [(.str "__init__" 593),(.str "Last.__init__" 594),(sf 595),(i 116),(i 2),(i 0),(i 0),(i 3),(r 301),(.bool true),(i 181),(r 302),.none,(r 303),(r 304),(r 305),(i 598),(i 116),(sf 599)]
def asQ:Obj:=fn "__init__" "Last.__init__" (ib (tp 40) 0) 3 [] (r 300) .none .none (.str "fivefields.marks" 452) none (r 306) .none 0
def arX:Obj:=tu [(.str "self" 604),(.str "last" 605),(.str "first" 606)]
def ar2:Obj:=⟨.none,none,(.func ⟨"days","Last.days",(ag (ib (tp 40) 1)),(.stmts (bd (ib (tp 40) 1))),(sc (ib (tp 38) 0)),0,[],.none,.none,.none,.none,none,.none,.none,0⟩),#[]⟩
def anQ:Obj:=co [(.str "days" 601),(.str "Last.days" 602),(sf 603),(i 119),(i 3),(i 0),(i 0),(i 3),(r 308),(.bool true),(i 181),(r 309),.none,(r 310),(r 311),(r 312),(i 607),(i 119),(sf 608)]
def aq4:Obj:=⟨(.type "function"),none,(.func ⟨"days","Last.days",(ag (ib (tp 40) 1)),(.stmts (bd (ib (tp 40) 1))),(sc (ib (tp 38) 0)),3,[],.none,.none,.none,(.str "fivefields.marks" 452),none,(r 313),.none,0⟩),#[]⟩
def aoX:Obj:=tu [(.str "self" 613)]
def apB:Obj:=⟨.none,none,(.func ⟨"told","Last.told",(ag (ib (tp 40) 2)),(.stmts (bd (ib (tp 40) 2))),(sc (ib (tp 38) 1)),0,[],.none,.none,.none,.none,none,.none,.none,0⟩),#[]⟩
def apP:Obj:=co [(.str "told" 610),(.str "Last.told" 611),(sf 612),(i 124),(i 1),(i 0),(i 0),(i 3),(r 315),(.bool true),(i 181),(r 316),.none,(r 317),(r 318),(r 319),(i 614),(i 124),(sf 615)]
def asG:Obj:=⟨(.type "function"),none,(.func ⟨"told","Last.told",(ag (ib (tp 40) 2)),(.stmts (bd (ib (tp 40) 2))),(sc (ib (tp 38) 1)),3,[],.none,.none,.none,(.str "fivefields.marks" 452),none,(r 320),.none,0⟩),#[]⟩
def aqR:Obj:=tu [(.str "back" 617)]
def asN(P:Params):Obj:=di [(de P "__module__" 587 (.str "fivefields.marks" 452)),(de P "__firstlineno__" 591 (.int 114 590)),(de P "__init__" 600 (r 307)),(de P "days" 609 (r 314)),(de P "told" 616 (r 321)),(de P "__static_attributes__" 618 (r 322)),(de P "__doc__" 619 .none)] 2
def arH:Obj:=⟨(.type "type"),none,(.cls ⟨"Last",[(r 255)],[(r 324),(r 255),(.type "object")],323,"Last",true,[],[],false,none,false⟩),#[(some (r 293)),none,(some (.str "Last" 580)),(some (.str "Last" 588)),(some (.builtin "object.__new__")),(some (.bool true))]⟩
def aoV:Obj:=⟨(.type "super"),none,(.fields #[(r 324),(r 324),(r 324)]),#[]⟩
def aqX:Obj:=⟨(.type "builtin_function_or_method"),none,(.fields #[(.builtin "object.__init_subclass__"),(r 324)]),#[]⟩
def apG(P:Params):Obj:=di [(de P "__module__" 629 (.str "fivefields.marks" 452)),(de P "__qualname__" 631 (.str "Near" 630)),(de P "__firstlineno__" 633 (.int 126 632)),(de P "__init__" 641 (r 340)),(de P "days" 650 (r 347)),(de P "told" 657 (r 354)),(de P "__static_attributes__" 659 (r 355))] 7
def ao1:Obj:=fd [(i 128),(i 4),(r 339),(i 131),(i 4),(r 346),(i 136),(i 4),(r 353)]
def aoE:Obj:=co [(.str "Near" 624),(.str "Near" 625),(sf 626),(i 126),(i 0),(i 0),(i 0),(i 0),(r 330),(.bool false),(i 181),(r 331),.none,.none,.none,.none,(i 627),(i 126),(sf 628)]
def ao8:Obj:=⟨(.type "frame"),none,.plain,#[(some (r 332)),(some (r 3)),(some (r 329)),none,(some (.str "fivefields.marks" 452)),none,(some (r 0))]⟩
def ap7:Obj:=tu [(.str "self" 637),(.str "day" 638)]
def arQ:Obj:=fz "__init__" "Near.__init__" (ib (tp 41) 0)
def an5:Obj:=co [(.str "__init__" 634),(.str "Near.__init__" 635),(sf 636),(i 128),(i 2),(i 0),(i 0),(i 3),(r 334),(.bool true),(i 181),(r 335),.none,(r 336),(r 337),(r 338),(i 639),(i 128),(sf 640)]
def arW:Obj:=fn "__init__" "Near.__init__" (ib (tp 41) 0) 3 [] .none .none .none (.str "fivefields.marks" 452) none (r 339) .none 0
def ar1:Obj:=tu [(.str "self" 645),(.str "last" 646),(.str "first" 647)]
def aqD:Obj:=fz "days" "Near.days" (ib (tp 41) 1)
def aqS:Obj:=co [(.str "days" 642),(.str "Near.days" 643),(sf 644),(i 131),(i 3),(i 0),(i 0),(i 3),(r 341),(.bool true),(i 181),(r 342),.none,(r 343),(r 344),(r 345),(i 648),(i 131),(sf 649)]
def aoO:Obj:=fn "days" "Near.days" (ib (tp 41) 1) 3 [] .none .none .none (.str "fivefields.marks" 452) none (r 346) .none 0
def as2:Obj:=tu [(.str "self" 654)]
def apT:Obj:=⟨.none,none,(.func ⟨"told","Near.told",(ag (ib (tp 41) 2)),(.stmts (bd (ib (tp 41) 2))),(sc (ib (tp 38) 1)),0,[],.none,.none,.none,.none,none,.none,.none,0⟩),#[]⟩
def apN:Obj:=co [(.str "told" 651),(.str "Near.told" 652),(sf 653),(i 136),(i 1),(i 0),(i 0),(i 3),(r 348),(.bool true),(i 181),(r 349),.none,(r 350),(r 351),(r 352),(i 655),(i 136),(sf 656)]
def asI:Obj:=⟨(.type "function"),none,(.func ⟨"told","Near.told",(ag (ib (tp 41) 2)),(.stmts (bd (ib (tp 41) 2))),(sc (ib (tp 38) 1)),3,[],.none,.none,.none,(.str "fivefields.marks" 452),none,(r 353),.none,0⟩),#[]⟩
def arT:Obj:=tu [(.str "day" 658)]
def anW(P:Params):Obj:=di [(de P "__module__" 629 (.str "fivefields.marks" 452)),(de P "__firstlineno__" 633 (.int 126 632)),(de P "__init__" 641 (r 340)),(de P "days" 650 (r 347)),(de P "told" 657 (r 354)),(de P "__static_attributes__" 659 (r 355)),(de P "__doc__" 660 .none)] 2
def apK:Obj:=⟨(.type "type"),none,(.cls ⟨"Near",[(r 255)],[(r 357),(r 255),(.type "object")],356,"Near",true,[],[],false,none,false⟩),#[(some (r 327)),none,(some (.str "Near" 622)),(some (.str "Near" 630)),(some (.builtin "object.__new__")),(some (.bool true))]⟩
def aoS:Obj:=⟨(.type "super"),none,(.fields #[(r 357),(r 357),(r 357)]),#[]⟩
def arD:Obj:=⟨(.type "builtin_function_or_method"),none,(.fields #[(.builtin "object.__init_subclass__"),(r 357)]),#[]⟩
def t2(P:Params):BT:=(nd (boot_o_0 P) (nd (boot_o_1 P) (nd (o88 P) (nd (boot_o_7 P) (nd o0 (nd o90 (nd o36 (nd o78 (lf o157) .nil) (nd o1 (lf apB) .nil)) (nd o59 (nd aqQ (lf apW) .nil) (nd apV (lf o0) .nil))) (nd o20 (nd o11 (nd o0 (lf asS) .nil) (nd o0 (lf o1) .nil)) (nd (o68 P) (nd aqI (lf asD) .nil) (lf o0)))) (nd o11 (nd o1 (nd o41 (nd o83 (lf o0) .nil) (nd an2 (lf acB) .nil)) (nd o63 (nd o0 (lf (an3 P)) .nil) (nd asC (lf arD) .nil))) (nd (o31 P) (nd o52 (nd o97 (lf an6) .nil) (nd apF (lf ar1) .nil)) (nd o73 (nd aqU (lf o0) .nil) (lf o1))))) (nd o0 (nd o7 (nd o20 (nd o1 (nd o0 (lf an4) .nil) (nd ar6 (lf (asN P)) .nil)) (nd (o61 P) (nd anU (lf anS) .nil) (nd aq7 (lf arT) .nil))) (nd o1 (nd o50 (nd o0 (lf o1) .nil) (nd o0 (lf an5) .nil)) (nd o70 (nd o1 (lf asQ) .nil) (lf ap8)))) (nd o13 (nd (o24 P) (nd o45 (nd o87 (lf o0) .nil) (nd apJ (lf ao1) .nil)) (nd o66 (nd o0 (lf aq0) .nil) (lf o0))) (nd o20 (nd o55 (nd o99 (lf ar4) .nil) (nd o1 (lf aoO) .nil)) (nd (o75 P) (nd aqC (lf o0) .nil) (lf ap4)))))) (nd (boot_o_5 P) (nd (boot_o_9 P) (nd o6 (nd o18 (nd o38 (nd o1 (lf ar0) .nil) (nd o0 (lf asG) .nil)) (nd o20 (nd ap1 (lf (ao7 P)) .nil) (nd o0 (lf apN) .nil))) (nd (o28 P) (nd o0 (nd o92 (lf arV) .nil) (nd aoT (lf o0) .nil)) (nd o1 (nd aoN (lf asB) .nil) (lf as3)))) (nd o0 (nd o23 (nd o43 (nd o85 (lf arK) .nil) (nd anY (lf (apG P)) .nil)) (nd (o64 P) (nd ap3 (lf aoJ) .nil) (lf o11))) (nd o33 (nd o53 (nd o1 (lf o0) .nil) (nd ar3 (lf aqD) .nil)) (nd o20 (nd o0 (lf anQ) .nil) (lf o0))))) (nd o2 (nd o9 (nd (o21 P) (nd o0 (nd o81 (lf o11) .nil) (nd o0 (lf aoV) .nil)) (nd o1 (nd o1 (lf acB) .nil) (nd anP (lf apK) .nil))) (nd o30 (nd o0 (nd o95 (lf o0) .nil) (nd anX (lf o0) .nil)) (nd (o71 P) (nd o0 (lf o1) .nil) (lf apL)))) (nd o0 (nd o26 (nd o47 (nd o11 (lf arU) .nil) (nd o1 (lf ao8) .nil)) (nd o20 (nd as4 (lf o0) .nil) (lf arZ))) (nd (o35 P) (nd (o57 P) (nd o0 (lf asZ) .nil) (nd o0 (lf o1) .nil)) (nd o76 (nd aoM (lf aoX) .nil) (lf o0))))))) (nd (boot_o_2 P) (nd (boot_o_4 P) (nd (boot_o_8 P) (nd o1 (nd o17 (nd o37 (nd o0 (lf ap9) .nil) (nd arO (lf apP) .nil)) (nd o60 (nd o0 (lf an9) .nil) (nd aqW (lf apT) .nil))) (nd o11 (nd (o48 P) (nd o1 (lf arR) .nil) (nd aoZ (lf ap7) .nil)) (nd o0 (nd apD (lf o0) .nil) (lf o1)))) (nd (o12 P) (nd o22 (nd o42 (nd (o84 P) (lf aoU) .nil) (nd o0 (lf o11) .nil)) (nd o0 (nd an1 (lf o0) .nil) (lf o0))) (nd o32 (nd o0 (nd o0 (lf aoY) .nil) (nd asR (lf o0) .nil)) (nd o74 (nd asT (lf ar2) .nil) (lf ap6))))) (nd o89 (nd o8 (nd o11 (nd o39 (nd o80 (lf acB) .nil) (nd arL (lf arH) .nil)) (nd o0 (nd o0 (lf anT) .nil) (nd o0 (lf (anW P)) .nil))) (nd o29 (nd o51 (nd (o94 P) (lf ar7) .nil) (nd o1 (lf arW) .nil)) (nd o0 (nd aqA (lf o0) .nil) (lf arY)))) (nd o14 (nd o25 (nd o46 (nd o20 (lf o1) .nil) (nd o0 (lf aoE) .nil)) (nd o67 (nd o1 (lf aqP) .nil) (lf asU))) (nd o11 (nd o56 (nd aoB (lf o0) .nil) (nd asL (lf o0) .nil)) (nd o0 (nd asE (lf o1) .nil) (lf asJ)))))) (nd (boot_o_6 P) (nd (boot_o_10 P) (nd o0 (nd o19 (nd o0 (nd o79 (lf arE) .nil) (nd aoI (lf aqR) .nil)) (nd o11 (nd apM (lf aqL) .nil) (nd o1 (lf asI) .nil))) (nd o0 (nd o49 (nd o93 (lf o0) .nil) (nd anN (lf arQ) .nil)) (nd o69 (nd o0 (lf anZ) .nil) (lf o0)))) (nd o1 (nd o0 (nd (o44 P) (nd o86 (lf arP) .nil) (nd apA (lf o0) .nil)) (nd o65 (nd aoR (lf ap2) .nil) (lf (asF P)))) (nd o34 (nd o54 (nd o98 (lf o1) .nil) (nd o0 (lf aqS) .nil)) (nd o11 (nd o1 (lf aq4) .nil) (lf aqT))))) (nd o3 (nd o10 (nd o0 (nd o40 (nd o82 (lf (apS P)) .nil) (nd o1 (lf aqX) .nil)) (nd o62 (nd aoQ (lf o11) .nil) (nd asK (lf aoS) .nil))) (nd o0 (nd o1 (nd o96 (lf apH) .nil) (nd o0 (lf o1) .nil)) (nd o72 (nd aoA (lf arX) .nil) (lf o0)))) (nd (o15 P) (nd o27 (nd o20 (nd (o91 P) (lf o0) .nil) (nd aqY (lf o0) .nil)) (nd o11 (nd o0 (lf o1) .nil) (lf aoH))) (nd o0 (nd o58 (nd o1 (lf asH) .nil) (nd as0 (lf as2) .nil)) (nd o77 (nd o0 (lf o0) .nil) (lf (ap5 P)))))))))
def s2(w:World)(os:OsState):SharedT:=⟨t2 w.params,360,⟨[],[],[],0,[],[],false,#[],[],0,false,false,false,0,[2000,10,10],false,0,true,[],[],0,false⟩,#[],⟨0,0,0,0⟩,663,os⟩
def l1:List Stmt:=(bi.drop 10).take 32
theorem r1(w:World)(os:OsState):
  segRunT treeTable pw w 11 an 1 1895 (s1 w os) (piecesOf l1 ev cd ⟨23,0,26,24⟩ bk) =
  some (.next,s2 w os,cd,⟨126,0,137,16⟩):=by kernel_rfl
def avH(P:Params):Obj:=di [(de P "__name__" 165 (.str "law_fivefields_k38_marks_refused" 884)),(de P "__doc__" 166 .none),(de P "__package__" 167 .none),(de P "__loader__" 168 (.builtin "__main__.__loader__#opaque")),(de P "__spec__" 169 .none),(de P "__annotations__" 170 (r 6)),(de P "__builtins__" 171 (r 4)),(de P "__file__" 173 (sf 172)),(de P "__cached__" 174 .none),(de P "_wall" 193 (r 21)),(de P "FieldError" 213 (r 31)),(de P "NoDay" 229 (r 44)),(de P "NoMoment" 245 (r 56)),(de P "NoField" 270 (r 75)),(de P "NoRow" 295 (r 94)),(de P "NoBook" 311 (r 106)),(de P "NoClock" 327 (r 118)),(de P "NoName" 352 (r 137)),(de P "NoWord" 368 (r 149)),(de P "FIGURES" 372 (.str "0123456789" 371)),(de P "all_figures" 378 (r 156)),(de P "is_written" 385 (r 163)),(de P "MOST_SIGNS" 389 (.int 300 388)),(de P "MOST_ITEMS" 391 (.int 40 390)),(de P "MOST_STRIDE" 393 (.int 99 392)),(de P "mask_of" 402 (r 170)),(de P "run_mask" 411 (r 177)),(de P "read_number" 421 (r 184)),(de P "read_run" 427 (r 189)),(de P "read_strided" 440 (r 196)),(de P "read_item" 451 (r 203)),(de P "MOST_MARKS" 455 (.int 20 454)),(de P "MOST_DAY" 457 (.int 31 456)),(de P "MOST_BACK" 459 (.int 30 458)),(de P "MOST_NTH" 461 (.int 5 460)),(de P "SUNDAY" 463 (.int 0 462)),(de P "SATURDAY" 465 (.int 6 464)),(de P "SUNDAY_TOO" 467 (.int 7 466)),(de P "ALL_WEEKDAYS" 469 (.int 127 468)),(de P "weekday_at" 477 (r 210)),(de P "all_days" 484 (r 217)),(de P "nearest_work" 494 (r 224)),(de P "first_one" 502 (r 231)),(de P "Mark" 538 (r 255)),(de P "Numbers" 579 (r 290)),(de P "Last" 621 (r 324)),(de P "Near" 662 (r 357)),(de P "LastWork" 694 (r 383)),(de P "Weekdays" 737 (r 416)),(de P "Nth" 781 (r 449)),(de P "LastOne" 822 (r 482)),(de P "read_day_mark" 831 (r 491)),(de P "read_weekday" 839 (r 498)),(de P "read_weekday_mark" 849 (r 505)),(de P "read_items" 866 (r 512)),(de P "read_days" 874 (r 519)),(de P "read_weekdays" 883 (r 526)),(de P "_law_cell_at" 893 (r 533)),(de P "_law_stir" 902 (r 540)),(de P "_law_digits" 913 (r 547)),(de P "_law_whole" 920 (r 554)),(de P "_law_right" 929 (r 561)),(de P "_law_wrong" 939 (r 568)),(de P "_law_items" 955 (r 575)),(de P "_law_is_mark" 962 (r 582)),(de P "_law_due" 968 (r 587)),(de P "_law_told" 978 (r 594)),(de P "_law_longest" 986 (r 601)),(de P "law" 992 (r 606))] 69
def auO:Obj:=fd [(i 1),(i 0),(r 20),(i 5),(i 0),(r 27),(i 7),(i 0),(r 40),(i 9),(i 0),(r 52),(i 11),(i 0),(r 64),(i 15),(i 0),(r 83),(i 19),(i 0),(r 102),(i 21),(i 0),(r 114),(i 23),(i 0),(r 126),(i 27),(i 0),(r 145),(i 31),(i 0),(r 155),(i 33),(i 0),(r 162),(i 39),(i 0),(r 169),(i 44),(i 0),(r 176),(i 46),(i 0),(r 183),(i 53),(i 0),(r 188),(i 60),(i 0),(r 195),(i 67),(i 0),(r 202),(i 84),(i 0),(r 209),(i 86),(i 0),(r 216),(i 88),(i 0),(r 223),(i 95),(i 0),(r 230),(i 97),(i 0),(r 237),(i 104),(i 0),(r 265),(i 114),(i 0),(r 298),(i 126),(i 0),(r 332),(i 138),(i 0),(r 365),(i 145),(i 0),(r 391),(i 158),(i 0),(r 424),(i 172),(i 0),(r 457),(i 182),(i 0),(r 490),(i 194),(i 0),(r 497),(i 197),(i 0),(r 504),(i 209),(i 0),(r 511),(i 227),(i 0),(r 518),(i 234),(i 0),(r 525),(i 243),(i 0),(r 532),(i 247),(i 0),(r 539),(i 251),(i 0),(r 546),(i 262),(i 0),(r 553),(i 264),(i 0),(r 560),(i 272),(i 0),(r 567),(i 279),(i 0),(r 574),(i 293),(i 0),(r 581),(i 295),(i 0),(r 586),(i 306),(i 0),(r 593),(i 318),(i 0),(r 600),(i 325),(i 0),(r 605)]
def auG:Obj:=⟨(.type "type"),none,(.cls ⟨"Mark",[(.type "object")],[(r 255),(.type "object")],254,"Mark",true,[],[(r 290),(r 324),(r 357),(r 383),(r 416),(r 449),(r 482)],false,none,false⟩),#[none,none,(some (.str "Mark" 503)),(some (.str "Mark" 511)),(some (.builtin "object.__new__")),(some (.bool true))]⟩
def azA(P:Params):Obj:=di [(de P "__module__" 670 (.str "fivefields.marks" 452)),(de P "__qualname__" 672 (.str "LastWork" 671)),(de P "__firstlineno__" 674 (.int 138 673)),(de P "days" 683 (r 373)),(de P "told" 690 (r 380)),(de P "__static_attributes__" 691 (r 381))] 6
def awX:Obj:=fd [(i 140),(i 4),(r 372),(i 143),(i 4),(r 379)]
def avB:Obj:=co [(.str "LastWork" 665),(.str "LastWork" 666),(sf 667),(i 138),(i 0),(i 0),(i 0),(i 0),(r 363),(.bool false),(i 181),(r 364),.none,.none,.none,.none,(i 668),(i 138),(sf 669)]
def atD:Obj:=⟨(.type "frame"),none,.plain,#[(some (r 365)),(some (r 3)),(some (r 362)),none,(some (.str "fivefields.marks" 452)),none,(some (r 0))]⟩
def av6:Obj:=tu [(.str "self" 678),(.str "last" 679),(.str "first" 680)]
def awC:Obj:=⟨.none,none,(.func ⟨"days","LastWork.days",(ag (ib (tp 42) 0)),(.stmts (bd (ib (tp 42) 0))),(sc (ib (tp 41) 1)),0,[],.none,.none,.none,.none,none,.none,.none,0⟩),#[]⟩
def auX:Obj:=co [(.str "days" 675),(.str "LastWork.days" 676),(sf 677),(i 140),(i 3),(i 0),(i 0),(i 3),(r 367),(.bool true),(i 181),(r 368),.none,(r 369),(r 370),(r 371),(i 681),(i 140),(sf 682)]
def av5:Obj:=⟨(.type "function"),none,(.func ⟨"days","LastWork.days",(ag (ib (tp 42) 0)),(.stmts (bd (ib (tp 42) 0))),(sc (ib (tp 41) 1)),3,[],.none,.none,.none,(.str "fivefields.marks" 452),none,(r 372),.none,0⟩),#[]⟩
def auE:Obj:=tu [(.str "self" 687)]
def ayD:Obj:=⟨.none,none,(.func ⟨"told","LastWork.told",(ag (ib (tp 42) 1)),(.stmts (bd (ib (tp 42) 1))),(sc (ib (tp 38) 1)),0,[],.none,.none,.none,.none,none,.none,.none,0⟩),#[]⟩
def axK:Obj:=co [(.str "told" 684),(.str "LastWork.told" 685),(sf 686),(i 143),(i 1),(i 0),(i 0),(i 3),(r 374),(.bool true),(i 181),(r 375),.none,(r 376),(r 377),(r 378),(i 688),(i 143),(sf 689)]
def av1:Obj:=⟨(.type "function"),none,(.func ⟨"told","LastWork.told",(ag (ib (tp 42) 1)),(.stmts (bd (ib (tp 42) 1))),(sc (ib (tp 38) 1)),3,[],.none,.none,.none,(.str "fivefields.marks" 452),none,(r 379),.none,0⟩),#[]⟩
def ay8(P:Params):Obj:=di [(de P "__module__" 670 (.str "fivefields.marks" 452)),(de P "__firstlineno__" 674 (.int 138 673)),(de P "days" 683 (r 373)),(de P "told" 690 (r 380)),(de P "__static_attributes__" 691 (r 381)),(de P "__doc__" 692 .none)] 2
def avL:Obj:=⟨(.type "type"),none,(.cls ⟨"LastWork",[(r 255)],[(r 383),(r 255),(.type "object")],382,"LastWork",true,[],[],false,none,false⟩),#[(some (r 360)),none,(some (.str "LastWork" 663)),(some (.str "LastWork" 671)),(some (.builtin "object.__new__")),(some (.bool true))]⟩
def ay3:Obj:=⟨(.type "super"),none,(.fields #[(r 383),(r 383),(r 383)]),#[]⟩
def axS:Obj:=⟨(.type "builtin_function_or_method"),none,(.fields #[(.builtin "object.__init_subclass__"),(r 383)]),#[]⟩
def avJ(P:Params):Obj:=di [(de P "__module__" 702 (.str "fivefields.marks" 452)),(de P "__qualname__" 704 (.str "Weekdays" 703)),(de P "__firstlineno__" 706 (.int 145 705)),(de P "__init__" 714 (r 399)),(de P "days" 725 (r 406)),(de P "told" 732 (r 413)),(de P "__static_attributes__" 734 (r 414))] 7
def avQ:Obj:=fd [(i 147),(i 4),(r 398),(i 150),(i 4),(r 405),(i 156),(i 4),(r 412)]
def awA:Obj:=co [(.str "Weekdays" 697),(.str "Weekdays" 698),(sf 699),(i 145),(i 0),(i 0),(i 0),(i 0),(r 389),(.bool false),(i 181),(r 390),.none,.none,.none,.none,(i 700),(i 145),(sf 701)]
def av4:Obj:=⟨(.type "frame"),none,.plain,#[(some (r 391)),(some (r 3)),(some (r 388)),none,(some (.str "fivefields.marks" 452)),none,(some (r 0))]⟩
def ayK:Obj:=tu [(.str "self" 710),(.str "mask" 711)]
def axJ:Obj:=⟨.none,none,(.func ⟨"__init__","Weekdays.__init__",(ag (ib (tp 43) 0)),(.stmts (bd (ib (tp 43) 0))),(sc (ib (tp 39) 0)),0,[],.none,.none,.none,.none,none,.none,.none,0⟩),#[]⟩
def axH:Obj:=co [(.str "__init__" 707),(.str "Weekdays.__init__" 708),(sf 709),(i 147),(i 2),(i 0),(i 0),(i 3),(r 393),(.bool true),(i 181),(r 394),.none,(r 395),(r 396),(r 397),(i 712),(i 147),(sf 713)]
def avO:Obj:=⟨(.type "function"),none,(.func ⟨"__init__","Weekdays.__init__",(ag (ib (tp 43) 0)),(.stmts (bd (ib (tp 43) 0))),(sc (ib (tp 39) 0)),3,[],.none,.none,.none,(.str "fivefields.marks" 452),none,(r 398),.none,0⟩),#[]⟩
def ax1:Obj:=tu [(.str "self" 718),(.str "last" 719),(.str "first" 720),(.str "weeks" 721),(.str "week" 722)]
def awN:Obj:=fz "days" "Weekdays.days" (ib (tp 43) 1)
def axN:Obj:=co [(.str "days" 715),(.str "Weekdays.days" 716),(sf 717),(i 150),(i 3),(i 0),(i 0),(i 3),(r 400),(.bool true),(i 181),(r 401),.none,(r 402),(r 403),(r 404),(i 723),(i 150),(sf 724)]
def auR:Obj:=fn "days" "Weekdays.days" (ib (tp 43) 1) 3 [] .none .none .none (.str "fivefields.marks" 452) none (r 405) .none 0
def axI:Obj:=tu [(.str "self" 729)]
def awZ:Obj:=⟨.none,none,(.func ⟨"told","Weekdays.told",(ag (ib (tp 43) 2)),(.stmts (bd (ib (tp 43) 2))),(sc (ib (tp 38) 1)),0,[],.none,.none,.none,.none,none,.none,.none,0⟩),#[]⟩
def awR:Obj:=co [(.str "told" 726),(.str "Weekdays.told" 727),(sf 728),(i 156),(i 1),(i 0),(i 0),(i 3),(r 407),(.bool true),(i 181),(r 408),.none,(r 409),(r 410),(r 411),(i 730),(i 156),(sf 731)]
def as9:Obj:=⟨(.type "function"),none,(.func ⟨"told","Weekdays.told",(ag (ib (tp 43) 2)),(.stmts (bd (ib (tp 43) 2))),(sc (ib (tp 38) 1)),3,[],.none,.none,.none,(.str "fivefields.marks" 452),none,(r 412),.none,0⟩),#[]⟩
def atA:Obj:=tu [(.str "mask" 733)]
def ax2(P:Params):Obj:=di [(de P "__module__" 702 (.str "fivefields.marks" 452)),(de P "__firstlineno__" 706 (.int 145 705)),(de P "__init__" 714 (r 399)),(de P "days" 725 (r 406)),(de P "told" 732 (r 413)),(de P "__static_attributes__" 734 (r 414)),(de P "__doc__" 735 .none)] 2
def at4:Obj:=⟨(.type "type"),none,(.cls ⟨"Weekdays",[(r 255)],[(r 416),(r 255),(.type "object")],415,"Weekdays",true,[],[],false,none,false⟩),#[(some (r 386)),none,(some (.str "Weekdays" 695)),(some (.str "Weekdays" 703)),(some (.builtin "object.__new__")),(some (.bool true))]⟩
def auA:Obj:=⟨(.type "super"),none,(.fields #[(r 416),(r 416),(r 416)]),#[]⟩
def auS:Obj:=⟨(.type "builtin_function_or_method"),none,(.fields #[(.builtin "object.__init_subclass__"),(r 416)]),#[]⟩
def avW(P:Params):Obj:=di [(de P "__module__" 745 (.str "fivefields.marks" 452)),(de P "__qualname__" 747 (.str "Nth" 746)),(de P "__firstlineno__" 749 (.int 158 748)),(de P "__init__" 758 (r 432)),(de P "days" 768 (r 439)),(de P "told" 775 (r 446)),(de P "__static_attributes__" 778 (r 447))] 7
def axD:Obj:=fd [(i 160),(i 4),(r 431),(i 164),(i 4),(r 438),(i 170),(i 4),(r 445)]
def auF:Obj:=co [(.str "Nth" 740),(.str "Nth" 741),(sf 742),(i 158),(i 0),(i 0),(i 0),(i 0),(r 422),(.bool false),(i 181),(r 423),.none,.none,.none,.none,(i 743),(i 158),(sf 744)]
def at0:Obj:=⟨(.type "frame"),none,.plain,#[(some (r 424)),(some (r 3)),(some (r 421)),none,(some (.str "fivefields.marks" 452)),none,(some (r 0))]⟩
def awH:Obj:=tu [(.str "self" 753),(.str "weekday" 754),(.str "many" 755)]
def au5:Obj:=fz "__init__" "Nth.__init__" (ib (tp 44) 0)
def aw6:Obj:=co [(.str "__init__" 750),(.str "Nth.__init__" 751),(sf 752),(i 160),(i 3),(i 0),(i 0),(i 3),(r 426),(.bool true),(i 181),(r 427),.none,(r 428),(r 429),(r 430),(i 756),(i 160),(sf 757)]
def awE:Obj:=fn "__init__" "Nth.__init__" (ib (tp 44) 0) 3 [] .none .none .none (.str "fivefields.marks" 452) none (r 431) .none 0
def ax7:Obj:=tu [(.str "self" 762),(.str "last" 763),(.str "first" 764),(.str "day" 765)]
def awM:Obj:=fz "days" "Nth.days" (ib (tp 44) 1)
def avE:Obj:=co [(.str "days" 759),(.str "Nth.days" 760),(sf 761),(i 164),(i 3),(i 0),(i 0),(i 3),(r 433),(.bool true),(i 181),(r 434),.none,(r 435),(r 436),(r 437),(i 766),(i 164),(sf 767)]
def avS:Obj:=fn "days" "Nth.days" (ib (tp 44) 1) 3 [] .none .none .none (.str "fivefields.marks" 452) none (r 438) .none 0
def ayQ:Obj:=tu [(.str "self" 772)]
def at6:Obj:=⟨.none,none,(.func ⟨"told","Nth.told",(ag (ib (tp 44) 2)),(.stmts (bd (ib (tp 44) 2))),(sc (ib (tp 38) 1)),0,[],.none,.none,.none,.none,none,.none,.none,0⟩),#[]⟩
def ayT:Obj:=co [(.str "told" 769),(.str "Nth.told" 770),(sf 771),(i 170),(i 1),(i 0),(i 0),(i 3),(r 440),(.bool true),(i 181),(r 441),.none,(r 442),(r 443),(r 444),(i 773),(i 170),(sf 774)]
def axO:Obj:=⟨(.type "function"),none,(.func ⟨"told","Nth.told",(ag (ib (tp 44) 2)),(.stmts (bd (ib (tp 44) 2))),(sc (ib (tp 38) 1)),3,[],.none,.none,.none,(.str "fivefields.marks" 452),none,(r 445),.none,0⟩),#[]⟩
def auL:Obj:=tu [(.str "many" 776),(.str "weekday" 777)]
def ay0(P:Params):Obj:=di [(de P "__module__" 745 (.str "fivefields.marks" 452)),(de P "__firstlineno__" 749 (.int 158 748)),(de P "__init__" 758 (r 432)),(de P "days" 768 (r 439)),(de P "told" 775 (r 446)),(de P "__static_attributes__" 778 (r 447)),(de P "__doc__" 779 .none)] 2
def av9:Obj:=⟨(.type "type"),none,(.cls ⟨"Nth",[(r 255)],[(r 449),(r 255),(.type "object")],448,"Nth",true,[],[],false,none,false⟩),#[(some (r 419)),none,(some (.str "Nth" 738)),(some (.str "Nth" 746)),(some (.builtin "object.__new__")),(some (.bool true))]⟩
def atJ:Obj:=⟨(.type "super"),none,(.fields #[(r 449),(r 449),(r 449)]),#[]⟩
def auN:Obj:=⟨(.type "builtin_function_or_method"),none,(.fields #[(.builtin "object.__init_subclass__"),(r 449)]),#[]⟩
def avI(P:Params):Obj:=di [(de P "__module__" 789 (.str "fivefields.marks" 452)),(de P "__qualname__" 791 (.str "LastOne" 790)),(de P "__firstlineno__" 793 (.int 172 792)),(de P "__init__" 801 (r 465)),(de P "days" 810 (r 472)),(de P "told" 817 (r 479)),(de P "__static_attributes__" 819 (r 480))] 7
def ayW:Obj:=fd [(i 174),(i 4),(r 464),(i 177),(i 4),(r 471),(i 180),(i 4),(r 478)]
def atZ:Obj:=co [(.str "LastOne" 784),(.str "LastOne" 785),(sf 786),(i 172),(i 0),(i 0),(i 0),(i 0),(r 455),(.bool false),(i 181),(r 456),.none,.none,.none,.none,(i 787),(i 172),(sf 788)]
def ayV:Obj:=⟨(.type "frame"),none,.plain,#[(some (r 457)),(some (r 3)),(some (r 454)),none,(some (.str "fivefields.marks" 452)),none,(some (r 0))]⟩
def atF:Obj:=tu [(.str "self" 797),(.str "weekday" 798)]
def avY:Obj:=fz "__init__" "LastOne.__init__" (ib (tp 45) 0)
def avA:Obj:=co [(.str "__init__" 794),(.str "LastOne.__init__" 795),(sf 796),(i 174),(i 2),(i 0),(i 0),(i 3),(r 459),(.bool true),(i 181),(r 460),.none,(r 461),(r 462),(r 463),(i 799),(i 174),(sf 800)]
def awD:Obj:=fn "__init__" "LastOne.__init__" (ib (tp 45) 0) 3 [] .none .none .none (.str "fivefields.marks" 452) none (r 464) .none 0
def avF:Obj:=tu [(.str "self" 805),(.str "last" 806),(.str "first" 807)]
def atM:Obj:=fz "days" "LastOne.days" (ib (tp 45) 1)
def atW:Obj:=co [(.str "days" 802),(.str "LastOne.days" 803),(sf 804),(i 177),(i 3),(i 0),(i 0),(i 3),(r 466),(.bool true),(i 181),(r 467),.none,(r 468),(r 469),(r 470),(i 808),(i 177),(sf 809)]
def ayL:Obj:=fn "days" "LastOne.days" (ib (tp 45) 1) 3 [] .none .none .none (.str "fivefields.marks" 452) none (r 471) .none 0
def axL:Obj:=tu [(.str "self" 814)]
def atB:Obj:=⟨.none,none,(.func ⟨"told","LastOne.told",(ag (ib (tp 45) 2)),(.stmts (bd (ib (tp 45) 2))),(sc (ib (tp 38) 1)),0,[],.none,.none,.none,.none,none,.none,.none,0⟩),#[]⟩
def ayJ:Obj:=co [(.str "told" 811),(.str "LastOne.told" 812),(sf 813),(i 180),(i 1),(i 0),(i 0),(i 3),(r 473),(.bool true),(i 181),(r 474),.none,(r 475),(r 476),(r 477),(i 815),(i 180),(sf 816)]
def atY:Obj:=⟨(.type "function"),none,(.func ⟨"told","LastOne.told",(ag (ib (tp 45) 2)),(.stmts (bd (ib (tp 45) 2))),(sc (ib (tp 38) 1)),3,[],.none,.none,.none,(.str "fivefields.marks" 452),none,(r 478),.none,0⟩),#[]⟩
def auT:Obj:=tu [(.str "weekday" 818)]
def axQ(P:Params):Obj:=di [(de P "__module__" 789 (.str "fivefields.marks" 452)),(de P "__firstlineno__" 793 (.int 172 792)),(de P "__init__" 801 (r 465)),(de P "days" 810 (r 472)),(de P "told" 817 (r 479)),(de P "__static_attributes__" 819 (r 480)),(de P "__doc__" 820 .none)] 2
def ayI:Obj:=⟨(.type "type"),none,(.cls ⟨"LastOne",[(r 255)],[(r 482),(r 255),(.type "object")],481,"LastOne",true,[],[],false,none,false⟩),#[(some (r 452)),none,(some (.str "LastOne" 782)),(some (.str "LastOne" 790)),(some (.builtin "object.__new__")),(some (.bool true))]⟩
def awT:Obj:=⟨(.type "super"),none,(.fields #[(r 482),(r 482),(r 482)]),#[]⟩
def au0:Obj:=⟨(.type "builtin_function_or_method"),none,(.fields #[(.builtin "object.__init_subclass__"),(r 482)]),#[]⟩
def auH:Obj:=tu [(.str "item" 826),(.str "back" 827),(.str "day" 828)]
def atP:Obj:=fz "read_day_mark" "read_day_mark" (tp 46)
def axX:Obj:=co [(.str "read_day_mark" 823),(.str "read_day_mark" 824),(sf 825),(i 182),(i 1),(i 0),(i 0),(i 3),(r 485),(.bool true),(i 181),(r 486),.none,(r 487),(r 488),(r 489),(i 829),(i 182),(sf 830)]
def avV:Obj:=fn "read_day_mark" "read_day_mark" (tp 46) 3 [] .none .none .none (.str "fivefields.marks" 452) none (r 490) .none 0
def avC:Obj:=tu [(.str "text" 835),(.str "number" 836)]
def awO:Obj:=fz "read_weekday" "read_weekday" (tp 47)
def au6:Obj:=co [(.str "read_weekday" 832),(.str "read_weekday" 833),(sf 834),(i 194),(i 1),(i 0),(i 0),(i 3),(r 492),(.bool true),(i 181),(r 493),.none,(r 494),(r 495),(r 496),(i 837),(i 194),(sf 838)]
def auC:Obj:=fn "read_weekday" "read_weekday" (tp 47) 3 [] .none .none .none (.str "fivefields.marks" 452) none (r 497) .none 0
def auQ:Obj:=tu [(.str "item" 843),(.str "weekday" 844),(.str "parts" 845),(.str "many" 846)]
def auM:Obj:=fz "read_weekday_mark" "read_weekday_mark" (tp 48)
def avK:Obj:=co [(.str "read_weekday_mark" 840),(.str "read_weekday_mark" 841),(sf 842),(i 197),(i 1),(i 0),(i 0),(i 3),(r 499),(.bool true),(i 181),(r 500),.none,(r 501),(r 502),(r 503),(i 847),(i 197),(sf 848)]
def atS:Obj:=fn "read_weekday_mark" "read_weekday_mark" (tp 48) 3 [] .none .none .none (.str "fivefields.marks" 452) none (r 504) .none 0
def axV:Obj:=tu [(.str "text" 853),(.str "low" 854),(.str "high" 855),(.str "read_mark" 856),(.str "items" 857),(.str "mask" 858),(.str "marks" 859),(.str "place" 860),(.str "item" 861),(.str "plain" 862),(.str "mark" 863)]
def av3:Obj:=fz "read_items" "read_items" (tp 49)
def ayN:Obj:=co [(.str "read_items" 850),(.str "read_items" 851),(sf 852),(i 209),(i 4),(i 0),(i 0),(i 3),(r 506),(.bool true),(i 181),(r 507),.none,(r 508),(r 509),(r 510),(i 864),(i 209),(sf 865)]
def ayG:Obj:=fn "read_items" "read_items" (tp 49) 3 [] .none .none .none (.str "fivefields.marks" 452) none (r 511) .none 0
def avU:Obj:=tu [(.str "text" 870),(.str "read" 871)]
def atN:Obj:=fz "read_days" "read_days" (tp 50)
def ayF:Obj:=co [(.str "read_days" 867),(.str "read_days" 868),(sf 869),(i 227),(i 1),(i 0),(i 0),(i 3),(r 513),(.bool true),(i 181),(r 514),.none,(r 515),(r 516),(r 517),(i 872),(i 227),(sf 873)]
def av7:Obj:=fn "read_days" "read_days" (tp 50) 3 [] .none .none .none (.str "fivefields.marks" 452) none (r 518) .none 0
def ay2:Obj:=tu [(.str "text" 878),(.str "read" 879),(.str "mask" 880)]
def ayC:Obj:=fz "read_weekdays" "read_weekdays" (tp 51)
def ayR:Obj:=co [(.str "read_weekdays" 875),(.str "read_weekdays" 876),(sf 877),(i 234),(i 1),(i 0),(i 0),(i 3),(r 520),(.bool true),(i 181),(r 521),.none,(r 522),(r 523),(r 524),(i 881),(i 234),(sf 882)]
def aw3:Obj:=fn "read_weekdays" "read_weekdays" (tp 51) 3 [] .none .none .none (.str "fivefields.marks" 452) none (r 525) .none 0
def aw2:Obj:=tu [(.str "_law_script" 889),(.str "_law_k" 890)]
def aw7:Obj:=fz "_law_cell_at" "_law_cell_at" (tp 53)
def axF:Obj:=co [(.str "_law_cell_at" 886),(.str "_law_cell_at" 887),(sf 888),(i 243),(i 2),(i 0),(i 0),(i 3),(r 527),(.bool true),(i 181),(r 528),.none,(r 529),(r 530),(r 531),(i 891),(i 243),(sf 892)]
def atC:Obj:=fn "_law_cell_at" "_law_cell_at" (tp 53) 3 [] .none .none .none (.str "law_fivefields_k38_marks_refused" 884) none (r 532) .none 0
def aw8:Obj:=tu [(.str "_law_number" 897),(.str "_law_first" 898),(.str "_law_second" 899)]
def awI:Obj:=fz "_law_stir" "_law_stir" (tp 54)
def ay7:Obj:=co [(.str "_law_stir" 894),(.str "_law_stir" 895),(sf 896),(i 247),(i 1),(i 0),(i 0),(i 3),(r 534),(.bool true),(i 181),(r 535),.none,(r 536),(r 537),(r 538),(i 900),(i 247),(sf 901)]
def atQ:Obj:=fn "_law_stir" "_law_stir" (tp 54) 3 [] .none .none .none (.str "law_fivefields_k38_marks_refused" 884) none (r 539) .none 0
def at1:Obj:=tu [(.str "_law_cell" 906),(.str "_law_sizes" 907),(.str "_law_mixed" 908),(.str "_law_found" 909),(.str "_law_size" 910)]
def ay1:Obj:=fz "_law_digits" "_law_digits" (tp 55)
def ayX:Obj:=co [(.str "_law_digits" 903),(.str "_law_digits" 904),(sf 905),(i 251),(i 3),(i 0),(i 0),(i 3),(r 541),(.bool true),(i 181),(r 542),.none,(r 543),(r 544),(r 545),(i 911),(i 251),(sf 912)]
def axM:Obj:=fn "_law_digits" "_law_digits" (tp 55) 3 [] .none .none .none (.str "law_fivefields_k38_marks_refused" 884) none (r 546) .none 0
def ayP:Obj:=tu [(.str "_law_found" 917)]
def av0:Obj:=fz "_law_whole" "_law_whole" (tp 56)
def au9:Obj:=co [(.str "_law_whole" 914),(.str "_law_whole" 915),(sf 916),(i 262),(i 1),(i 0),(i 0),(i 3),(r 548),(.bool true),(i 181),(r 549),.none,(r 550),(r 551),(r 552),(i 918),(i 262),(sf 919)]
def ayZ:Obj:=fn "_law_whole" "_law_whole" (tp 56) 3 [] .none .none .none (.str "law_fivefields_k38_marks_refused" 884) none (r 553) .none 0
def avG:Obj:=tu [(.str "_law_turn" 924),(.str "_law_week" 925),(.str "_law_mark" 926)]
def auD:Obj:=fz "_law_right" "_law_right" (tp 57)
def at2:Obj:=co [(.str "_law_right" 921),(.str "_law_right" 922),(sf 923),(i 264),(i 3),(i 0),(i 0),(i 3),(r 555),(.bool true),(i 181),(r 556),.none,(r 557),(r 558),(r 559),(i 927),(i 264),(sf 928)]
def ax6:Obj:=fn "_law_right" "_law_right" (tp 57) 3 [] .none .none .none (.str "law_fivefields_k38_marks_refused" 884) none (r 560) .none 0
def avT:Obj:=tu [(.str "_law_turn" 933),(.str "_law_week" 934),(.str "_law_some" 935),(.str "_law_more" 936)]
def atR:Obj:=fz "_law_wrong" "_law_wrong" (tp 58)
def axA:Obj:=co [(.str "_law_wrong" 930),(.str "_law_wrong" 931),(sf 932),(i 272),(i 2),(i 0),(i 0),(i 3),(r 562),(.bool true),(i 181),(r 563),.none,(r 564),(r 565),(r 566),(i 937),(i 272),(sf 938)]
def avX:Obj:=fn "_law_wrong" "_law_wrong" (tp 58) 3 [] .none .none .none (.str "law_fivefields_k38_marks_refused" 884) none (r 567) .none 0
def ay9:Obj:=tu [(.str "_law_cell" 943),(.str "_law_turns" 944),(.str "_law_week" 945),(.str "_law_mixed" 946),(.str "_law_parts" 947),(.str "_law_many" 948),(.str "_law_share" 949),(.str "_law_items_here" 950),(.str "_law_k" 951),(.str "_law_turn" 952)]
def at9:Obj:=fz "_law_items" "_law_items" (tp 59)
def axZ:Obj:=co [(.str "_law_items" 940),(.str "_law_items" 941),(sf 942),(i 279),(i 4),(i 0),(i 0),(i 3),(r 569),(.bool true),(i 181),(r 570),.none,(r 571),(r 572),(r 573),(i 953),(i 279),(sf 954)]
def awJ:Obj:=fn "_law_items" "_law_items" (tp 59) 3 [] .none .none .none (.str "law_fivefields_k38_marks_refused" 884) none (r 574) .none 0
def ayO:Obj:=tu [(.str "_law_text" 959)]
def auW:Obj:=fz "_law_is_mark" "_law_is_mark" (tp 60)
def au7:Obj:=co [(.str "_law_is_mark" 956),(.str "_law_is_mark" 957),(sf 958),(i 293),(i 1),(i 0),(i 0),(i 3),(r 576),(.bool true),(i 181),(r 577),.none,(r 578),(r 579),(r 580),(i 960),(i 293),(sf 961)]
def atL:Obj:=fn "_law_is_mark" "_law_is_mark" (tp 60) 3 [] .none .none .none (.str "law_fivefields_k38_marks_refused" 884) none (r 581) .none 0
def ay5:Obj:=fz "_law_due" "_law_due" (tp 61)
def avR:Obj:=co [(.str "_law_due" 963),(.str "_law_due" 964),(sf 965),(i 295),(i 1),(i 0),(i 0),(i 3),(r 583),(.bool true),(i 181),(r 584),.none,.none,.none,(r 585),(i 966),(i 295),(sf 967)]
def auZ:Obj:=fn "_law_due" "_law_due" (tp 61) 3 [] .none .none .none (.str "law_fivefields_k38_marks_refused" 884) none (r 586) .none 0
def awY:Obj:=tu [(.str "_law_text" 972),(.str "_law_week" 973),(.str "_law_found" 974),(.str "e" 975)]
def aw5:Obj:=fz "_law_told" "_law_told" (tp 62)
def axE:Obj:=co [(.str "_law_told" 969),(.str "_law_told" 970),(sf 971),(i 306),(i 2),(i 0),(i 0),(i 3),(r 588),(.bool true),(i 181),(r 589),.none,(r 590),(r 591),(r 592),(i 976),(i 306),(sf 977)]
def awS:Obj:=fn "_law_told" "_law_told" (tp 62) 3 [] .none .none .none (.str "law_fivefields_k38_marks_refused" 884) none (r 593) .none 0
def avZ:Obj:=tu [(.str "_law_week" 982),(.str "_law_some" 983)]
def aw1:Obj:=fz "_law_longest" "_law_longest" (tp 63)
def atE:Obj:=co [(.str "_law_longest" 979),(.str "_law_longest" 980),(sf 981),(i 318),(i 1),(i 0),(i 0),(i 3),(r 595),(.bool true),(i 181),(r 596),.none,(r 597),(r 598),(r 599),(i 984),(i 318),(sf 985)]
def auU:Obj:=fn "_law_longest" "_law_longest" (tp 63) 3 [] .none .none .none (.str "law_fivefields_k38_marks_refused" 884) none (r 600) .none 0
def atO:Obj:=fz "law" "law" (tp 64)
def ayE:Obj:=co [(.str "law" 987),(.str "law" 988),(sf 989),(i 325),(i 1),(i 0),(i 0),(i 3),(r 602),(.bool true),(i 181),(r 603),.none,.none,.none,(r 604),(i 990),(i 325),(sf 991)]
def ayU:Obj:=fn "law" "law" (tp 64) 3 [] .none .none .none (.str "law_fivefields_k38_marks_refused" 884) none (r 605) .none 0
def t3(P:Params):BT:=(nd (boot_o_0 P) (nd (boot_o_1 P) (nd (avH P) (nd (boot_o_7 P) (nd o0 (nd o90 (nd o36 (nd o78 (nd auG (lf ayN) .nil) (lf avL)) (nd o1 (nd apB (lf awJ) .nil) (lf auL))) (nd o59 (nd aqQ (nd apW (lf at1) .nil) (lf (ax2 P))) (nd apV (lf o0) (lf atY)))) (nd o20 (nd o11 (nd o0 (nd asS (lf o0) .nil) (lf avO)) (nd o0 (nd o1 (lf o0) .nil) (lf avY))) (nd (o68 P) (nd aqI (nd asD (lf auD) .nil) (lf aw6)) (nd o0 (lf o0) (lf o0))))) (nd o11 (nd o1 (nd o41 (nd o83 (nd o0 (lf av7) .nil) (lf awA)) (nd an2 (nd acB (lf o0) .nil) (lf o0))) (nd o63 (nd o0 (nd (an3 P) (lf o0) .nil) (lf axD)) (nd asC (lf arD) (lf auH)))) (nd (o31 P) (nd o52 (nd o97 (nd an6 (lf o1) .nil) (lf o0)) (nd apF (nd ar1 (lf aw1) .nil) (lf atW))) (nd o73 (nd aqU (nd o0 (lf axA) .nil) (lf avS)) (nd o1 (lf o1) (lf auM)))))) (nd o0 (nd o7 (nd o20 (nd o1 (nd o0 (nd an4 (lf avU) .nil) (lf o11)) (nd ar6 (nd (asN P) (lf o0) .nil) (lf auN))) (nd (o61 P) (nd anU (nd anS (lf axM) .nil) (lf acB)) (nd aq7 (lf arT) (lf awT)))) (nd o1 (nd o50 (nd o0 (nd o1 (lf aw7) .nil) (lf o0)) (nd o0 (nd an5 (lf o0) .nil) (lf o1))) (nd o70 (nd o1 (nd asQ (lf o1) .nil) (lf ax7)) (nd ap8 (lf awC) (lf o0))))) (nd o13 (nd (o24 P) (nd o45 (nd o87 (nd o0 (lf o0) .nil) (lf ayK)) (nd apJ (nd ao1 (lf auZ) .nil) (lf o0))) (nd o66 (nd o0 (nd aq0 (lf o0) .nil) (lf o1)) (nd o0 (lf o0) (lf avV)))) (nd o20 (nd o55 (nd o99 (nd ar4 (lf ay7) .nil) (lf awZ)) (nd o1 (nd aoO (lf o1) .nil) (lf axL))) (nd (o75 P) (nd aqC (nd o0 (lf ay9) .nil) (lf o0)) (nd ap4 (lf axK) (lf o1))))))) (nd (boot_o_5 P) (nd (boot_o_9 P) (nd o6 (nd o18 (nd o38 (nd o1 (nd ar0 (lf o0) .nil) (lf axS)) (nd o0 (nd asG (lf o1) .nil) (lf av9))) (nd o20 (nd ap1 (nd (ao7 P) (lf ay1) .nil) (lf auA)) (nd o0 (lf apN) (lf (axQ P))))) (nd (o28 P) (nd o0 (nd o92 (nd arV (lf aw2) .nil) (lf o1)) (nd aoT (nd o0 (lf axE) .nil) (lf awD))) (nd o1 (nd aoN (nd asB (lf ax6) .nil) (lf o0)) (nd as3 (lf av6) (lf au6))))) (nd o0 (nd o23 (nd o43 (nd o85 (nd arK (lf o1) .nil) (lf o0)) (nd anY (nd (apG P) (lf ay5) .nil) (lf atZ))) (nd (o64 P) (nd ap3 (nd aoJ (lf au9) .nil) (lf at0)) (nd o11 (lf o11) (lf atP)))) (nd o33 (nd o53 (nd o1 (nd o0 (lf o0) .nil) (lf axI)) (nd ar3 (nd aqD (lf auU) .nil) (lf o0))) (nd o20 (nd o0 (nd anQ (lf o0) .nil) (lf o1)) (nd o0 (lf o0) (lf atS)))))) (nd o2 (nd o9 (nd (o21 P) (nd o0 (nd o81 (nd o11 (lf atN) .nil) (lf o0)) (nd o0 (nd aoV (lf au7) .nil) (lf o11))) (nd o1 (nd o1 (nd acB (lf o1) .nil) (lf (avW P))) (nd anP (lf apK) (lf o0)))) (nd o30 (nd o0 (nd o95 (nd o0 (lf atC) .nil) (lf axN)) (nd anX (nd o0 (lf avZ) .nil) (lf o0))) (nd (o71 P) (nd o0 (nd o1 (lf o0) .nil) (lf awM)) (nd apL (lf av5) (lf auQ))))) (nd o0 (nd o26 (nd o47 (nd o11 (nd arU (lf ayR) .nil) (lf axJ)) (nd o1 (nd ao8 (lf o1) .nil) (lf atF))) (nd o20 (nd as4 (nd o0 (lf avG) .nil) (lf o0)) (nd arZ (lf avB) (lf o1)))) (nd (o35 P) (nd (o57 P) (nd o0 (nd asZ (lf o0) .nil) (lf as9)) (nd o0 (nd o1 (lf ayE) .nil) (lf atB))) (nd o76 (nd aoM (nd aoX (lf at9) .nil) (lf ayT)) (nd o0 (lf o0) (lf o0)))))))) (nd (boot_o_2 P) (nd (boot_o_4 P) (nd (boot_o_8 P) (nd o1 (nd o17 (nd o37 (nd o0 (nd ap9 (lf ayG) .nil) (lf ay3)) (nd arO (nd apP (lf o0) .nil) (lf (ay0 P)))) (nd o60 (nd o0 (nd an9 (lf o0) .nil) (lf at4)) (nd aqW (lf apT) (lf auT)))) (nd o11 (nd (o48 P) (nd o1 (nd arR (lf o1) .nil) (lf o0)) (nd aoZ (nd ap7 (lf aw5) .nil) (lf avA))) (nd o0 (nd apD (nd o0 (lf at2) .nil) (lf awE)) (nd o1 (lf o1) (lf awO))))) (nd (o12 P) (nd o22 (nd o42 (nd (o84 P) (nd aoU (lf o0) .nil) (lf av4)) (nd o0 (nd o11 (lf o1) .nil) (lf ayW))) (nd o0 (nd an1 (nd o0 (lf av0) .nil) (lf auF)) (nd o0 (lf acB) (lf o0)))) (nd o32 (nd o0 (nd o0 (nd aoY (lf aw8) .nil) (lf o1)) (nd asR (nd o0 (lf atE) .nil) (lf ayL))) (nd o74 (nd asT (nd ar2 (lf avX) .nil) (lf o0)) (nd ap6 (lf auE) (lf avK)))))) (nd auO (nd o8 (nd o11 (nd o39 (nd o80 (nd acB (lf o0) .nil) (lf (avJ P))) (nd arL (nd arH (lf auW) .nil) (lf acB))) (nd o0 (nd o0 (nd anT (lf o0) .nil) (lf o11)) (nd o0 (lf (anW P)) (lf au0)))) (nd o29 (nd o51 (nd (o94 P) (nd ar7 (lf axF) .nil) (lf awN)) (nd o1 (nd arW (lf o1) .nil) (lf avF))) (nd o0 (nd aqA (nd o0 (lf avT) .nil) (lf o0)) (nd arY (lf auX) (lf o1))))) (nd o14 (nd o25 (nd o46 (nd o20 (nd o1 (lf ayC) .nil) (lf o0)) (nd o0 (nd aoE (lf o0) .nil) (lf o1))) (nd o67 (nd o1 (nd aqP (lf o1) .nil) (lf awH)) (nd asU (lf awX) (lf o0)))) (nd o11 (nd o56 (nd aoB (nd o0 (lf atQ) .nil) (lf awR)) (nd asL (nd o0 (lf atO) .nil) (lf o0))) (nd o0 (nd asE (nd o1 (lf o0) .nil) (lf at6)) (nd asJ (lf av1) (lf axV))))))) (nd (boot_o_6 P) (nd (boot_o_10 P) (nd o0 (nd o19 (nd o0 (nd o79 (nd arE (lf o1) .nil) (lf acB)) (nd aoI (nd aqR (lf ayO) .nil) (lf atJ))) (nd o11 (nd apM (nd aqL (lf ayX) .nil) (lf auS)) (nd o1 (lf asI) (lf ayI)))) (nd o0 (nd o49 (nd o93 (nd o0 (lf o0) .nil) (lf ax1)) (nd anN (nd arQ (lf awS) .nil) (lf o0))) (nd o69 (nd o0 (nd anZ (lf o0) .nil) (lf o1)) (nd o0 (lf o0) (lf auC))))) (nd o1 (nd o0 (nd (o44 P) (nd o86 (nd arP (lf ay2) .nil) (lf o1)) (nd apA (nd o0 (lf avR) .nil) (lf ayV))) (nd o65 (nd aoR (nd ap2 (lf ayZ) .nil) (lf o0)) (nd (asF P) (lf (azA P)) (lf axX)))) (nd o34 (nd o54 (nd o98 (nd o1 (lf awI) .nil) (lf o0)) (nd o0 (nd aqS (lf o0) .nil) (lf o1))) (nd o11 (nd o1 (nd aq4 (lf o1) .nil) (lf ayQ)) (nd aqT (lf ayD) (lf o0)))))) (nd o3 (nd o10 (nd o0 (nd o40 (nd o82 (nd (apS P) (lf ayF) .nil) (lf avQ)) (nd o1 (nd aqX (lf atL) .nil) (lf (avI P)))) (nd o62 (nd aoQ (nd o11 (lf ayP) .nil) (lf o0)) (nd asK (lf aoS) (lf o1)))) (nd o0 (nd o1 (nd o96 (nd apH (lf o0) .nil) (lf auR)) (nd o0 (nd o1 (lf o0) .nil) (lf atM))) (nd o72 (nd aoA (nd arX (lf atR) .nil) (lf avE)) (nd o0 (lf o0) (lf o0))))) (nd (o15 P) (nd o27 (nd o20 (nd (o91 P) (nd o0 (lf aw3) .nil) (lf axH)) (nd aqY (nd o0 (lf awY) .nil) (lf o0))) (nd o11 (nd o0 (nd o1 (lf o0) .nil) (lf au5)) (nd aoH (lf atD) (lf avC)))) (nd o0 (nd o58 (nd o1 (nd asH (lf o1) .nil) (lf atA)) (nd as0 (nd as2 (lf ayU) .nil) (lf ayJ))) (nd o77 (nd o0 (nd o0 (lf axZ) .nil) (lf axO)) (nd (ap5 P) (lf (ay8 P)) (lf av3)))))))))
def s3(w:World)(os:OsState):SharedT:=⟨t3 w.params,607,⟨[],[],[],0,[],[],false,#[],[],0,false,false,false,0,[2000,10,10],false,0,true,[],[],0,false⟩,#[],⟨0,0,0,0⟩,993,os⟩
def l2:List Stmt:=(bi.drop 42).take 23
theorem r2(w:World)(os:OsState):
  segRunT treeTable pw w 11 an 1 1778 (s2 w os) (piecesOf l2 ev cd ⟨126,0,137,16⟩ bk) =
  some (.next,s3 w os,cd,⟨325,0,338,15⟩):=by kernel_rfl
def hF(P:Params):Heap:=⟨⟨[(boot_o_0 P),(boot_o_1 P),(boot_o_2 P),(avH P),(boot_o_4 P),(boot_o_5 P),(boot_o_6 P),(boot_o_7 P),(boot_o_8 P),(boot_o_9 P),(boot_o_10 P),o0,auO,o2,o3,o0,o1,o6,o0,o7,o8,o9,o10,o11,(o12 P),o0,o1,o13,o14,o0,(o15 P),o90,o17,o18,o19,o20,o11,(o21 P),o0,o1,o22,o23,o0,(o24 P),o25,o26,o27,o20,o11,(o28 P),o0,o1,o29,o30,o0,(o31 P),o32,o33,o34,o20,o11,(o35 P),o0,o36,o37,o38,o0,o1,o39,o0,o40,o41,o42,o43,(o44 P),o45,o46,o47,o20,o11,(o48 P),o0,o49,o50,o51,o0,o1,o52,o0,o53,o54,o55,o56,(o57 P),o58,o59,o60,o20,o11,(o61 P),o0,o1,o62,o63,o0,(o64 P),o65,o66,o67,o20,o11,(o68 P),o0,o1,o69,o70,o0,(o71 P),o72,o73,o74,o20,o11,(o75 P),o0,o76,o77,o78,o0,o1,o79,o0,o80,o81,o82,o83,(o84 P),o85,o86,o87,o20,o11,(o91 P),o0,o1,o92,o93,o0,(o94 P),o95,o96,o97,o0,o1,o98,o99,aoB,o0,o1,aqQ,o0,ap1,apM,anU,o0,o1,aoQ,o0,an1,ap3,aoR,o0,o1,as4,o0,aqI,apD,aoN,o0,o1,aqA,o0,aoA,aqU,asT,o0,o1,aqC,asE,aoM,o0,o1,arO,o0,aoI,ar6,arL,o0,o1,an2,o0,anY,apA,apJ,o0,o1,aqY,o0,aoZ,aoT,anN,o0,o1,anX,o0,apF,asR,ar3,o0,o1,asL,o0,as0,apV,aqW,o0,o1,aq7,o0,anP,asK,asC,o0,o11,(asF P),o0,asU,arZ,aoH,o0,o1,as3,o0,ap8,arY,apL,o0,o1,ap6,o0,aqT,ap4,asJ,o0,(ap5 P),auG,ap9,ar0,arE,an4,acB,o11,(apS P),o0,aoU,arK,arP,o0,o1,arU,o0,asS,arR,arV,o0,o1,ar7,o0,apH,an6,aoY,o0,o1,ar4,o0,asZ,asH,apW,an9,(ao7 P),aqL,anS,anT,acB,o11,(an3 P),o0,aoJ,ap2,aq0,aqP,o0,o1,asD,o0,asB,anZ,asQ,o0,o1,arX,o0,ar2,anQ,aq4,o0,o1,aoX,o0,apB,apP,asG,aqR,(asN P),arH,aoV,aqX,acB,o11,(apG P),o0,ao1,aoE,ao8,o0,o1,ap7,o0,arQ,an5,arW,o0,o1,ar1,o0,aqD,aqS,aoO,o0,o1,as2,o0,apT,apN,asI,arT,(anW P),apK,aoS,arD,acB,o11,(azA P),o0,awX,avB,atD,o0,o1,av6,o0,awC,auX,av5,o0,o1,auE,o0,ayD,axK,av1,o0,(ay8 P),avL,ay3,axS,acB,o11,(avJ P),o0,avQ,awA,av4,o0,o1,ayK,o0,axJ,axH,avO,o0,o1,ax1,o0,awN,axN,auR,o0,o1,axI,o0,awZ,awR,as9,atA,(ax2 P),at4,auA,auS,acB,o11,(avW P),o0,axD,auF,at0,o0,o1,awH,o0,au5,aw6,awE,o0,o1,ax7,o0,awM,avE,avS,o0,o1,ayQ,o0,at6,ayT,axO,auL,(ay0 P),av9,atJ,auN,acB,o11,(avI P),o0,ayW,atZ,ayV,o0,o1,atF,o0,avY,avA,awD,o0,o1,avF,o0,atM,atW,ayL,o0,o1,axL,o0,atB,ayJ,atY,auT,(axQ P),ayI,awT,au0,o0,o1,auH,o0,atP,axX,avV,o0,o1,avC,o0,awO,au6,auC,o0,o1,auQ,o0,auM,avK,atS,o0,o1,axV,o0,av3,ayN,ayG,o0,o1,avU,o0,atN,ayF,av7,o0,o1,ay2,o0,ayC,ayR,aw3,o0,o1,aw2,o0,aw7,axF,atC,o0,o1,aw8,o0,awI,ay7,atQ,o0,o1,at1,o0,ay1,ayX,axM,o0,o1,ayP,o0,av0,au9,ayZ,o0,o1,avG,o0,auD,at2,ax6,o0,o1,avT,o0,atR,axA,avX,o0,o1,ay9,o0,at9,axZ,awJ,o0,o1,ayO,o0,auW,au7,atL,o0,o1,ay5,avR,auZ,o0,o1,awY,o0,aw5,axE,awS,o0,o1,avZ,o0,aw1,atE,auU,o0,o1,atO,ayE,ayU]⟩,⟨[],[],[],0,[],[],false,#[],[],0,false,false,false,0,[2000,10,10],false,0,true,[],[],0,false⟩⟩
def sF(w:World)(os:OsState):Shared:=⟨hF w.params,#[],⟨0,0,0,0⟩,993,os⟩
theorem fin(w:World)(os:OsState):
  topRun treeTable pw w 11 an 2 (s3 w os).abs (restOf [] ev cd ⟨325,0,338,15⟩ bk) =
  some (sF w os):=by kernel_rfl
theorem bis:bi=(l0++(l1++(l2++[]))):=by kernel_rfl
theorem run(w:World)(os:OsState):topRun treeTable pw w 11 an (12+(1+(1812+(1895+(1778+(2)))))) ⟨boot_heap w.params,⟨[]⟩,boot_drawn,boot_toks,os⟩ (topStub pw)=some (sF w os):=by
 refine go_top (pre w os) (piece_block (blk w os) ?_)
 rw[bis]
 exact (piece_app (segRun_of (r0 w os)) (piece_app (segRun_of (r1 w os)) (piece_app (segRun_of (r2 w os)) (fin w os))))
theorem opn:∀w:World,(fencedOpening treeTable pw w 11090).map (fun s=>(s.heap,s.gens,s.drawn,s.toks))=some (boot_heap w.params,⟨[]⟩,boot_drawn,boot_toks):=
 boot_open (by kernel_rfl) rfl (fun s=>by kernel_rfl)
theorem siz(w:World):((boot_heap w.params).isNs mainGlobals&&(⟨[]⟩:Array GenState).size==0,(boot_heap w.params).objs.size,(boot_heap w.params).nsMap mainGlobals "__annotations__")=(true,11,an):=by kernel_rfl
end
end
theorem awB{q:Program}{loose mods:List Str}{Xt:Shared->Bool}{s:Shared}
  (e1:seen ((recsOf q).map (·.name)) (ownsOf q) [] {s with gens:= #[]}=expectedOf q) (e2:s.heap.bltView=bltViewBooted)
  (a1:s.heap.keysOk (looseW q loose) ((recsOf q).map (·.name)) ((litsOf q).map (·.1)) ((clssOf q (looseW q loose)).map (·.name))=true)
  (a2:s.heap.accountedOkI mods=true) (a3:s.heap.isNs mainGlobals=true) (a4:s.heap.isNs builtinsNs=true)
  (a5:tablesOk q s.heap=true) (a6:Xt s=true) (a7:(s.gens.size==0)=true) (e4:tabsOk q s=true)
  (e5:pinSeenD q (drecsOf q) s=pinGoodD (drecsOf q)) (e6:plainSeenE q (looseW q loose) s=plainGoodE q (looseW q loose))
  (e7:plainSeenD q loose s=plainGoodD q loose) (e8:wideSeen q s=wideGood q) (e9:clsSeenW q loose s=clsGoodW q loose):
  openSeen q loose mods Xt true s=openGood q loose:=by
 unfold openSeen openGood
 rw[e1,e2,a1,a2,a3,a4,a5,a6,if_pos rfl,a7,e4,e5,e6,e7,e8,e9];rfl
noncomputable def seenBy:Program:=view PySem.Challenge.pw_fivefields_k38_marks_refused [0,2,3,4,5,6,7,8,9,10,12,13,14,16,17,18,19,20,21,22,23,24,26,27,28,29,30,31,32,33,34,35,36,37,38,39,40,41,42,43,44,45,46,47,48,49,50,51,53,54,55,56,57,58,59,60,61,62,63,64]
noncomputable def free:List Str:=[Str.ofString "Last"]
noncomputable def read:List (Str×WData):=[]
section
set_option maxHeartbeats 0
set_option maxRecDepth 100000
noncomputable section
def XT:Shared->Bool:=fun z=>xlAt seenBy read z&&recOk (RowW.records (OpenRow.toRowW (OpenLaw.row PySem.Challenge.rw_fivefields_k38_marks_refused))) z
abbrev SE(w:World)(os:OsState):=openSeen seenBy free (importedModules pw.main.body) XT true (sF w os)
section
variable(w:World)(os:OsState)
theorem z1:seen ((recsOf seenBy).map (·.name)) (ownsOf seenBy) [] {sF w os with gens:= #[]}=expectedOf seenBy:=by kernel_rfl
theorem z2:(sF w os).heap.bltView=bltViewBooted:=by kernel_rfl
theorem y1:(sF w os).heap.keysOk (looseW seenBy free) ((recsOf seenBy).map (·.name)) ((litsOf seenBy).map (·.1)) ((clssOf seenBy (looseW seenBy free)).map (·.name))=true:=by kernel_rfl
theorem y2:(sF w os).heap.accountedOkI (importedModules pw.main.body)=true:=by kernel_rfl
theorem y3:(sF w os).heap.isNs mainGlobals=true:=by kernel_rfl
theorem y4:(sF w os).heap.isNs builtinsNs=true:=by kernel_rfl
theorem y5:tablesOk seenBy (sF w os).heap=true:=by kernel_rfl
theorem y6:XT (sF w os)=true:=by kernel_rfl
theorem y7:((sF w os).gens.size==0)=true:=by kernel_rfl
theorem z4:tabsOk seenBy (sF w os)=true:=by kernel_rfl
theorem z5:pinSeenD seenBy (drecsOf seenBy) (sF w os)=pinGoodD (drecsOf seenBy):=by kernel_rfl
theorem z6:plainSeenE seenBy (looseW seenBy free) (sF w os)=plainGoodE seenBy (looseW seenBy free):=by kernel_rfl
theorem z7:plainSeenD seenBy free (sF w os)=plainGoodD seenBy free:=by kernel_rfl
theorem z8:wideSeen seenBy (sF w os)=wideGood seenBy:=by kernel_rfl
theorem z9:clsSeenW seenBy free (sF w os)=clsGoodW seenBy free:=by kernel_rfl
theorem look:SE w os=openGood seenBy free:=awB (q:=seenBy) (loose:=free) (mods:=importedModules pw.main.body) (Xt:=XT) (s:=sF w os) (z1 w os) (z2 w os) (y1 w os) (y2 w os) (y3 w os) (y4 w os) (y5 w os) (y6 w os) (y7 w os) (z4 w os) (z5 w os) (z6 w os) (z7 w os) (z8 w os) (z9 w os)
end
theorem lk0(w:World)(os:OsState):(staticsOk (importedModules pw.main.body) (boot_heap w.params) (hF w.params)&&namesBound pw (hF w.params)
  &&gensDone (sF w os)&&laidKept (boot_heap w.params) (hF w.params))=true:=by kernel_rfl
end
end
end Hd
set_option Elab.async false
set_option linter.all false
set_option maxRecDepth 100000
namespace L2
open PySem PySem.Spec PyProof.Rows
abbrev Key:=Sum Int Str
def am5:Key->Value->Bool
 |.inl k,v=>Value.isInt k v
 |.inr x,v=>Value.isStrOf x v
def keyH(w:World):Key->Int
 |.inl k=>hashInt k
 |.inr x=>hashStr w x
theorem aaS:∀{k:Key} {v:Value},am5 k v=true->(∃i t,k=Sum.inl i/\v=Value.int i t)∨(∃x t,k=Sum.inr x/\v=Value.str x t)
 |.inl i,v,h=>by
  obtain⟨t,e⟩:=Value.isInt_shape (k:=i) (v:=v) h
  exact .inl ⟨i,t,rfl,e⟩
 |.inr x,v,h=>by
  obtain⟨t,e⟩:=Value.isStrOf_shape (x:=x) (v:=v) h
  exact .inr ⟨x,t,rfl,e⟩
theorem arI(a b:Int):decide ((Sum.inl a:Key)=Sum.inl b)=(a==b):=by
 by_cases e:a=b
 ·subst e;simp
 ·have h:¬(Sum.inl a:Key)=Sum.inl b:=fun q=>e (Sum.inl.inj q)
  rw[decide_eq_false h]
  exact (beq_eq_false_iff_ne.mpr e).symm
theorem arA(a b:Str):decide ((Sum.inr a:Key)=Sum.inr b)=decide (a=b):=by
 by_cases e:a=b
 ·subst e;simp
 ·have h:¬(Sum.inr a:Key)=Sum.inr b:=fun q=>e (Sum.inr.inj q)
  rw[decide_eq_false h,decide_eq_false e]
theorem ar5(a:Int)(b:Str):decide ((Sum.inl a:Key)=Sum.inr b)=false:=decide_eq_false (fun q=>nomatch q)
theorem aq9(a:Str)(b:Int):decide ((Sum.inr a:Key)=Sum.inl b)=false:=decide_eq_false (fun q=>nomatch q)
def ai8(prog:Program)(w:World):PySem.KeyKind prog w Key where
 is:=am5
 hash:=keyH w
 inj:=fun v a b ha hb=>by
  rcases aaS ha with ⟨i,t,rfl,rfl⟩ | ⟨x,t,rfl,rfl⟩
  ·rcases aaS hb with ⟨j,u,rfl,e⟩ | ⟨y,u,rfl,e⟩
   ·injection e with e1 _;rw[e1]
   ·exact nomatch e
  ·rcases aaS hb with ⟨j,u,rfl,e⟩ | ⟨y,u,rfl,e⟩
   ·exact nomatch e
   ·injection e with e1 _;rw[e1]
 byValue:=fun k v h=>by
  rcases aaS h with ⟨i,t,rfl,rfl⟩ | ⟨x,t,rfl,rfl⟩<;>rfl
 pyHash:=fun hv h=>by
  rcases aaS hv with ⟨i,t,rfl,rfl⟩ | ⟨x,t,rfl,rfl⟩
  ·exact wpAny_pyHash_int h
  ·exact wpAny_pyHash_str h
 eqBool:=fun hu hv h=>by
  rcases aaS hu with ⟨i,t,rfl,rfl⟩ | ⟨x,t,rfl,rfl⟩
  ·rcases aaS hv with ⟨j,u,rfl,rfl⟩ | ⟨y,u,rfl,rfl⟩
   ·rw[arI] at h;exact wpAny_eqBool_int h
   ·rw[ar5] at h;exact SeqAt.EqAt.int_str i t y u _ _ _ _ h
  ·rcases aaS hv with ⟨j,u,rfl,rfl⟩ | ⟨y,u,rfl,rfl⟩
   ·rw[aq9] at h;exact SeqAt.EqAt.str_int x t j u _ _ _ _ h
   ·rw[arA] at h;exact wpAny_eqBool_str h
 «strs»:=fun k x t v h=>by
  rcases aaS h with ⟨i,u,rfl,e⟩ | ⟨y,u,rfl,e⟩
  ·exact nomatch e
  ·injection e with e1 _
   subst e1
   cases v<;>rfl
inductive V where
 |non | bl (b:Bool) | int (i:Int) | str (x:Str) | byt (b:Array UInt8) | flt (b:UInt64) | ref (a:Addr) | ty (n:String)
 deriving DecidableEq
def RelV:V->Value->Prop
 |.non,u=>u=Value.none
 |.bl b,u=>u=Value.bool b
 |.int i,u=>∃t,u=Value.int i t
 |.str x,u=>∃t,u=Value.str x t
 |.byt b,u=>∃t,u=Value.bytes b t
 |.flt b,u=>∃t,u=Value.float b t
 |.ref a,u=>u=Value.ref a
 |.ty n,u=>u=Value.type n
abbrev Vals:List V->List Value->Prop:=Paired RelV
theorem Vals.length{xs:List V}{us:List Value}(r:Vals xs us):xs.length=us.length:=Paired.length r
theorem Vals.get:∀{xs:List V} {us:List Value} {i:Nat} {x:V},Vals xs us->xs[i]? =some x->∃u,us[i]? =some u/\RelV x u
 |_,_,_,_,.nil,e=>by simp at e
 |_,_,0,_,.cons r _,e=>by simp at e;subst e;exact⟨_,rfl,r⟩
 |_,_,i+1,x,.cons _ t,e=>by
  obtain⟨u,h1,h2⟩:=Vals.get (i:=i) (x:=x) t (by simpa using e)
  exact⟨u,by simpa using h1,h2⟩
theorem Vals.set{x:V}{u:Value}(r:RelV x u):∀{xs:List V} {us:List Value} (i:Nat),Vals xs us->Vals (xs.set i x) (us.set i u)
 |_,_,_,.nil=>.nil
 |_,_,0,.cons _ t=>.cons r t
 |_,_,i+1,.cons q t=>.cons q (Vals.set r i t)
theorem Vals.append:∀{xs ys:List V} {us ws:List Value},Vals xs us->Vals ys ws->Vals (xs++ys) (us++ws)
 |_,_,_,_,.nil,s=>s
 |_,_,_,_,.cons r t,s=>.cons r (Vals.append t s)
theorem Vals.take:∀{xs:List V} {us:List Value} (n:Nat),Vals xs us->Vals (xs.take n) (us.take n)
 |_,_,0,_=>.nil
 |_,_,_+1,.nil=>.nil
 |_,_,n+1,.cons r t=>.cons r (Vals.take n t)
theorem Vals.drop:∀{xs:List V} {us:List Value} (n:Nat),Vals xs us->Vals (xs.drop n) (us.drop n)
 |_,_,0,r=>r
 |_,_,_+1,.nil=>.nil
 |_,_,n+1,.cons _ t=>Vals.drop n t
def amO:Option V->Option Value->Prop
 |some v,some u=>RelV v u
 |none,none=>True
 |_,_=>False
def KV{κ:Type}:List (κ×V)->List (κ×Value)->Prop:=Paired fun (p:κ×V) (q:κ×Value)=>p.1=q.1/\RelV p.2 q.2
def kV:Key->V
 |.inl i=>.int i
 |.inr x=>.str x
inductive HO where
 |lst (xs:List V)
 |tup (xs:List V)
 |dK (kvs:List (Key×V)) | dT (kvs:List (List Key×V))
 |set (S:Int->Bool) (n:Nat)
 |ins (C dx:Addr) (fs:List (Str×V))
 |own (x:Addr)
 |xd (fs:List (Str×V))
 |met (f x:Addr)
 |rng (lo hi:Int)
 |frz (o:Obj) (u:HO)
 |tbl (ps:Array Value)
 |ext (φ:Heap->Prop)
abbrev Hp:=Addr->Option HO
def upd(H:Hp)(a:Addr)(o:HO):Hp:=fun b=>if b=a then some o else H b
theorem aaA{H:Hp}{a:Addr}{o:HO}:upd H a o a=some o:=by unfold upd;rw[if_pos rfl]
theorem aaD{H:Hp}{a b:Addr}{o:HO}(h:b≠a):upd H a o b=H b:=by unfold upd;rw[if_neg h]
theorem aaE{H:Hp}{a b:Addr}{o:HO}(h:H a=some o)(h':H b=none):a≠b:=by
 intro e;subst e;rw[h] at h';cases h'
section
variable(P:Program)(w:World)
def ObjOk(H:Hp)(h:Heap)(a:Addr):HO->Prop
 |.lst xs=>xs.length<=sizeLine/\∃(its:List Value) (n:Nat),Vals xs its/\h.get? a=some {cls:=.type "list",data:=.seq its.toArray n}
 |.tup xs=>xs.length<=sizeLine/\∃its:List Value,Vals xs its/\IsTup h a its.toArray
 |.dK kvs=>kvs.length<=sizeLine/\(a==sysModules)=false/\∃vs,KV kvs vs/\h.DictOf (ai8 P w) a vs
 |.dT kvs=>kvs.length<=sizeLine/\(a==sysModules)=false/\∃xs:List (List Key×Addr×Value),
   Paired (fun (p:List Key×V) (q:List Key×Addr×Value)=>p.1=q.1/\H q.2.1=some (.tup (p.1.map kV))/\RelV p.2 q.2.2) kvs xs/\
   ∃o es ep,h.get? a=some o/\o.ExactDict/\o.data=.dict es ep/\es.toList=xs.map (entryOfKey (tupleKind (ai8 P w)))/\(xs.map (·.1)).Nodup
 |.set S n=>h.SetOf (intKind P w) a S n
 |.ins C dx fs=>H dx=some (.own a)/\fs.length<=1000/\dx≠a/\h.get? a=some (PySem.W.instObj C dx)/\
   ∃mA,h.Ns1 dx mA/\(∀f,amO (fs.lookup f) (mA f))/\PySem.Within mA (fs.map (·.1))
 |.own _=>∃o,h.get? a=some o
 |.xd fs=>∃mA,h.Ns1 a mA/\∀f,amO (fs.lookup f) (mA f)
 |.rng lo hi=>∃t u v,h.get? a=some {cls:=.type "range",data:=.fields #[.int lo t,.int hi u,.int 1 v]}
 |.frz o u=>h.get? a=some o/\ObjOk H h a u
 |.tbl ps=>h.get? a=some {cls:=.none,data:=.fields ps}
 |.met f x=>h.get? a=some (PySem.W.methodObj (.ref f) (.ref x))
 |.ext φ=>φ h/\(∃o,h.get? a=some o)/\∀h1 h2:Heap,φ h1->(∀o,h1.get? a=some o->h2.get? a=some o)->φ h2
def HOk(H:Hp)(h:Heap):Prop:=∀a o,H a=some o->ObjOk P w H h a o
end
section
variable{P:Program}{w:World}{H H':Hp}{h h':Heap}{a:Addr}{o:HO}
theorem ObjOk.lt(x:ObjOk P w H h a o):a<h.objs.size:=by
 cases o with
 |lst xs=>obtain⟨_,_,_,_,e⟩:=x;exact Heap.lt_size e
 |tup xs=>obtain⟨_,_,_,p⟩:=x;exact p.lt
 |dK kvs=>obtain⟨_,_,_,_,o,_,_,e,_⟩:=x;exact Heap.lt_size e
 |dT kvs=>obtain⟨_,_,_,_,o,_,_,e,_⟩:=x;exact Heap.lt_size e
 |set S n=>obtain⟨o,_,_,_,e,_⟩:=x;exact Heap.lt_size e
 |ins C dx fs=>obtain⟨_,_,_,e,_⟩:=x;exact Heap.lt_size e
 |own y=>obtain⟨_,e⟩:=x;exact Heap.lt_size e
 |xd fs=>obtain⟨_,⟨_,_,_,e,_⟩,_⟩:=x;exact Heap.lt_size e
 |rng lo hi=>obtain⟨_,_,_,e⟩:=x;exact Heap.lt_size e
 |frz ob u=>obtain⟨e,_⟩:=x;exact Heap.lt_size e
 |tbl ps=>exact Heap.lt_size (show h.get? a=some _ from x)
 |met f y=>exact Heap.lt_size (show h.get? a=some _ from x)
 |ext φ=>obtain⟨_,⟨_,e⟩,_⟩:=x;exact Heap.lt_size e
theorem Paired.mapP{α β:Type}{F G:α->β->Prop}:∀{l₁:List α} {l₂:List β},Paired F l₁ l₂->(∀a b,F a b->G a b)->Paired G l₁ l₂
 |_,_,.nil,_=>.nil
 |_,_,.cons r t,f=>.cons (f _ _ r) (Paired.mapP t f)
theorem Paired.imp'{α β:Type}{F G:α->β->Prop}(f:∀a b,F a b->G a b){l₁:List α}{l₂:List β}(r:Paired F l₁ l₂):Paired G l₁ l₂:=Paired.mapP r f
theorem ObjOk.stay(x:ObjOk P w H h a o)(k:∀b u,(b=a∨H b=some (.own a))->h.get? b=some u->h'.get? b=some u)
  (ho:∀b,H b=some (.own a)->H' b=some (.own a)) (ht:∀b xs,H b=some (.tup xs)->H' b=some (.tup xs)):ObjOk P w H' h' a o:=by
 induction o with
 |lst xs=>obtain⟨z,its,n,r,e⟩:=x;exact⟨z,its,n,r,k _ _ (.inl rfl) e⟩
 |tup xs=>obtain⟨z,its,r,ob,e,c⟩:=x;exact⟨z,its,r,ob,k _ _ (.inl rfl) e,c⟩
 |dK kvs=>obtain⟨z,y,vs,r,ob,es,ep,e,c⟩:=x;exact⟨z,y,vs,r,ob,es,ep,k _ _ (.inl rfl) e,c⟩
 |dT kvs=>
  obtain⟨z,y,xs,r,ob,es,ep,e,c⟩:=x
  exact⟨z,y,xs,Paired.mapP r fun p q z=>⟨z.1,ht _ _ z.2.1,z.2.2⟩,ob,es,ep,k _ _ (.inl rfl) e,c⟩
 |set S n=>obtain⟨ob,es,ep,t,e,c⟩:=x;exact⟨ob,es,ep,t,k _ _ (.inl rfl) e,c⟩
 |ins C dx fs=>
  obtain⟨d,z,ne,e,mA,⟨od,es,ep,e2,c⟩,r⟩:=x
  exact⟨ho _ d,z,ne,k _ _ (.inl rfl) e,mA,⟨od,es,ep,k _ _ (.inr d) e2,c⟩,r⟩
 |own y=>obtain⟨ob,e⟩:=x;exact⟨ob,k _ _ (.inl rfl) e⟩
 |xd fs=>obtain⟨mA,⟨od,es,ep,e,c⟩,r⟩:=x;exact⟨mA,⟨od,es,ep,k _ _ (.inl rfl) e,c⟩,r⟩
 |rng lo hi=>obtain⟨t,u,v,e⟩:=x;exact⟨t,u,v,k _ _ (.inl rfl) e⟩
 |frz ob u ih=>obtain⟨e,q⟩:=x;exact⟨k _ _ (.inl rfl) e,ih q⟩
 |tbl ps=>
  have e:h.get? a=some {cls:=.none,data:=.fields ps}:=x
  show h'.get? a=some {cls:=.none,data:=.fields ps}
  exact k a _ (.inl rfl) e
 |met f y=>
  have e:h.get? a=some (PySem.W.methodObj (.ref f) (.ref y)):=x
  show h'.get? a=some (PySem.W.methodObj (.ref f) (.ref y))
  exact k a _ (.inl rfl) e
 |ext φ=>obtain⟨p,⟨o,e⟩,st⟩:=x;exact⟨st _ _ p fun o q=>k _ _ (.inl rfl) q,⟨o,k _ _ (.inl rfl) e⟩,st⟩
theorem HOk.lt(x:HOk P w H h)(e:H a=some o):a<h.objs.size:=(x a o e).lt
theorem HOk.fresh(x:HOk P w H h)(e:h.objs.size<=a):H a=none:=by
 cases q:H a with
 |none=>rfl
 |some u=>exact absurd (Nat.lt_of_lt_of_le (x.lt q) e) (Nat.lt_irrefl _)
theorem HOk.kept(x:HOk P w H h)(k:∀b u,h.get? b=some u->h'.get? b=some u):HOk P w H h':=fun a o e=>
 (x a o e).stay (fun b u _ q=>k b u q) (fun _ q=>q) fun _ _ q=>q
theorem HOk.laid(x:HOk P w H h)(k:∀b u,h.get? b=some u->h'.get? b=some u)(hp:h.objs.size<=a)(new:ObjOk P w (upd H a o) h' a o):HOk P w (upd H a o) h':=fun b u e=>by
 have hn:=x.fresh hp
 by_cases hb:b=a
 ·subst hb;rw[aaA] at e;cases e;exact new
 ·rw[aaD hb] at e
  exact (x b u e).stay (fun c v _ q=>k c v q) (fun c q=>by rw[aaD (aaE q hn)];exact q) fun c xs q=>by rw[aaD (aaE q hn)];exact q
end
def Rd(H:Hp)(a:Addr)(u:HO):Prop:=H a=some u∨∃o,H a=some (.frz o u)
theorem Rd.ok{P:Program}{w:World}{H:Hp}{h:Heap}{a:Addr}{u:HO}(r:Rd H a u)(x:HOk P w H h):ObjOk P w H h a u:=by
 rcases r with r | ⟨o,r⟩
 ·exact x a u r
 ·obtain⟨_,q⟩:=x a _ r
  exact q
def Mut:Option HO->Prop
 |some (.lst _)=>True
 |some (.dK _)=>True
 |some (.dT _)=>True
 |some (.set _ _)=>True
 |some (.ins _ _ _)=>True
 |some (.ext _)=>True
 |_=>False
section
variable{P:Program}{w:World}{H:Hp}{h h':Heap}{x e:Addr}{o':HO}
theorem HOk.write(ok:HOk P w H h)(mu:Mut (H x))(he:e=x∨H e=some (.own x))(k:∀b u,b≠e->h.get? b=some u->h'.get? b=some u)(heo:∃u,h'.get? e=some u)
  (new:ObjOk P w (upd H x o') h' x o'):HOk P w (upd H x o') h':=fun b u q=>by
 have nown:∀c y,H c=some (.own y)->c≠x:=fun c y r z=>by subst z;rw[r] at mu;exact mu
 have ntup:∀c xs,H c=some (.tup xs)->c≠x:=fun c xs r z=>by subst z;rw[r] at mu;exact mu
 by_cases hb:b=x
 ·subst hb;rw[aaA] at q;cases q;exact new
 ·rw[aaD hb] at q
  by_cases hbe:b=e
  ·have q':H b=some (.own x):=by
    rcases he with z | z
    ·exact absurd (hbe.trans z) hb
    ·rw[hbe];exact z
   rw[q] at q';cases q'
   obtain⟨v,hv⟩:=heo
   exact⟨v,by rw[hbe];exact hv⟩
  ·refine (ok b u q).stay (fun c v hc r=>k c v ?_ r) (fun c r=>by rw[aaD (nown c b r)];exact r) fun c xs r=>by rw[aaD (ntup c xs r)];exact r
   rcases hc with rfl | hc
   ·exact hbe
   ·rintro rfl
    rcases he with z | z
    ·exact nown c b hc z
    ·rw[hc] at z;cases z;exact hb rfl
end
structure Un(fs ex:List Addr)(H H':Hp)(h h':Heap):Prop where
 keep:∀b o,h.get? b=some o->H b=none->b∉fs->b∉ex->h'.get? b=some o
 slot:∀b o,h.get? b=some o->H b=none->b∈fs->b∉ex->∃sl,h'.get? b=some {o with slots:=sl}
 free:∀b o,h.get? b=some o->H b=none->b∉ex->H' b=none
 there:∀b o,h.get? b=some o->b∉ex->∃o',h'.get? b=some o'
 tups:∀b xs,H b=some (.tup xs)->H' b=some (.tup xs)
 frzs:∀b o u,H b=some (.frz o u)->H' b=some (.frz o u)
 tbls:∀b ps,H b=some (.tbl ps)->∃more,H' b=some (.tbl (ps++more))
section
variable{fs fs' ex ex':List Addr}{H H1 H2:Hp}{h h1 h2 h':Heap}{a x e:Addr}{o:HO}
theorem Un.any(u:Un fs ex H H1 h h1){b:Addr}{ob:Obj}(q:h.get? b=some ob)(n:H b=none)(hx:b∉ex):∃sl,h1.get? b=some {ob with slots:=sl}:=by
 by_cases hb:b∈fs
 ·exact u.slot b ob q n hb hx
 ·exact⟨ob.slots,u.keep b ob q n hb hx⟩
theorem Un.trans(a:Un fs ex H H1 h h1)(b:Un fs ex H1 H2 h1 h2):Un fs ex H H2 h h2 where
 keep:=fun c ob q n hc hx=>b.keep c ob (a.keep c ob q n hc hx) (a.free c ob q n hx) hc hx
 slot:=fun c ob q n hc hx=>by
  obtain⟨sl,e1⟩:=a.slot c ob q n hc hx
  obtain⟨sl',e2⟩:=b.slot c _ e1 (a.free c ob q n hx) hc hx
  exact⟨sl',e2⟩
 free:=fun c ob q n hx=>by
  obtain⟨o',e1⟩:=a.there c ob q hx
  exact b.free c o' e1 (a.free c ob q n hx) hx
 there:=fun c ob q hx=>by
  obtain⟨o',e1⟩:=a.there c ob q hx
  exact b.there c o' e1 hx
 tups:=fun c xs q=>b.tups c xs (a.tups c xs q)
 frzs:=fun c ob xs q=>b.frzs c ob xs (a.frzs c ob xs q)
 tbls:=fun c ps q=>by
  obtain⟨m1,e1⟩:=a.tbls c ps q
  obtain⟨m2,e2⟩:=b.tbls c _ e1
  exact⟨m1++m2,by rw[e2,Array.append_assoc]⟩
theorem Un.kept(k:∀b u,h.get? b=some u->h'.get? b=some u):Un fs ex H H h h':=
 ⟨fun b ob q _ _ _=>k b ob q,fun b ob q _ _ _=>⟨ob.slots,k b ob q⟩,fun _ _ _ n _=>n,fun b ob q _=>⟨ob,k b ob q⟩,fun _ _ q=>q,fun _ _ _ q=>q,fun _ ps q=>⟨#[],by rw[q];simp⟩⟩
theorem Un.refl:Un fs ex H H h h:=Un.kept fun _ _ q=>q
theorem Un.laid(k:∀b u,h.get? b=some u->h'.get? b=some u)(hp:h.objs.size<=a)(hn:H a=none):Un fs ex H (upd H a o) h h' where
 keep:=fun b u q _ _ _=>k b u q
 slot:=fun b u q _ _ _=>⟨u.slots,k b u q⟩
 free:=fun b u q n _=>by rw[aaD (Nat.ne_of_lt (Nat.lt_of_lt_of_le (Heap.lt_size q) hp))];exact n
 there:=fun b u q _=>⟨u,k b u q⟩
 tups:=fun b xs q=>by rw[aaD (aaE q hn)];exact q
 frzs:=fun b u xs q=>by rw[aaD (aaE q hn)];exact q
 tbls:=fun b ps q=>⟨#[],by rw[aaD (aaE q hn),q];simp⟩
theorem Un.write(mu:Mut (H x))(he:e=x∨H e=some (.own x))(k:∀b u,b≠e->h.get? b=some u->h'.get? b=some u)(heo:∃u,h'.get? e=some u):Un fs ex H (upd H x o) h h':=by
 have hx:∀b,H b=none->b≠x:=fun b n z=>by subst z;rw[n] at mu;exact mu
 have hb:∀b,H b=none->b≠e:=fun b n z=>by
  subst z
  rcases he with r | r
  ·exact hx b n r
  ·rw[n] at r;cases r
 have hm:∀b u,H b=some u->¬Mut (some u)->b≠x:=fun b u q nm z=>by subst z;rw[q] at mu;exact nm mu
 refine⟨fun b u q n _ _=>k b u (hb b n) q,fun b u q n _ _=>⟨u.slots,k b u (hb b n) q⟩,fun b u q n _=>by rw[aaD (hx b n)];exact n,fun b u q _=>?_,
  fun b xs q=>by rw[aaD (hm b _ q fun z=>z)];exact q,fun b u xs q=>by rw[aaD (hm b _ q fun z=>z)];exact q,fun b ps q=>⟨#[],by rw[aaD (hm b _ q fun z=>z),q];simp⟩⟩
 by_cases hbe:b=e
 ·subst hbe;exact heo
 ·exact⟨u,k b u hbe q⟩
end
def trk(h:Heap)(H:Hp):List Addr:=(List.range h.objs.size).filter fun a=>(H a).isSome
def agH(h:Heap)(H:Hp):Heap:=PySem.W.hideAll h (trk h H)
theorem ajV(h:Heap)(H:Hp):(agH h H).objs.size=h.objs.size:=PySem.W.hideAll_size _ _
theorem alL{h:Heap}{H:Hp}{b:Addr}{o:Obj}(e:h.get? b=some o)(n:H b=none):(agH h H).get? b=some o:=
 PySem.W.hideAll_get _ e fun hm=>by
  have q:(H b).isSome=true:=(List.mem_filter.mp hm).2
  rw[n] at q;simp at q
theorem al4{h:Heap}{H:Hp}{b:Addr}{o:Obj}(e:(agH h H).get? b=some o):h.get? b=some o/\H b=none:=by
 have e':h.get? b=some o:=PySem.W.of_hideAll (trk h H) e
 refine⟨e',?_⟩
 cases q:H b with
 |none=>rfl
 |some x=>
  have hm:b∈trk h H:=List.mem_filter.mpr ⟨List.mem_range.mpr (Heap.lt_size e'),by simp[q]⟩
  have z:(agH h H).get? b=none:=PySem.W.hideAll_none (trk h H) hm
  rw[z] at e;cases e
def alX(g h:Heap)(L:Addr):List (Addr×Obj):=(List.range h.objs.size).filterMap fun a=>if a=L∨(g.get? a).isSome=true then none else (h.get? a).map fun o=>(a,o)
def rest(g h:Heap)(L d:Addr):List (Addr×Obj):=(alX g h L).filter fun p=>decide (p.1≠d)
structure Mod(K:PySem.W.Frag)(mg:Str->Option Value)(base:Heap):Prop where
 kin:K.In base
 glob:base.Ns mainGlobals mg
 blt:∃mb,base.Ns builtinsNs mb/\∀x:Str,x≠"__name__"->mb x=bootBuiltins x
 nolimit:base.NoLimit
structure Cx where
 prog:Program
 w:World
 K:PySem.W.Frag
 mg:Str->Option Value
 base:Heap
 A:Around
 N:List Str
 s₀:Shared
 H₀:Hp
 env:Env
 outer:List Env
 stack:List Env
 ex:List Addr
 fn:Str->Bool
 calm:Bool
 pn:List (Addr×Obj)
 xe:Value->Shared->Prop
def frs(l:List Env):List Addr:=l.filterMap (·.frame)
abbrev Cx.fs(X:Cx):List Addr:=frs X.outer
def Vis(sc:Scope)(x:Str):Prop:=sc.names.lookup x=some .local∨sc.names.lookup x=some .cell∨sc.names.lookup x=some .free
def Loc(sc:Scope)(x:Str):Prop:=sc.names.lookup x=some .local∨sc.names.lookup x=some .cell
def Look(env:Env)(h:Heap)(m:Str->Option Value)(x:Str)(u:Value):Prop:=
 (env.kindOf x=some .local/\m x=some u)∨((env.kindOf x=some .cell∨env.kindOf x=some .free)/\∃c,env.cells.lookup x=some c/\h.IsCell c (some u))
structure Cx.Ok(X:Cx):Prop where
 mod:Mod X.K X.mg X.base
 kind:X.env.scope.kind=.function
 glob:X.env.globals=mainGlobals
 blt:X.env.builtins=builtinsNs
 above:X.s₀.heap.objs.size<=X.env.locals
 inj:∀x y c,X.env.cells.lookup x=some c->X.env.cells.lookup y=some c->x=y
 has:∀x,(X.env.kindOf x=some .cell∨X.env.kindOf x=some .free)->∃c,X.env.cells.lookup x=some c
 cab:∀x c,X.fn x=true->X.env.cells.lookup x=some c->X.s₀.heap.objs.size<=c
 hd:X.calm=true->X.A.handled=none
 frames:X.A.frames=some X.stack
 stk:X.stack=X.outer∨(X.stack=X.env::X.outer/\X.env.frame=some X.env.locals)
 exf:∀b∈X.ex,b≠X.env.locals/\∀x c,X.env.cells.lookup x=some c->c≠b
 bs:∀b o,X.base.get? b=some o->X.s₀.heap.get? b=some o/\X.H₀ b=none
 bsz:X.base.objs.size<=X.s₀.heap.objs.size
 noex:∀b o,X.base.get? b=some o->b∉X.ex
 exfs:∀b∈X.ex,b∉X.fs
 funs:X.s₀.heap.FunFrames X.base X.outer
 frf:∀b∈X.fs,X.H₀ b=none
structure Inv(X:Cx)(pins:List (Addr×Obj))(σ:List (Option V))(H:Hp)(s:Shared):Prop where
 ok:X.Ok
 os:s.os=X.s₀.os
 bare:AllBare s.gens
 base:Un X.fs X.ex X.H₀ H X.s₀.heap s.heap
 loc:∃m,s.heap.Ns X.env.locals m/\∀(i:Nat) (x:Str) (v:V),X.N[i]? =some x->σ[i]? =some (some v)->Vis X.env.scope x->∃u,RelV v u/\Look X.env s.heap m x u
 cell:∀x c,X.env.cells.lookup x=some c->∃v,s.heap.IsCell c v
 free:H X.env.locals=none
 freeC:∀x c,X.env.cells.lookup x=some c->H c=none
 pin:∀p∈X.pn++pins,s.heap.get? p.1=some p.2/\H p.1=none/\p.1≠X.env.locals/\p.1∉X.fs/\∀v,p.2.data≠ .cell v
 hok:HOk X.prog X.w H s.heap
 len:σ.length=X.N.length
section
variable{X:Cx}{pins:List (Addr×Obj)}{σ:List (Option V)}{H H':Hp}{s:Shared}{h':Heap}
theorem Cx.Ok.nofr(ok:X.Ok){b:Addr}{o:Obj}(e:X.base.get? b=some o):b∉X.fs:=fun hb=>by
 have:=(ok.funs.mem hb).1
 rw[e] at this;cases this
theorem Inv.bs(I:Inv X pins σ H s):∀b o,X.base.get? b=some o->s.heap.get? b=some o/\H b=none:=fun b o e=>
 ⟨I.base.keep b o (I.ok.bs b o e).1 (I.ok.bs b o e).2 (I.ok.nofr e) (I.ok.noex b o e),I.base.free b o (I.ok.bs b o e).1 (I.ok.bs b o e).2 (I.ok.noex b o e)⟩
theorem Inv.bk(I:Inv X pins σ H s):∀b o,X.base.get? b=some o->s.heap.get? b=some o:=fun b o e=>(I.bs b o e).1
theorem Inv.mod(I:Inv X pins σ H s):Mod X.K X.mg X.base:=I.ok.mod
theorem Inv.kIn(I:Inv X pins σ H s):X.K.In s.heap:=I.ok.mod.kin.keeps I.bk
theorem Inv.lt(I:Inv X pins σ H s):X.env.locals<s.heap.objs.size:=let ⟨_,hn,_⟩:=I.loc;hn.lt
theorem Inv.sz(I:Inv X pins σ H s):X.s₀.heap.objs.size<=s.heap.objs.size:=Nat.le_trans I.ok.above (Nat.le_of_lt I.lt)
theorem Inv.nofs(I:Inv X pins σ H s){a:Addr}(h:s.heap.objs.size<=a):a∉X.fs:=fun hb=>by
 obtain⟨_,o,ho,_⟩:=I.ok.funs.mem hb
 exact absurd (Nat.lt_of_lt_of_le (Heap.lt_size ho) (Nat.le_trans I.sz h)) (Nat.lt_irrefl _)
theorem Inv.cne(I:Inv X pins σ H s):∀x c,X.env.cells.lookup x=some c->c≠X.env.locals:=fun x c e z=>by
 obtain⟨v,o,ho,hd⟩:=I.cell x c e
 obtain⟨m,⟨o',es,ep,ho',hd',_⟩,_⟩:=I.loc
 rw[z,ho'] at ho;cases ho;rw[hd'] at hd;cases hd
theorem Inv.funs(I:Inv X pins σ H s):s.heap.FunFrames X.base X.outer:=by
 have all:∀(l:List Env),(∀b∈frs l,b∈X.fs)->X.s₀.heap.FunFrames X.base l->s.heap.FunFrames X.base l:=by
  intro l
  induction l with
  |nil=>intro _ _;trivial
  |cons env r ih=>
   intro hs hl
   obtain⟨hk,⟨L,o,hf,hn,ho,hd⟩,hr⟩:=hl
   have hL:L∈X.fs:=hs L (by unfold frs;rw[List.filterMap_cons,hf];exact List.mem_cons_self)
   obtain⟨sl,e⟩:=I.base.slot L o ho (I.ok.frf L hL) hL fun z=>I.ok.exfs L z hL
   exact⟨hk,⟨L,_,hf,hn,e,hd⟩,ih (fun b hb=>hs b (by unfold frs;rw[List.filterMap_cons,hf];exact List.mem_cons_of_mem _ hb)) hr⟩
 exact all X.outer (fun _ hb=>hb) I.ok.funs
theorem Inv.stack(I:Inv X pins σ H s):s.heap.FunFrames X.base X.stack:=by
 rcases I.ok.stk with e | ⟨e,hf⟩
 ·rw[e];exact I.funs
 ·rw[e]
  obtain⟨m,hn,_⟩:=I.loc
  refine .cons (by rw[I.ok.kind];decide) hf hn ?_ I.funs
  exact Heap.get?_none_of_le (Nat.le_trans I.ok.bsz I.ok.above)
theorem Inv.stkSub(I:Inv X pins σ H s):∀b∈frs X.stack,b∈X.env.locals::X.fs:=fun b hb=>by
 rcases I.ok.stk with e | ⟨e,hf⟩
 ·rw[e] at hb;exact List.mem_cons_of_mem _ hb
 ·rw[e] at hb
  unfold frs at hb
  rw[List.filterMap_cons,hf] at hb
  exact hb
theorem Inv.stkFree(I:Inv X pins σ H s):∀b∈frs X.stack,H b=none:=fun b hb=>by
 rcases List.mem_cons.mp (I.stkSub b hb) with e | hb
 ·rw[e];exact I.free
 ·obtain⟨_,o,ho,_⟩:=I.ok.funs.mem hb
  exact I.base.free b o ho (I.ok.frf b hb) fun z=>I.ok.exfs b z hb
theorem Inv.step{g':Array GenState}{t':Nat}{d':Drawn}{ch:List Addr}(I:Inv X pins σ H s)
  (hch:∀b∈ch,(b∈X.ex∨X.s₀.heap.objs.size<=b)/\b≠X.env.locals/\(∀x c,X.env.cells.lookup x=some c->c≠b)/\∀p∈X.pn++pins,p.1≠b)
  (keep:∀b o,b≠X.env.locals->b∉X.fs->b∉ch->s.heap.get? b=some o->H b=none->h'.get? b=some o)
  (slot:∀b o,b≠X.env.locals->b∈X.fs->b∉ch->s.heap.get? b=some o->H b=none->∃sl,h'.get? b=some {o with slots:=sl}) (free:∀b o,b∉ch->s.heap.get? b=some o->H b=none->H' b=none)
  (there:∀b o,b∉ch->s.heap.get? b=some o->∃o',h'.get? b=some o')
  (tups:∀b xs,H b=some (.tup xs)->H' b=some (.tup xs)) (frzs:∀b o u,H b=some (.frz o u)->H' b=some (.frz o u)) (tbls:∀b ps,H b=some (.tbl ps)->∃more,H' b=some (.tbl (ps++more)))
  (ns:∀m,s.heap.Ns X.env.locals m->h'.Ns X.env.locals m) (hok:HOk X.prog X.w H' h') (hg:AllBare g'):
  Inv X pins σ H' {s with heap:=h',gens:=g',drawn:=d',toks:=t'}:=by
 have neL:∀b o,X.s₀.heap.get? b=some o->b≠X.env.locals:=fun b o e=>Nat.ne_of_lt (Nat.lt_of_lt_of_le (Heap.lt_size e) I.ok.above)
 have neC:∀b o,X.s₀.heap.get? b=some o->b∉X.ex->b∉ch:=fun b o e hx hb=>by
  rcases (hch b hb).1 with z | z
  ·exact hx z
  ·exact absurd (Nat.lt_of_lt_of_le (Heap.lt_size e) z) (Nat.lt_irrefl _)
 have cellK:∀x c,X.env.cells.lookup x=some c->∀v,s.heap.IsCell c v->h'.IsCell c v:=fun x c e v ⟨o,ho,hd⟩=>by
  have nch:c∉ch:=fun z=>(hch c z).2.2.1 x c e rfl
  by_cases hc:c∈X.fs
  ·obtain⟨sl,q⟩:=slot c o (I.cne x c e) hc nch ho (I.freeC x c e)
   exact⟨_,q,hd⟩
  ·exact⟨o,keep c o (I.cne x c e) hc nch ho (I.freeC x c e),hd⟩
 refine⟨I.ok,I.os,hg,⟨fun b o e n hb hx=>?_,fun b o e n hb hx=>?_,fun b o e n hx=>?_,fun b o e hx=>?_,fun b xs e=>tups b xs (I.base.tups b xs e),fun b o xs e=>frzs b o xs (I.base.frzs b o xs e),fun b ps e=>?_⟩,?_,fun x c e=>?_,?_,fun x c e=>?_,fun p hp=>?_,hok,I.len⟩
 ·exact keep b o (neL b o e) hb (neC b o e hx) (I.base.keep b o e n hb hx) (I.base.free b o e n hx)
 ·obtain⟨sl,e1⟩:=I.base.slot b o e n hb hx
  obtain⟨sl',e2⟩:=slot b _ (neL b o e) hb (neC b o e hx) e1 (I.base.free b o e n hx)
  exact⟨sl',e2⟩
 ·obtain⟨o',e1⟩:=I.base.there b o e hx
  exact free b o' (neC b o e hx) e1 (I.base.free b o e n hx)
 ·obtain⟨o',e1⟩:=I.base.there b o e hx
  exact there b o' (neC b o e hx) e1
 ·obtain⟨m1,e1⟩:=I.base.tbls b ps e
  obtain⟨m2,e2⟩:=tbls b _ e1
  exact⟨m1++m2,by rw[e2,Array.append_assoc]⟩
 ·obtain⟨m,hn,hl⟩:=I.loc
  refine⟨m,ns m hn,fun i x v e1 e2 e3=>?_⟩
  obtain⟨u,r,l⟩:=hl i x v e1 e2 e3
  refine⟨u,r,?_⟩
  rcases l with l | ⟨k,c,e,z⟩
  ·exact .inl l
  ·exact .inr ⟨k,c,e,cellK x c e _ z⟩
 ·obtain⟨v,z⟩:=I.cell x c e
  exact⟨v,cellK x c e v z⟩
 ·obtain⟨m,⟨o,_,_,ho,_⟩,_⟩:=I.loc
  exact free _ o (fun z=>(hch _ z).2.1 rfl) ho I.free
 ·obtain⟨v,o,ho,hd⟩:=I.cell x c e
  exact free c o (fun z=>(hch c z).2.2.1 x c e rfl) ho (I.freeC x c e)
 ·obtain⟨e,n,ne,nf,d⟩:=I.pin p hp
  have nch:p.1∉ch:=fun z=>(hch p.1 z).2.2.2 p hp rfl
  exact⟨keep p.1 p.2 ne nf nch e n,free p.1 p.2 nch e n,ne,nf,d⟩
theorem Inv.un{t':Nat}(I:Inv X pins σ H s)(u:Un X.fs [] H H' s.heap h')(hok:HOk X.prog X.w H' h'):Inv X pins σ H' {s with heap:=h',toks:=t'}:=by
 obtain⟨m,⟨o,es,ep,ho,r⟩,_⟩:=id I.loc
 obtain⟨sl,hL⟩:=u.any ho I.free (by simp)
 exact I.step (g':=s.gens) (d':=s.drawn) (ch:=[]) (fun _ z=>nomatch z) (fun b o _ hb _ e n=>u.keep b o e n hb (by simp)) (fun b o _ hb _ e n=>u.slot b o e n hb (by simp)) (fun b o _ e n=>u.free b o e n (by simp)) (fun b o _ e=>u.there b o e (by simp)) u.tups u.frzs u.tbls (fun m' hm=>by
  obtain⟨o',es',ep',ho',r'⟩:=hm
  rw[ho] at ho';cases ho'
  exact⟨_,es',ep',hL,r'⟩) hok I.bare
theorem Inv.call{g':Array GenState}{t':Nat}{d':Drawn}{ch:List Addr}(I:Inv X pins σ H s)(u:Un (frs X.stack) ch H H' s.heap h')(hok:HOk X.prog X.w H' h')(hg:AllBare g')
  (hch:∀b∈ch,(b∈X.ex∨X.s₀.heap.objs.size<=b)/\b≠X.env.locals/\(∀x c,X.env.cells.lookup x=some c->c≠b)/\∀p∈X.pn++pins,p.1≠b):
  Inv X pins σ H' {s with heap:=h',gens:=g',drawn:=d',toks:=t'}:=by
 obtain⟨m,⟨o,es,ep,ho,r⟩,_⟩:=id I.loc
 obtain⟨sl,hL⟩:=u.any ho I.free fun z=>(hch _ z).2.1 rfl
 exact I.step (ch:=ch) hch (fun b o hL hb hc e n=>u.keep b o e n (fun z=>(List.mem_cons.mp (I.stkSub b z)).elim hL hb) hc) (fun b o _ _ hc e n=>u.any e n hc) (fun b o hc e n=>u.free b o e n hc) (fun b o hc e=>u.there b o e hc) u.tups u.frzs u.tbls (fun m' hm=>by
  obtain⟨o',es',ep',ho',r'⟩:=hm
  rw[ho] at ho';cases ho'
  exact⟨_,es',ep',hL,r'⟩) hok hg
theorem Inv.turned{t':Nat}{it:Addr}(I:Inv X pins σ H s)(k:∀b o,b≠it->s.heap.get? b=some o->h'.get? b=some o)(hn:H it=none)(hL:it≠X.env.locals)
  (h1:it∈X.ex∨X.s₀.heap.objs.size<=it) (h2:∀x c,X.env.cells.lookup x=some c->c≠it) (h3:∀p∈X.pn++pins,p.1≠it):Inv X pins σ H {s with heap:=h',toks:=t'}:=by
 have nit:∀b u,H b=some u->b≠it:=fun b u e z=>by rw[z,hn] at e;cases e
 refine I.step (g':=s.gens) (d':=s.drawn) (ch:=[it]) (fun b hb=>?_) (fun b o _ _ hc e _=>k b o (fun z=>hc (by simp[z])) e) (fun b o _ _ hc e _=>⟨o.slots,k b o (fun z=>hc (by simp[z])) e⟩) (fun _ _ _ _ n=>n)
  (fun b o hc e=>⟨o,k b o (fun z=>hc (by simp[z])) e⟩) (fun _ _ e=>e) (fun _ _ _ e=>e) (fun b ps e=>⟨#[],by rw[e];simp⟩) (fun m hm=>?_) (fun b u e=>?_) I.bare
 ·have e:b=it:=by simpa using hb
  subst e
  exact⟨h1,hL,h2,h3⟩
 ·obtain⟨o,es,ep,ho,r⟩:=hm
  exact⟨o,es,ep,k _ o (Ne.symm hL) ho,r⟩
 ·refine (I.hok b u e).stay (fun c v hc q=>k c v ?_ q) (fun _ q=>q) fun _ _ q=>q
  rcases hc with z | z
  ·rw[z];exact nit b u e
  ·exact nit c _ z
theorem Inv.tok(I:Inv X pins σ H s)(t:Nat):Inv X pins σ H {s with toks:=t}:=I.un (h':=s.heap) (t':=t) Un.refl I.hok
theorem Inv.kept{t':Nat}(I:Inv X pins σ H s)(k:∀b u,s.heap.get? b=some u->h'.get? b=some u):Inv X pins σ H {s with heap:=h',toks:=t'}:=I.un (Un.kept k) (I.hok.kept k)
theorem Inv.laid{a:Addr}{o:HO}{t':Nat}(I:Inv X pins σ H s)(k:∀b u,s.heap.get? b=some u->h'.get? b=some u)(hp:s.heap.objs.size<=a)(new:ObjOk X.prog X.w (upd H a o) h' a o):
  Inv X pins σ (upd H a o) {s with heap:=h',toks:=t'}:=I.un (Un.laid k hp (I.hok.fresh hp)) (I.hok.laid k hp new)
theorem Inv.write{x e:Addr}{o:HO}{t':Nat}(I:Inv X pins σ H s)(mu:Mut (H x))(he:e=x∨H e=some (.own x))(k:∀b u,b≠e->s.heap.get? b=some u->h'.get? b=some u)(heo:∃u,h'.get? e=some u)
  (new:ObjOk X.prog X.w (upd H x o) h' x o):Inv X pins σ (upd H x o) {s with heap:=h',toks:=t'}:=I.un (Un.write mu he k heo) (I.hok.write mu he k heo new)
theorem Inv.pins_of{pins':List (Addr×Obj)}(I:Inv X pins σ H s)(h:∀p∈pins',s.heap.get? p.1=some p.2/\H p.1=none/\p.1≠X.env.locals/\p.1∉X.fs/\∀v,p.2.data≠ .cell v):Inv X pins' σ H s:=
 ⟨I.ok,I.os,I.bare,I.base,I.loc,I.cell,I.free,I.freeC,fun p hp=>(List.mem_append.mp hp).elim (fun z=>I.pin p (List.mem_append_left _ z)) (h p),I.hok,I.len⟩
theorem ah1{N:List Str}(hN:N.Nodup){i j:Nat}{x:Str}(a:N[i]? =some x)(b:N[j]? =some x):i=j:=by
 obtain⟨h1,e1⟩:=List.getElem?_eq_some_iff.mp a
 obtain⟨h2,e2⟩:=List.getElem?_eq_some_iff.mp b
 exact (List.getElem_inj hN).mp (e1.trans e2.symm)
theorem afU{M:Model}{A:Around}{E:Value->Shared->Prop}{i:Nat}{x:Str}{v:V}{u:Value}{Q:Unit->Shared->Prop}(I:Inv X pins σ H s)(hN:X.N.Nodup)(hi:X.N[i]? =some x)(hx:Loc X.env.scope x)(r:RelV v u)
  (h:∀s',Inv X pins (σ.set i (some v)) H s'->(∃a,Heap.SameBut a s.heap s'.heap/\(a=X.env.locals∨X.env.cells.lookup x=some a))->Q () s') (hf:X.fn x=true∨X.env.scope.names.lookup x=some .local:=by first | exact .inl rfl | exact .inr rfl | assumption):wpAny M A (storeName X.env x u) Q E s:=by
 obtain⟨m,hn,hl⟩:=id I.loc
 have hcls:(X.env.scope.kind== .class||(X.env.scope.kind== .module&&X.env.locals !=X.env.globals))=false:=by rw[I.ok.kind];rfl
 have hiσ:i<σ.length:=by rw[I.len];exact (List.getElem?_eq_some_iff.mp hi).1
 have cne:=I.cne
 have tracked:∀{a:Addr} {h':Heap},(∃o,s.heap.get? a=some o/\H a=none)->Heap.SameBut a s.heap h'->HOk X.prog X.w H h':=fun {a h'} ha hs b ob e=>by
  obtain⟨_,_,hfree⟩:=ha
  refine (I.hok b ob e).stay (fun c w' hc q=>(hs.2 c ?_).trans q) (fun _ q=>q) fun _ _ q=>q
  rintro rfl
  rcases hc with rfl | hc
  ·rw[hfree] at e;cases e
  ·rw[hfree] at hc;cases hc
 rcases hx with hk | hk
 ·refine wpAny_storeName_local hk hn (fun h' hn' hs=>?_) hcls
  obtain⟨oL,_,_,hoL,_⟩:=id hn
  refine h _ ⟨I.ok,I.os,I.bare,⟨fun b o e n hb hx=>?_,fun b o e n hb hx=>?_,I.base.free,fun b o e hx=>?_,I.base.tups,I.base.frzs,I.base.tbls⟩,⟨_,hn',fun j y v' e1 e2 e3=>?_⟩,fun y c e=>?_,I.free,I.freeC,fun p hp=>?_,tracked ⟨oL,hoL,I.free⟩ hs,by simpa using I.len⟩ ⟨_,hs,.inl rfl⟩
  ·exact (hs.2 b (Nat.ne_of_lt (Nat.lt_of_lt_of_le (Heap.lt_size e) I.ok.above))).trans (I.base.keep b o e n hb hx)
  ·obtain⟨sl,e1⟩:=I.base.slot b o e n hb hx
   exact⟨sl,(hs.2 b (Nat.ne_of_lt (Nat.lt_of_lt_of_le (Heap.lt_size e) I.ok.above))).trans e1⟩
  ·obtain⟨o',e1⟩:=I.base.there b o e hx
   exact⟨o',(hs.2 b (Nat.ne_of_lt (Nat.lt_of_lt_of_le (Heap.lt_size e) I.ok.above))).trans e1⟩
  ·by_cases hj:j=i
   ·subst hj
    rw[hi] at e1;cases e1
    rw[List.getElem?_set_self hiσ] at e2
    cases e2
    exact⟨u,r,.inl ⟨hk,by simp⟩⟩
   ·rw[List.getElem?_set_ne (Ne.symm hj)] at e2
    obtain⟨u',r',q⟩:=hl j y v' e1 e2 e3
    refine⟨u',r',?_⟩
    rcases q with ⟨k,e⟩ | ⟨k,c,e,z⟩
    ·refine .inl ⟨k,?_⟩
     have:y≠x:=fun e=>hj (ah1 hN e1 (e▸hi))
     simp[this,e]
    ·exact .inr ⟨k,c,e,z.sameBut hs (cne y c e)⟩
  ·obtain⟨w',z⟩:=I.cell y c e
   exact⟨w',z.sameBut hs (cne y c e)⟩
  ·obtain⟨e,n,ne,nf,d⟩:=I.pin p hp
   exact⟨(hs.2 p.1 ne).trans e,n,ne,nf,d⟩
 ·have hfn:X.fn x=true:=by
   rcases hf with z | z
   ·exact z
   ·rw[z] at hk;cases hk
  obtain⟨c,hc⟩:=I.ok.has x (.inl hk)
  obtain⟨w',z⟩:=I.cell x c hc
  refine wpAny_storeName_cell I.ok.kind hk hc z (fun h' hc' hs=>?_)
  obtain⟨oc,hoc,hocd⟩:=id z
  refine h {s with heap:=h'} ⟨I.ok,I.os,I.bare,⟨fun b o e n hb hx=>?_,fun b o e n hb hx=>?_,I.base.free,fun b o e hx=>?_,I.base.tups,I.base.frzs,I.base.tbls⟩,⟨m,hn.sameBut hs (Ne.symm (cne x c hc)),fun j y v' e1 e2 e3=>?_⟩,fun y c' e=>?_,I.free,I.freeC,fun p hp=>?_,tracked ⟨oc,hoc,I.freeC x c hc⟩ hs,by simpa using I.len⟩ ⟨c,hs,.inr hc⟩
  ·exact (hs.2 b (Nat.ne_of_lt (Nat.lt_of_lt_of_le (Heap.lt_size e) (I.ok.cab x c hfn hc)))).trans (I.base.keep b o e n hb hx)
  ·obtain⟨sl,e1⟩:=I.base.slot b o e n hb hx
   exact⟨sl,(hs.2 b (Nat.ne_of_lt (Nat.lt_of_lt_of_le (Heap.lt_size e) (I.ok.cab x c hfn hc)))).trans e1⟩
  ·obtain⟨o',e1⟩:=I.base.there b o e hx
   exact⟨o',(hs.2 b (Nat.ne_of_lt (Nat.lt_of_lt_of_le (Heap.lt_size e) (I.ok.cab x c hfn hc)))).trans e1⟩
  ·by_cases hj:j=i
   ·subst hj
    rw[hi] at e1;cases e1
    rw[List.getElem?_set_self hiσ] at e2
    cases e2
    exact⟨u,r,.inr ⟨.inl hk,c,hc,hc'⟩⟩
   ·rw[List.getElem?_set_ne (Ne.symm hj)] at e2
    obtain⟨u',r',q⟩:=hl j y v' e1 e2 e3
    refine⟨u',r',?_⟩
    rcases q with q | ⟨k,c',e,z'⟩
    ·exact .inl q
    ·refine .inr ⟨k,c',e,z'.sameBut hs ?_⟩
     rintro rfl
     exact hj (ah1 hN e1 (I.ok.inj _ _ _ e hc▸hi))
  ·by_cases hcc:c'=c
   ·subst hcc;exact⟨_,hc'⟩
   ·obtain⟨w2,z2⟩:=I.cell y c' e
    exact⟨w2,z2.sameBut hs hcc⟩
  ·obtain⟨e,n,ne,nf,d⟩:=I.pin p hp
   refine⟨(hs.2 p.1 ?_).trans e,n,ne,nf,d⟩
   intro q
   rw[q,hoc] at e
   have q':oc=p.2:=Option.some.inj e
   exact d w' (by rw[←q'];exact hocd)
theorem ab1{M:Model}{A:Around}{E:Value->Shared->Prop}{i:Nat}{x:Str}{v:V}{u:Value}{Q:Unit->Shared->Prop}(I:Inv X pins σ H s)(hN:X.N.Nodup)(hi:X.N[i]? =some x)(hx:Loc X.env.scope x)(r:RelV v u)
  (h:∀s',Inv X pins (σ.set i (some v)) H s'->Q () s') (hf:X.fn x=true∨X.env.scope.names.lookup x=some .local:=by first | exact .inl rfl | exact .inr rfl | assumption):wpAny M A (storeName X.env x u) Q E s:=
 afU I hN hi hx r (fun s' I' _=>h s' I') hf
theorem Inv.call'{s':Shared}{ch:List Addr}(I:Inv X pins σ H s)(ho:s'.os=s.os)(u:Un (frs X.stack) ch H H' s.heap s'.heap)(hok:HOk X.prog X.w H' s'.heap)(hg:AllBare s'.gens)
  (hch:∀b∈ch,(b∈X.ex∨X.s₀.heap.objs.size<=b)/\b≠X.env.locals/\(∀x c,X.env.cells.lookup x=some c->c≠b)/\∀p∈X.pn++pins,p.1≠b):Inv X pins σ H' s':=by
 obtain⟨h',g',d',t',o'⟩:=s'
 have e:o'=s.os:=ho
 subst e
 exact I.call (g':=g') (t':=t') (d':=d') u hok hg hch
end
abbrev XK:=Value->Option Addr->Hp->Prop
abbrev St:=List (Option V)
abbrev VK:=V->Hp->Prop
abbrev TE:=St->Hp->VK->Prop
abbrev TT:=St->Hp->(Bool->Hp->Prop)->Prop
abbrev TA:=St->Hp->(List V->Hp->Prop)->Prop
structure Ends where
 nx:St->Hp->Prop
 rt:VK
 bk:St->Hp->Prop:=fun _ _=>False
 ct:St->Hp->Prop:=fun _ _=>False
abbrev TS:=Ends->St->Hp->Prop
def EP(X:Cx)(pins:List (Addr×Obj))(σ:St)(Q:VK)(u:Value)(s':Shared):Prop:=∃v H',Inv X pins σ H' s'/\RelV v u/\Q v H'
def TP(X:Cx)(pins:List (Addr×Obj))(σ:St)(Q:Bool->Hp->Prop)(b:Bool)(s':Shared):Prop:=∃H',Inv X pins σ H' s'/\Q b H'
def AP(X:Cx)(pins:List (Addr×Obj))(σ:St)(Q:List V->Hp->Prop)(us:List Value)(s':Shared):Prop:=∃vs H',Inv X pins σ H' s'/\Vals vs us/\Q vs H'
def SP(X:Cx)(pins:List (Addr×Obj))(D:Ends)(f:Flow)(s':Shared):Prop:=
 match f with
 |.next=>∃σ' H',Inv X pins σ' H' s'/\D.nx σ' H'
 |.brk=>∃σ' H',Inv X pins σ' H' s'/\D.bk σ' H'
 |.cont=>∃σ' H',Inv X pins σ' H' s'/\D.ct σ' H'
 |.ret u=>∃v σ' H',Inv X pins σ' H' s'/\RelV v u/\D.rt v H'
def PE(X:Cx)(e:Expr)(t:TE):Prop:=
 ∀(pins:List (Addr×Obj)) (s:Shared) (σ:St) (H:Hp) (Q:VK),Inv X pins σ H s->t σ H Q->wpAny (model X.prog X.w) X.A (eval e X.env) (EP X pins σ Q) X.xe s
def PT(X:Cx)(e:Expr)(t:TT):Prop:=
 ∀(pins:List (Addr×Obj)) (s:Shared) (σ:St) (H:Hp) (Q:Bool->Hp->Prop),Inv X pins σ H s->t σ H Q->wpAny (model X.prog X.w) X.A (isTrue e X.env (eval e X.env)) (TP X pins σ Q) X.xe s
def PW(X:Cx)(e:Expr)(t:TT):Prop:=
 ∀(whole:Sem Value) (pins:List (Addr×Obj)) (s:Shared) (σ:St) (H:Hp) (Q:Bool->Hp->Prop),Inv X pins σ H s->t σ H Q->wpAny (model X.prog X.w) X.A (isTrue e X.env whole) (TP X pins σ Q) X.xe s
theorem PW.pt{X:Cx}{e:Expr}{t:TT}(h:PW X e t):PT X e t:=h _
def PA(X:Cx)(es:List Expr)(t:TA):Prop:=
 ∀(pos:Pos) (pins:List (Addr×Obj)) (s:Shared) (σ:St) (H:Hp) (Q:List V->Hp->Prop),Inv X pins σ H s->t σ H Q->wpAny (model X.prog X.w) X.A (spliced (backTo pos (starEach es X.env))) (AP X pins σ Q) X.xe s
def PS(X:Cx)(st:Stmt)(t:TS):Prop:=
 ∀(pins:List (Addr×Obj)) (s:Shared) (σ:St) (H:Hp) (D:Ends),Inv X pins σ H s->t D σ H->wpAny (model X.prog X.w) X.A (exec st X.env) (SP X pins D) X.xe s
def PSs(X:Cx)(st:List Stmt)(t:TS):Prop:=
 ∀(pins:List (Addr×Obj)) (s:Shared) (σ:St) (H:Hp) (D:Ends),Inv X pins σ H s->t D σ H->wpAny (model X.prog X.w) X.A (execs st X.env) (SP X pins D) X.xe s
theorem thn{α:Type}{t:Sem α}{Q Q':α->Shared->Prop}{M:Model}{A:Around}{E:Value->Shared->Prop}{s:Shared}(h:wpAny M A t Q E s)(hQ:∀a s,Q a s->Q' a s):wpAny M A t Q' E s:=wpAny_mono h hQ fun _ _ x=>x
section
variable{X:Cx}
def ax4(i:Nat):TE:=fun σ H Q=>∃v,σ[i]? =some (some v)/\Q v H
def tC(v:V):TE:=fun _ H Q=>Q v H
theorem aqO{i:Nat}{x:Str}{pos:Pos}(hN:X.N[i]? =some x)(hv:Vis X.env.scope x)(hd:(x==("__debug__":Str))=false:=by decide)(hcd:(x==("__classdict__":Str))=false:=by decide):PE X (.Name x pos) (ax4 i):=by
 intro pins s σ H Q I h
 obtain⟨v,e,h⟩:=h
 obtain⟨m,hn,hl⟩:=I.loc
 obtain⟨u,r,l⟩:=hl i x v hN e hv
 have fin:EP X pins σ Q u s:=⟨v,H,I,r,h⟩
 rcases l with ⟨hk,hm⟩ | ⟨hk,c,hc,hcell⟩
 ·exact wpAny_Name (wpAny_loadName_local I.ok.kind hk hn hm fin) hd
 ·rcases hk with hk | hk
  ·exact wpAny_Name (wpAny_loadName_cell I.ok.kind hk hc hcell fin) hd
  ·exact wpAny_Name (wpAny_loadName_free I.ok.kind hk hc hcell fin hcd) hd
theorem akB{i j pos}:PE X (.Constant (.int i) j pos) (tC (.int i)):=fun _ _ _ H _ I h=>wpAny_Constant_int ⟨.int i,H,I.tok _,⟨_,rfl⟩,h⟩
theorem axB{b j pos}:PE X (.Constant (.bool b) j pos) (tC (.bl b)):=fun _ _ _ H _ I h=>Constant_bool ⟨.bl b,H,I,rfl,h⟩
theorem arB{j pos}:PE X (.Constant .none j pos) (tC .non):=fun _ _ _ H _ I h=>Constant_none ⟨.non,H,I,rfl,h⟩
theorem aqZ{x j pos}:PE X (.Constant (.str x) j pos) (tC (.str x)):=fun _ _ _ H _ I h=>Calls.Constant_str ⟨.str x,H,I.tok _,⟨_,rfl⟩,h⟩
def Gl(X:Cx)(x:Str):Prop:=X.env.kindOf x=some .globalImplicit
theorem abG{E:Value->Shared->Prop}{pins:List (Addr×Obj)}{s:Shared}{σ:St}{H:Hp}{x:Str}{u:Value}{pos:Pos}{Q:Value->Shared->Prop}(I:Inv X pins σ H s)(hg:Gl X x)(hm:X.mg x=some u)(h:Q u s)
  (hd:(x==("__debug__":Str))=false:=by decide):wpAny (model X.prog X.w) X.A (eval (.Name x pos) X.env) Q E s:=
 Calls.Name_function_global I.ok.kind hg (Calls.loadGlobal_global (by rw[I.ok.glob];exact I.mod.glob.keeps I.bk) hm h) hd
theorem ae5{E:Value->Shared->Prop}{pins:List (Addr×Obj)}{s:Shared}{σ:St}{H:Hp}{x:Str}{u:Value}{pos:Pos}{Q:Value->Shared->Prop}(I:Inv X pins σ H s)(hg:Gl X x)(hm:X.mg x=none)(hv:bootBuiltins x=some u)(h:Q u s)
  (hn:x≠"__name__":=by decide) (hd:(x==("__debug__":Str))=false:=by decide):wpAny (model X.prog X.w) X.A (eval (.Name x pos) X.env) Q E s:=by
 obtain⟨mb,h1,h2⟩:=I.mod.blt
 exact Calls.Name_function_global I.ok.kind hg (Calls.loadGlobal_builtin (by rw[I.ok.glob];exact I.mod.glob.keeps I.bk) hm (by rw[I.ok.blt];exact h1.keeps I.bk) ((h2 x hn).trans hv) h) hd
theorem amM{x:Str}{v:V}{u:Value}{pos:Pos}(hg:Gl X x)(hm:X.mg x=some u)(r:RelV v u)(hd:(x==("__debug__":Str))=false:=by decide):PE X (.Name x pos) (tC v):=
 fun _ _ _ H _ I h=>abG I hg hm ⟨v,H,I,r,h⟩ hd
theorem amJ{x:Str}{v:V}{u:Value}{pos:Pos}(hg:Gl X x)(hm:X.mg x=none)(hv:bootBuiltins x=some u)(r:RelV v u)(hn:x≠"__name__":=by decide)(hd:(x==("__debug__":Str))=false:=by decide):PE X (.Name x pos) (tC v):=
 fun _ _ _ H _ I h=>ae5 I hg hm hv ⟨v,H,I,r,h⟩ hn hd
variable{a b:Expr}{ta tb:TE}{pos:Pos}
def tB(t:TE):TT:=fun σ H Q=>t σ H fun x H1=>∃c,x=.bl c/\Q c H1
theorem aqJ{e:Expr}{t:TE}(h:PE X e t)(he:∀whole,isTrue e X.env whole=(do let v ←whole;standAt e.pos;holding [v] (truthy v)):=by intro _;rfl):PT X e (tB t):=by
 intro pins s σ H Q I hw
 refine isTrue_plain (thn (h pins s σ H _ I hw) fun v s1 ⟨x,H1,I1,r1,q1⟩=>?_) (he _)
 obtain⟨d,rfl,q⟩:=q1
 cases r1
 exact wpAny_truthy_bool ⟨H1,I1,q⟩
variable{tA tB':TT}{rest:List Expr}
def atK(t u:TT):TT:=fun σ H Q=>t σ H fun c H1=>if c=true then u σ H1 Q else Q false H1
def tOr(t u:TT):TT:=fun σ H Q=>t σ H fun c H1=>if c=true then Q true H1 else u σ H1 Q
def avM(t:TT):TT:=fun σ H Q=>t σ H fun c H1=>Q (!c) H1
theorem amK(ha:PT X a tA):PW X (.BoolOp .And [a] pos) tA:=by
 intro wh pins s σ H Q I h
 refine isTrue_and (thn (ha pins s σ H Q I h) fun c s1 e=>?_)
 cases c with
 |true=>exact isTrue_and_nil e
 |false=>exact e
theorem arC(ha:PT X a tA):PW X (.BoolOp .Or [a] pos) tA:=by
 intro wh pins s σ H Q I h
 refine isTrue_or (thn (ha pins s σ H Q I h) fun c s1 e=>?_)
 cases c with
 |false=>exact isTrue_or_nil e
 |true=>exact e
theorem ao6(ha:PT X a tA)(hb:PW X (.BoolOp .And (b::rest) pos) tB'):PW X (.BoolOp .And (a::b::rest) pos) (atK tA tB'):=by
 intro wh pins s σ H Q I h
 refine isTrue_and (thn (ha pins s σ H _ I h) fun c s1 ⟨H1,I1,q1⟩=>?_)
 cases c with
 |true=>exact hb wh pins s1 σ H1 Q I1 q1
 |false=>exact⟨H1,I1,q1⟩
theorem atG(ha:PT X a tA)(hb:PW X (.BoolOp .Or (b::rest) pos) tB'):PW X (.BoolOp .Or (a::b::rest) pos) (tOr tA tB'):=by
 intro wh pins s σ H Q I h
 refine isTrue_or (thn (ha pins s σ H _ I h) fun c s1 ⟨H1,I1,q1⟩=>?_)
 cases c with
 |true=>exact⟨H1,I1,q1⟩
 |false=>exact hb wh pins s1 σ H1 Q I1 q1
theorem ao5(ha:PT X a tA):PT X (.UnaryOp .Not a pos) (avM tA):=by
 intro pins s σ H Q I h
 exact isTrue_not (ha pins s σ H (fun c H1=>Q (!c) H1) I h)
def anL(ta tb:TE):TE:=fun σ H Q=>ta σ H fun x H1=>∃c,x=.bl c/\if c=true then tb σ H1 Q else Q (.bl false) H1
def awU(ta tb:TE):TE:=fun σ H Q=>ta σ H fun x H1=>∃c,x=.bl c/\if c=true then Q (.bl true) H1 else tb σ H1 Q
def anC(ta:TE):TE:=fun σ H Q=>ta σ H fun x H1=>∃c,x=.bl c/\Q (.bl (!c)) H1
theorem aqH{op}{t:TE}(h:PE X a t):PE X (.BoolOp op [a] pos) t:=fun pins s σ H Q I hw=>BoolOp_one (h pins s σ H Q I hw)
theorem aoF(ha:PE X a ta)(hb:PE X (.BoolOp .And (b::rest) pos) tb):PE X (.BoolOp .And (a::b::rest) pos) (anL ta tb):=by
 intro pins s σ H Q I h
 refine BoolOp_and (thn (ha pins s σ H _ I h) fun v s1 ⟨x,H1,I1,r1,q1⟩=>?_)
 obtain⟨c,rfl,q1⟩:=q1
 cases r1
 refine wpAny_truthy_bool ?_
 cases c with
 |true=>exact hb pins s1 σ H1 Q I1 q1
 |false=>exact⟨.bl false,H1,I1,rfl,q1⟩
theorem ax9(ha:PE X a ta)(hb:PE X (.BoolOp .Or (b::rest) pos) tb):PE X (.BoolOp .Or (a::b::rest) pos) (awU ta tb):=by
 intro pins s σ H Q I h
 refine BoolOp_or (thn (ha pins s σ H _ I h) fun v s1 ⟨x,H1,I1,r1,q1⟩=>?_)
 obtain⟨c,rfl,q1⟩:=q1
 cases r1
 refine wpAny_truthy_bool ?_
 cases c with
 |false=>exact hb pins s1 σ H1 Q I1 q1
 |true=>exact⟨.bl true,H1,I1,rfl,q1⟩
theorem arN(ha:PE X a ta):PE X (.UnaryOp .Not a pos) (anC ta):=by
 intro pins s σ H Q I h
 refine UnaryOp_ (thn (ha pins s σ H _ I h) fun v s1 ⟨x,H1,I1,r1,q1⟩=>?_)
 obtain⟨c,rfl,q1⟩:=q1
 cases r1
 exact not_of (wpAny_truthy_bool ⟨.bl (!c),H1,I1,rfl,q1⟩)
def tIf(t:TT)(ta tb:TE):TE:=fun σ H Q=>t σ H fun c H1=>if c=true then ta σ H1 Q else tb σ H1 Q
theorem akW{c:Expr}(hc:PT X c tA)(ha:PE X a ta)(hb:PE X b tb):PE X (.IfExp c a b pos) (tIf tA ta tb):=by
 intro pins s σ H Q I h
 refine wpAny_IfExp (thn (hc pins s σ H _ I h) fun d s1 ⟨H1,I1,q1⟩=>?_)
 cases d with
 |true=>exact ha pins s1 σ H1 Q I1 q1
 |false=>exact hb pins s1 σ H1 Q I1 q1
end
def SqL(K:PySem.W.Frag)(H:Hp)(a:Addr)(xs:List V):Prop:=
 Rd H a (.lst xs)∨
  ∃(o:Obj) (its:Array Value) (n:Nat),K.lookup a=some o/\o.cls=.type "list"/\o.dict=none/\o.data=.seq its n/\its.size<=sizeLine/\Vals xs its.toList
def SqT(K:PySem.W.Frag)(H:Hp)(a:Addr)(xs:List V):Prop:=
 Rd H a (.tup xs)∨
  ∃(o:Obj) (its:Array Value) (n:Nat),K.lookup a=some o/\o.cls=.type "tuple"/\o.data=.seq its n/\its.size<=sizeLine/\Vals xs its.toList
def absV:Value->Option V
 |.none=>some .non
 |.bool b=>some (.bl b)
 |.int i _=>some (.int i)
 |.str x _=>some (.str x)
 |.bytes b _=>some (.byt b)
 |.float b _=>some (.flt b)
 |.ref a=>some (.ref a)
 |.type n=>some (.ty n)
 |_=>none
theorem RelV.abs{x:V}{u:Value}(r:RelV x u):absV u=some x:=by
 cases x with
 |non=>cases r;rfl
 |bl _=>cases r;rfl
 |int _=>obtain⟨t,rfl⟩:=r;rfl
 |str _=>obtain⟨t,rfl⟩:=r;rfl
 |byt _=>obtain⟨t,rfl⟩:=r;rfl
 |flt _=>obtain⟨t,rfl⟩:=r;rfl
 |ref _=>cases r;rfl
 |ty _=>cases r;rfl
theorem RelV.inj{x y:V}{u:Value}(r:RelV x u)(q:RelV y u):x=y:=Option.some.inj (r.abs.symm.trans q.abs)
theorem Vals.inj:∀{xs ys:List V} {us:List Value},Vals xs us->Vals ys us->xs=ys
 |_,_,_,.nil,.nil=>rfl
 |_,_,_,.cons r t,.cons r' t'=>by rw[r.inj r',Vals.inj t t']
section
variable{X:Cx}{pins:List (Addr×Obj)}{σ:St}{H:Hp}{s:Shared}{a:Addr}{xs ys:List V}
theorem SqL.of{K:PySem.W.Frag}(h:H a=some (.lst xs)):SqL K H a xs:=.inl (.inl h)
theorem SqT.of{K:PySem.W.Frag}(h:H a=some (.tup xs)):SqT K H a xs:=.inl (.inl h)
theorem Inv.list(I:Inv X pins σ H s)(h:SqL X.K H a xs):∃its:List Value,Vals xs its/\PlainL s.heap a its.toArray/\xs.length<=sizeLine:=by
 rcases h with h | ⟨o,its,n,hk,hc,hd,hs,hz,r⟩
 ·obtain⟨z,its,n,r,e⟩:=h.ok I.hok
  exact⟨its,r,⟨_,n,e,rfl,rfl,rfl⟩,z⟩
 ·refine⟨its.toList,r,⟨o,n,I.kIn a o hk,hc,hd,by simpa using hs⟩,?_⟩
  have e:=r.length
  simp only[Array.length_toList] at e
  omega
theorem Inv.tuple(I:Inv X pins σ H s)(h:SqT X.K H a xs):∃its:List Value,Vals xs its/\IsTup s.heap a its.toArray/\xs.length<=sizeLine:=by
 rcases h with h | ⟨o,its,n,hk,hc,hs,hz,r⟩
 ·obtain⟨z,its,r,p⟩:=h.ok I.hok
  exact⟨its,r,p,z⟩
 ·refine⟨its.toList,r,⟨o,I.kIn a o hk,hc,n,by simpa using hs⟩,?_⟩
  have e:=r.length
  simp only[Array.length_toList] at e
  omega
theorem Inv.list_inj(I:Inv X pins σ H s)(h:SqL X.K H a xs)(h':SqL X.K H a ys):xs=ys:=by
 obtain⟨its,r,⟨o,n,e,_,_,d⟩,_⟩:=I.list h
 obtain⟨its',r',⟨o',n',e',_,_,d'⟩,_⟩:=I.list h'
 rw[e] at e';cases e'
 rw[d] at d'
 injection d' with d1 _
 have:its=its':=by simpa using congrArg Array.toList d1
 subst this
 exact r.inj r'
theorem Inv.tuple_inj(I:Inv X pins σ H s)(h:SqT X.K H a xs)(h':SqT X.K H a ys):xs=ys:=by
 obtain⟨its,r,⟨o,e,_,n,d⟩,_⟩:=I.tuple h
 obtain⟨its',r',⟨o',e',_,n',d'⟩,_⟩:=I.tuple h'
 rw[e] at e';cases e'
 rw[d] at d'
 injection d' with d1 _
 have:its=its':=by simpa using congrArg Array.toList d1
 subst this
 exact r.inj r'
end
abbrev Cx.wish(X:Cx)(E:Value->Shared->Prop):Cx:={X with xe:=E}
abbrev Cx.nox(X:Cx):Cx:=X.wish fun _ _=>False
theorem Cx.Ok.wish{X:Cx}(ok:X.Ok)(E:Value->Shared->Prop):(X.wish E).Ok:=
 ⟨ok.mod,ok.kind,ok.glob,ok.blt,ok.above,ok.inj,ok.has,ok.cab,ok.hd,ok.frames,ok.stk,ok.exf,ok.bs,ok.bsz,ok.noex,ok.exfs,ok.funs,ok.frf⟩
theorem Cx.Ok.unwish{X:Cx}{E:Value->Shared->Prop}(ok:(X.wish E).Ok):X.Ok:=
 ⟨ok.mod,ok.kind,ok.glob,ok.blt,ok.above,ok.inj,ok.has,ok.cab,ok.hd,ok.frames,ok.stk,ok.exf,ok.bs,ok.bsz,ok.noex,ok.exfs,ok.funs,ok.frf⟩
section
variable{X:Cx}{pins:List (Addr×Obj)}{σ:St}{H:Hp}{s:Shared}{E:Value->Shared->Prop}
theorem Inv.wish(I:Inv X pins σ H s)(E:Value->Shared->Prop):Inv (X.wish E) pins σ H s:=⟨I.ok.wish E,I.os,I.bare,I.base,I.loc,I.cell,I.free,I.freeC,I.pin,I.hok,I.len⟩
theorem Inv.unwish(I:Inv (X.wish E) pins σ H s):Inv X pins σ H s:=⟨I.ok.unwish,I.os,I.bare,I.base,I.loc,I.cell,I.free,I.freeC,I.pin,I.hok,I.len⟩
theorem SP.unwish{D:Ends}{f:Flow}{s':Shared}(h:SP (X.wish E) pins D f s'):SP X pins D f s':=by
 cases f with
 |next=>obtain⟨σ',H',I,q⟩:=h;exact⟨σ',H',I.unwish,q⟩
 |brk=>obtain⟨σ',H',I,q⟩:=h;exact⟨σ',H',I.unwish,q⟩
 |cont=>obtain⟨σ',H',I,q⟩:=h;exact⟨σ',H',I.unwish,q⟩
 |ret u=>obtain⟨v,σ',H',I,r,q⟩:=h;exact⟨v,σ',H',I.unwish,r,q⟩
theorem PSs.nox{st:List Stmt}{t:TS}(h:PSs X.nox st t):PSs X st t:=fun pins s σ H D I hw=>
 wpAny_mono (h pins s σ H D (I.wish _) hw) (fun _ _ q=>q.unwish) fun _ _ z=>False.elim z
end
section
variable{X:Cx}{st:Stmt}{rest:List Stmt}{t u:TS}{e:Expr}{te:TE}{pos:Pos}
def anM:TS:=fun D σ H=>D.nx σ H
def aw9(t u:TS):TS:=fun D σ H=>t {D with nx:=u D} σ H
theorem alQ:PSs X [] anM:=fun _ _ σ H _ I h=>wpAny_execs_nil ⟨σ,H,I,h⟩
theorem alH(h1:PS X st t)(h2:PSs X rest u):PSs X (st::rest) (aw9 t u):=by
 intro pins s σ H D I h
 refine wpAny_execs_cons (thn (h1 pins s σ H {D with nx:=u D} I h) fun f s1 q=>?_)
 cases f with
 |next=>
  obtain⟨σ',H',I',q⟩:=q
  exact h2 pins s1 σ' H' D I' q
 |ret v=>exact q
 |brk=>exact q
 |cont=>exact q
theorem al3(h1:PS X st t):PSs X [st] t:=by
 intro pins s σ H D I h
 refine wpAny_execs_cons (thn (h1 pins s σ H D I h) fun f s1 q=>?_)
 cases f with
 |next=>exact wpAny_execs_nil q
 |ret v=>exact q
 |brk=>exact q
 |cont=>exact q
theorem Inv.quiet{pins:List (Addr×Obj)}{σ:St}{H:Hp}{s:Shared}(I:Inv X pins σ H s):interactive X.env=false:=by simp[interactive,I.ok.kind]
def am8(te:TE):TS:=fun D σ H=>te σ H fun _ H1=>D.nx σ H1
theorem amN(he:PE X e te)(hs:swapsWith e none pos.line X.env=pure false:=by rfl):PS X (.Expr e pos) (am8 te):=by
 intro pins s σ H D I h
 exact wpAny_Expr_any (thn (he pins s σ H _ I h) fun v s1 ⟨x,H1,I1,r1,q1⟩=>⟨σ,H1,I1,q1⟩) I.quiet hs
def axT(te:TE):TS:=fun D σ H=>te σ H D.rt
theorem ar9(he:PE X e te):PS X (.Return (some e) pos) (axT te):=by
 intro pins s σ H D I h
 exact wpAny_Return_some (thn (he pins s σ H _ I h) fun v s1 ⟨x,H1,I1,r1,q1⟩=>⟨x,σ,H1,I1,r1,q1⟩)
def awL(c:TT)(t u:TS):TS:=fun D σ H=>c σ H fun b H1=>if b=true then t D σ H1 else u D σ H1
theorem avN{c:Expr}{a b:List Stmt}{tc:TT}(hc:PT X c tc)(ha:PSs X a t)(hb:PSs X b u):PS X (.If c a b pos) (awL tc t u):=by
 intro pins s σ H D I h
 refine wpAny_If (thn (hc pins s σ H _ I h) fun d s1 ⟨H1,I1,q1⟩=>?_)
 cases d with
 |true=>exact ha pins s1 σ H1 D I1 q1
 |false=>exact hb pins s1 σ H1 D I1 q1
end
abbrev TG:=V->St->Hp->(St->Hp->Prop)->Prop
abbrev TGs:=List V->St->Hp->(St->Hp->Prop)->Prop
def PG(X:Cx)(target:Expr)(t:TG):Prop:=
 ∀(pins:List (Addr×Obj)) (s:Shared) (σ:St) (H:Hp) (v:V) (u:Value) (Q:St->Hp->Prop),Inv X pins σ H s->RelV v u->t v σ H Q->
  wpAny (model X.prog X.w) X.A (assign target X.env u) (fun _ s'=>∃σ' H',Inv X pins σ' H' s'/\Q σ' H') X.xe s
def PGs(X:Cx)(ts:List Expr)(t:TGs):Prop:=
 ∀(pins:List (Addr×Obj)) (s:Shared) (σ:St) (H:Hp) (vs:List V) (us:List Value) (Q:St->Hp->Prop),Inv X pins σ H s->Vals vs us->t vs σ H Q->
  wpAny (model X.prog X.w) X.A (assignInOrder ((assignEach ts X.env).map (·.2)) us) (fun _ s'=>∃σ' H',Inv X pins σ' H' s'/\Q σ' H') X.xe s
abbrev apY:=V->V->V->Hp->(Hp->Prop)->Prop
def ayY(X:Cx)(t:apY):Prop:=
 ∀(pins:List (Addr×Obj)) (s:Shared) (σ:St) (H:Hp) (o i v:V) (ov iv u:Value) (Q:Hp->Prop),Inv X pins σ H s->RelV o ov->RelV i iv->RelV v u->t o i v H Q->
  wpAny (model X.prog X.w) X.A (setItem ov iv u) (fun _ s'=>∃H',Inv X pins σ H' s'/\Q H') X.xe s
section
variable{X:Cx}{pos:Pos}
def acT(i:Nat):TG:=fun v σ H Q=>Q (σ.set i (some v)) H
theorem amC{i:Nat}{x:Str}(hN:X.N.Nodup)(hi:X.N[i]? =some x)(hx:Loc X.env.scope x)(hf:X.fn x=true∨X.env.scope.names.lookup x=some .local:=by first | exact .inl rfl | exact .inr rfl | assumption):PG X (.Name x pos) (acT i):=by
 intro pins s σ H v u Q I r h
 exact wpAny_assign_Name (ab1 I hN hi hx r (fun s' I'=>⟨_,H,I',h⟩) hf)
def aoK:TGs:=fun vs σ H Q=>vs=[]/\Q σ H
def ai9(t:TG)(u:TGs):TGs:=fun vs σ H Q=>∃v r,vs=v::r/\t v σ H fun σ' H'=>u r σ' H' Q
theorem am4:PGs X [] aoK:=by
 intro pins s σ H vs us Q I r h
 obtain⟨e,h⟩:=h
 subst e
 cases r
 exact assignInOrder_nil ⟨σ,H,I,h⟩
theorem akC{e:Expr}{es:List Expr}{t:TG}{u:TGs}(h1:PG X e t)(h2:PGs X es u)
  (hs:(assignEach (e::es) X.env).map (·.2)=assign e X.env::(assignEach es X.env).map (·.2):=by rfl):PGs X (e::es) (ai9 t u):=by
 intro pins s σ H vs us Q I r h
 obtain⟨v,vr,e1,h⟩:=h
 subst e1
 cases r with
 |cons r rr=>
  rw[hs]
  refine assignInOrder_cons (thn (h1 pins s σ H _ _ _ I r h) fun _ s1 ⟨σ1,H1,I1,q1⟩=>?_)
  exact h2 pins s1 σ1 H1 _ _ Q I1 rr q1
def al6(K:PySem.W.Frag)(n:Nat)(t:TGs):TG:=fun v σ H Q=>∃a xs,v=.ref a/\SqT K H a xs/\xs.length=n/\t xs σ H Q
theorem arF{es:List Expr}{k:Nat}{t:TGs}{n:Nat}(hc:X.calm=true)(h:PGs X es t)
  (hn:(assignEach es X.env).length=n:=by rfl) (hst:(assignEach es X.env).findIdx? (·.1)=none:=by rfl):PG X (.Tuple es k pos) (al6 X.K n t):=by
 intro pins s σ H v u Q I r hw
 obtain⟨a,xs,e1,hq,hl,hw⟩:=hw
 subst e1
 cases r
 obtain⟨its,rv,ht,hz⟩:=I.tuple hq
 refine assign_Tuple_tuple (I.ok.hd hc) ht (by simp[hn,←hl,rv.length]) hst fun h' hx=>?_
 have I1:Inv X pins σ H {s with heap:=h'}:=I.kept (t':=s.toks) fun b o e=>hx b o (Nat.ne_of_lt (Heap.lt_size e)) e
 exact h pins _ σ H xs _ Q I1 (by simpa using rv) hw
def axY(to ti:TE)(t:apY):TG:=fun v σ H Q=>to σ H fun o H1=>ti σ H1 fun i H2=>t o i v H2 fun H3=>Q σ H3
theorem asA{o i:Expr}{to ti:TE}{t:apY}(ho:PE X o to)(hi:PE X i ti)(hs:ayY X t)
  (ha:∀v,assign (.Subscript o i pos) X.env v=(do
   let ov ←holding [v] (eval o X.env)
   let iv ←holding [v,ov] (eval i X.env)
   standAt pos
   holding [v,ov,iv] (setItem ov iv v)
   release [v,ov,iv] []):=by intro _;rfl):PG X (.Subscript o i pos) (axY to ti t):=by
 intro pins s σ H v u Q I r h
 rw[ha]
 refine wpAny_bind (wpAny_holding (thn (ho pins s σ H _ I h) fun ov s1 ⟨x,H1,I1,r1,q1⟩=>?_))
 refine wpAny_bind (wpAny_holding (thn (hi pins s1 σ H1 _ I1 q1) fun iv s2 ⟨y,H2,I2,r2,q2⟩=>?_))
 refine wpAny_bind (wpAny_standAt (wpAny_bind (wpAny_holding (thn (hs pins s2 σ H2 x y v ov iv u _ I2 r1 r2 r q2) fun _ s3 ⟨H3,I3,q3⟩=>?_))))
 exact wpAny_release ⟨σ,H3,I3,q3⟩
def alF(te:TE)(g:TG):TS:=fun D σ H=>te σ H fun x H1=>g x σ H1 D.nx
theorem aqF{tg e:Expr}{te:TE}{g:TG}(he:PE X e te)(hg:PG X tg g)(hs:swapsWithSole [tg] e pos.line X.env=pure false:=by rfl)(hw:swappedStores [tg] e X.env=pure none:=by rfl)
  (h1:(assignEach [tg] X.env).map (·.2)=[assign tg X.env]:=by rfl):PS X (.Assign [tg] e pos) (alF te g):=by
 intro pins s σ H D I h
 refine wpAny_Assign_stores (thn (he pins s σ H _ I h) fun v s1 ⟨x,H1,I1,r1,q1⟩=>?_) hs hw
 rw[h1]
 exact thn (hg pins s1 σ H1 x v _ I1 r1 q1) fun _ s2 q=>q
theorem ao9{i:Nat}{x:Str}{e:Expr}{te:TE}{pos':Pos}(hN:X.N.Nodup)(hi:X.N[i]? =some x)(hx:Loc X.env.scope x)(he:PE X e te)(hs:swapsWith e (some (.Name x pos')) pos.line X.env=pure false:=by rfl)(hf:X.fn x=true∨X.env.scope.names.lookup x=some .local:=by first | exact .inl rfl | exact .inr rfl | assumption):
  PS X (.Assign [.Name x pos'] e pos) (alF te (acT i)):=by
 intro pins s σ H D I h
 refine wpAny_Assign_Name (thn (he pins s σ H _ I h) fun v s1 ⟨y,H1,I1,r1,q1⟩=>?_) hs
 exact ab1 I1 hN hi hx r1 (fun s2 I2=>⟨_,H1,I2,q1⟩) hf
end
section
variable{X:Cx}{pos:Pos}
end
structure It where
 go:Nat->Hp->Prop
 yld:Nat->Hp->V->Hp->Prop
 stop:Nat->Hp->Prop
def abP(X:Cx)(pins:List (Addr×Obj))(H:Hp)(b:Addr):Prop:=
 H b=none/\b≠X.env.locals/\b∉X.fs/\(b∈X.ex∨X.s₀.heap.objs.size<=b)/\(∀x c,X.env.cells.lookup x=some c->c≠b)/\∀p∈X.pn++pins,p.1≠b
theorem Inv.fpOk{X:Cx}{pins:List (Addr×Obj)}{σ:St}{H H':Hp}{s:Shared}{b:Addr}(I:Inv X pins σ H s)(hb:s.heap.objs.size<=b)(hn:H' b=none):abP X pins H' b:=by
 refine⟨hn,Nat.ne_of_gt (Nat.lt_of_lt_of_le I.lt hb),I.nofs hb,.inr (Nat.le_trans I.sz hb),fun x c e z=>?_,fun p hp z=>?_⟩
 ·obtain⟨v,q⟩:=I.cell x c e
  exact absurd (Nat.lt_of_lt_of_le q.lt (by rw[z];exact hb)) (Nat.lt_irrefl _)
 ·exact absurd (Nat.lt_of_lt_of_le (Heap.lt_size (I.pin p hp).1) (by rw[z];exact hb)) (Nat.lt_irrefl _)
structure Turn(P:Program)(w:World)(K:PySem.W.Frag)(tg:Expr)(J:It)(fp:List Addr)(it:Addr)(tn:Nat->Heap->Prop):Prop where
 mem:it∈fp
 obj:∀i h,tn i h->∀b∈fp,∃o,h.get? b=some o/\∀v,o.data≠ .cell v
 keep:∀i h h',tn i h->(∀b∈fp,∀o,h.get? b=some o->h'.get? b=some o)->tn i h'
 item:∀(X:Cx),X.prog=P->X.w=w->X.K=K->X.calm=true->∀(i:Nat) (pins:List (Addr×Obj)) (s:Shared) (σ:St) (H:Hp) (E:Value->Shared->Prop),Inv X pins σ H s->(∀b∈fp,abP X pins H b)->tn i s.heap->J.go i H->
  wpAny (model P w) X.A (pyNext (.ref it)) (fun r s1=>∃u,r=some u/\
   wpAny (model P w) X.A (letOwnedTupleGo tg (.ref it) u) (fun _ s2=>∃x H',Inv X pins σ H' s2/\RelV x u/\J.yld i H x H'/\tn (i+1) s2.heap/\∀b∈fp,H' b=none) E s1) E s
 done:∀(X:Cx),X.prog=P->X.w=w->X.K=K->X.calm=true->∀(i:Nat) (pins:List (Addr×Obj)) (s:Shared) (σ:St) (H:Hp) (E:Value->Shared->Prop),Inv X pins σ H s->(∀b∈fp,abP X pins H b)->tn i s.heap->J.stop i H->
  wpAny (model P w) X.A (pyNext (.ref it)) (fun r s1=>r=none/\Inv X pins σ H s1) E s
 self:∀(A:Around) (i:Nat) (s:Shared) (Q:Value->Shared->Prop) (E:Value->Shared->Prop),tn i s.heap->Q (.ref it) s->wpAny (model P w) A (pyIter (.ref it)) Q E s
abbrev TI:=St->Hp->(It->Hp->Prop)->Prop
def PIE(X:Cx)(pins:List (Addr×Obj))(σ:St)(tg:Expr)(R:It->Hp->Prop)(itv:Value)(s2:Shared):Prop:=
 ∃(it:Addr) (fp:List Addr) (tn:Nat->Heap->Prop) (J:It) (H':Hp),itv=.ref it/\Inv X pins σ H' s2/\Turn X.prog X.w X.K tg J fp it tn/\tn 0 s2.heap/\(∀b∈fp,abP X pins H' b)/\R J H'
def PI(X:Cx)(tg iter:Expr)(wi:TI):Prop:=
 ∀(pins:List (Addr×Obj)) (s:Shared) (σ:St) (H:Hp) (R:It->Hp->Prop),Inv X pins σ H s->wi σ H R->
  wpAny (model X.prog X.w) X.A (eval iter X.env) (fun v s1=>wpAny (model X.prog X.w) X.A (pyIter v) (PIE X pins σ tg R) X.xe s1) X.xe s
theorem ahA{M:Model}{A:Around}{E:Value->Shared->Prop}{s:Shared}{tg:Expr}{it:Addr}{u:Value}{o:Obj}{n:String}{vs:Array Value}{Q:Unit->Shared->Prop}(ho:s.heap.get? it=some o)(hc:o.cls=.type n)(hd:o.data=.fields vs)
  (hn:["enumerate","zip","dict_itemiterator","dict_reverseitemiterator","odict_iterator","itertools.zip_longest","itertools.pairwise"].contains n=false) (hQ:Q () s):wpAny M A (letOwnedTupleGo tg (.ref it) u) Q E s:=by
 unfold letOwnedTupleGo
 cases tg<;>first
  |exact wpAny_pure hQ
  |(cases u<;>first
    |exact wpAny_pure hQ
    |(refine wpAny_bind (wpAny_load ho ?_)
      rw[hc,hd]
      show wpAny M A (if (["enumerate","zip","dict_itemiterator","dict_reverseitemiterator","odict_iterator","itertools.zip_longest","itertools.pairwise"].contains n&&vs[0]? ==some (rawInt _))=true then _ else _) Q E s
      rw[if_neg (by intro h;rw[hn,Bool.false_and] at h;cases h)]
      exact wpAny_pure hQ))
def Itl(K:PySem.W.Frag)(a:Addr):It:=
 ⟨fun i H=>∃xs x,SqL K H a xs/\xs[i]? =some x,fun i H x H'=>H'=H/\∀xs,SqL K H a xs->xs[i]? =some x,fun i H=>∃xs,SqL K H a xs/\xs.length<=i⟩
def Itt(K:PySem.W.Frag)(a:Addr):It:=
 ⟨fun i H=>∃xs x,SqT K H a xs/\xs[i]? =some x,fun i H x H'=>H'=H/\∀xs,SqT K H a xs->xs[i]? =some x,fun i H=>∃xs,SqT K H a xs/\xs.length<=i⟩
def Itr(lo:Int)(n:Nat):It:=⟨fun i _=>i<n,fun i H x H'=>H'=H/\x=.int (lo+i),fun i _=>n<=i⟩
theorem ajW{P:Program}{w:World}{K:PySem.W.Frag}{tg:Expr}(a it:Addr):Turn P w K tg (Itl K a) [it] it (fun i h=>h.IsListIter it a i) where
 mem:=by simp
 obj:=fun i h st b hb=>by
  have e:b=it:=by simpa using hb
  subst e
  obtain⟨o,e,c,d⟩:=st
  exact⟨o,e,fun v z=>by rw[d] at z;cases z⟩
 keep:=fun i h h' st k=>st.at fun o e=>k it (by simp) o e
 item:=by
  intro X hP hw hK hc i pins s σ H E I hf st hg
  subst hP hw hK
  obtain⟨xs,x,hq,hx⟩:=hg
  obtain⟨its,rv,p,hz⟩:=I.list hq
  obtain⟨u,hu,ru⟩:=rv.get hx
  obtain⟨f0,f1,f2,f3,f4,f5⟩:=hf it (by simp)
  refine wpAny_pyNext_list_item st p.isList (x:=u) (by simpa using hu) fun h' st' sb=>?_
  have I1:Inv X pins σ H {s with heap:=h'}:=I.turned (t':=s.toks) (fun b o hb e=>(sb.2 b hb).trans e) f0 f1 f3 f4 f5
  obtain⟨o,e,c,d⟩:=id st'
  exact⟨u,rfl,ahA (s:={s with heap:=h'}) e c d (by decide) ⟨x,H,I1,ru,⟨rfl,fun ys hy=>by rw[I.list_inj hy hq];exact hx⟩,st',fun b hb=>(hf b hb).1⟩⟩
 done:=by
  intro X hP hw hK hc i pins s σ H E I hf st hg
  subst hP hw hK
  obtain⟨xs,hq,hx⟩:=hg
  obtain⟨its,rv,p,hz⟩:=I.list hq
  obtain⟨f0,f1,f2,f3,f4,f5⟩:=hf it (by simp)
  have hl:=rv.length
  exact wpAny_pyNext_list_end (I.ok.hd hc) st p.isList (by simp;omega) fun h' eb=>⟨rfl,I.turned (t':=s.toks) (fun b o hb e=>eb b o hb e) f0 f1 f3 f4 f5⟩
 self:=fun _ _ _ _ _ st h=>wpAny_pyIter_listiter st h
theorem ah3{P:Program}{w:World}{K:PySem.W.Frag}{tg:Expr}(a it:Addr):Turn P w K tg (Itt K a) [it] it (fun i h=>h.IsTupleIter it a i) where
 mem:=by simp
 obj:=fun i h st b hb=>by
  have e:b=it:=by simpa using hb
  subst e
  obtain⟨o,e,c,d⟩:=st
  exact⟨o,e,fun v z=>by rw[d] at z;cases z⟩
 keep:=fun i h h' st k=>st.at fun o e=>k it (by simp) o e
 item:=by
  intro X hP hw hK hc i pins s σ H E I hf st hg
  subst hP hw hK
  obtain⟨xs,x,hq,hx⟩:=hg
  obtain⟨its,rv,p,hz⟩:=I.tuple hq
  obtain⟨u,hu,ru⟩:=rv.get hx
  obtain⟨f0,f1,f2,f3,f4,f5⟩:=hf it (by simp)
  refine wpAny_pyNext_tuple_item st (show s.heap.IsTuple a its.toArray from p) (x:=u) (by simpa using hu) fun h' st' sb=>?_
  have I1:Inv X pins σ H {s with heap:=h'}:=I.turned (t':=s.toks) (fun b o hb e=>(sb.2 b hb).trans e) f0 f1 f3 f4 f5
  obtain⟨o,e,c,d⟩:=id st'
  exact⟨u,rfl,ahA (s:={s with heap:=h'}) e c d (by decide) ⟨x,H,I1,ru,⟨rfl,fun ys hy=>by rw[I.tuple_inj hy hq];exact hx⟩,st',fun b hb=>(hf b hb).1⟩⟩
 done:=by
  intro X hP hw hK hc i pins s σ H E I hf st hg
  subst hP hw hK
  obtain⟨xs,hq,hx⟩:=hg
  obtain⟨its,rv,p,hz⟩:=I.tuple hq
  obtain⟨f0,f1,f2,f3,f4,f5⟩:=hf it (by simp)
  have hl:=rv.length
  exact wpAny_pyNext_tuple_end (I.ok.hd hc) st (show s.heap.IsTuple a its.toArray from p) (by simp;omega) fun h' eb=>⟨rfl,I.turned (t':=s.toks) (fun b o hb e=>eb b o hb e) f0 f1 f3 f4 f5⟩
 self:=fun _ _ _ _ _ st h=>wpAny_pyIter_tupleiter st h
theorem aiF{P:Program}{w:World}{K:PySem.W.Frag}{tg:Expr}(it:Addr)(lo:Int)(n:Nat):Turn P w K tg (Itr lo n) [it] it (fun i h=>IsRangeIter h it (lo+(i:Nat)*1) ((n:Int)-(i:Nat)) 1) where
 mem:=by simp
 obj:=fun i h st b hb=>by
  have e:b=it:=by simpa using hb
  subst e
  exact⟨_,st,fun v z=>by
   have z':Data.fields _=Data.cell v:=z
   cases z'⟩
 keep:=fun i h h' st k=>k it (by simp) _ st
 item:=by
  intro X hP hw hK hc i pins s σ H E I hf st hg
  subst hP hw hK
  obtain⟨f0,f1,f2,f3,f4,f5⟩:=hf it (by simp)
  have W:=Walks.range (prog:=X.prog) (w:=X.w) (I.ok.hd hc) it lo 1 n
  refine W.item i s _ _ hg st fun v h' tk hv st' kk=>?_
  obtain⟨t,rfl⟩:=hv
  have I1:Inv X pins σ H {s with heap:=h',toks:=tk}:=I.turned (fun b o hb e=>kk b o (by simpa using hb) e) f0 f1 f3 f4 f5
  refine⟨_,rfl,ahA (s:={s with heap:=h',toks:=tk}) (n:="range_iterator") st' rfl rfl (by decide) ⟨.int (lo+i),H,I1,⟨t,?_⟩,⟨rfl,rfl⟩,st',fun b hb=>(hf b hb).1⟩⟩
  rw[Int.mul_one]
 done:=by
  intro X hP hw hK hc i pins s σ H E I hf st hg
  subst hP hw hK
  obtain⟨f0,f1,f2,f3,f4,f5⟩:=hf it (by simp)
  exact wpAny_pyNext_range_end (I.ok.hd hc) st (by have:n<=i:=hg;omega) fun h' eb=>⟨rfl,I.turned (t':=s.toks) (fun b o hb e=>eb b o hb e) f0 f1 f3 f4 f5⟩
 self:=fun _ _ _ _ _ st h=>wpAny_pyIter_rangeiter st h
section
variable{X:Cx}{tg:Expr}
def am7(K:PySem.W.Frag)(tl:TE):TI:=fun σ H R=>tl σ H fun x H1=>∃a,x=.ref a/\(∃xs,SqL K H1 a xs)/\R (Itl K a) H1
def ax8(K:PySem.W.Frag)(tl:TE):TI:=fun σ H R=>tl σ H fun x H1=>∃a,x=.ref a/\(∃xs,SqT K H1 a xs)/\R (Itt K a) H1
theorem al7{l:Expr}{tl:TE}(hl:PE X l tl):PI X tg l (am7 X.K tl):=by
 intro pins s σ H R I h
 refine thn (hl pins s σ H _ I h) fun v s1 ⟨x,H1,I1,r1,q1⟩=>?_
 obtain⟨a,e,⟨xs,hq⟩,q⟩:=q1
 subst e
 cases r1
 obtain⟨its,rv,p,hz⟩:=I1.list hq
 refine wpAny_pyIter_list p.isList ?_
 refine⟨s1.heap.objs.size,[s1.heap.objs.size],_,_,H1,rfl,I1.kept (t':=s1.toks) fun b o e=>Heap.get?_push_of_some _ e,ajW a _,⟨_,Heap.get?_push_size _ rfl,rfl,rfl⟩,fun b hb=>?_,q⟩
 have e:b=s1.heap.objs.size:=by simpa using hb
 subst e
 exact I1.fpOk (Nat.le_refl _) (I1.hok.fresh (Nat.le_refl _))
theorem apE{l:Expr}{tl:TE}(hl:PE X l tl):PI X tg l (ax8 X.K tl):=by
 intro pins s σ H R I h
 refine thn (hl pins s σ H _ I h) fun v s1 ⟨x,H1,I1,r1,q1⟩=>?_
 obtain⟨a,e,⟨xs,hq⟩,q⟩:=q1
 subst e
 cases r1
 obtain⟨its,rv,p,hz⟩:=I1.tuple hq
 refine wpAny_pyIter_tuple (show s1.heap.IsTuple a its.toArray from p) ?_
 refine⟨s1.heap.objs.size,[s1.heap.objs.size],_,_,H1,rfl,I1.kept (t':=s1.toks) fun b o e=>Heap.get?_push_of_some _ e,ah3 a _,⟨_,Heap.get?_push_size _ rfl,rfl,rfl⟩,fun b hb=>?_,q⟩
 have e:b=s1.heap.objs.size:=by simpa using hb
 subst e
 exact I1.fpOk (Nat.le_refl _) (I1.hok.fresh (Nat.le_refl _))
theorem alB{pins:List (Addr×Obj)}{σ:St}{H:Hp}{s:Shared}{R:It->Hp->Prop}{E:Value->Shared->Prop}{lo hi:Int}{t u v:Tok}{tk:Nat}(I:Inv X pins σ H s)(h1: -(2^62)<=lo)(h2:lo<2^62)(h3: -(2^62)<=hi)(h4:hi<2^62)
  (q:R (Itr lo (hi-lo).toNat) H):wpAny (model X.prog X.w) X.A (pyIter (.ref s.heap.objs.size)) (PIE X pins σ tg R) E {s with heap:=s.heap.push {cls:=.type "range",data:=.fields #[.int lo t,.int hi u,.int 1 v]},toks:=tk}:=by
 refine wpAny_pyIter_range (IsRange.new ..) (small_one h1 h2 h3 h4) ?_
 have I1:Inv X pins σ H {s with heap:=s.heap.push {cls:=.type "range",data:=.fields #[.int lo t,.int hi u,.int 1 v]},toks:=tk}:=I.kept fun b o e=>Heap.get?_push_of_some _ e
 refine⟨(s.heap.push {cls:=.type "range",data:=.fields #[.int lo t,.int hi u,.int 1 v]}).objs.size,[(s.heap.push {cls:=.type "range",data:=.fields #[.int lo t,.int hi u,.int 1 v]}).objs.size],_,_,H,rfl,
  I1.kept (t':=tk) fun b o e=>Heap.get?_push_of_some _ e,aiF _ lo (hi-lo).toNat,?_,fun b hb=>?_,q⟩
 ·have e1:lo+((0:Nat):Int)*1=lo:=by simp
  have e2:(((hi-lo).toNat:Nat):Int)-((0:Nat):Int)=Builtin.Range.rangeSize lo hi 1:=by rw[rangeSize_one];split<;>omega
  show IsRangeIter _ _ (lo+((0:Nat):Int)*1) ((((hi-lo).toNat:Nat):Int)-((0:Nat):Int)) 1
  rw[e1,e2]
  exact Heap.get?_push_size _ rfl
 ·have e:b=(s.heap.push {cls:=.type "range",data:=.fields #[.int lo t,.int hi u,.int 1 v]}).objs.size:=by simpa using hb
  subst e
  exact I1.fpOk (Nat.le_refl _) (I1.hok.fresh (Nat.le_refl _))
def anG(ta:TA):TI:=fun σ H R=>ta σ H fun vs H1=>∃j:Int,vs=[.int j]/\ -(2^62)<=j/\j<2^62/\R (Itr 0 j.toNat) H1
theorem ajY{a:Expr}{ta:TA}{p pos:Pos}(hg:Gl X "range")(hm:X.mg "range"=none)(ha:PA X [a] ta)(hs:starEach [a] X.env=[(false,eval a X.env)]:=by rfl):PI X tg (.Call (.Name "range" p) [a] [] pos) (anG ta):=by
 intro pins s σ H R I h
 refine Call_ (ae5 I hg hm boot_range (PyProof.Rows.callWith_type1 (thn (ha pos pins s σ H _ I h) fun us s1 ⟨vs,H1,I1,r1,q1⟩=>?_) hs rfl))
 obtain⟨j,e,q1,q2,q⟩:=q1
 subst e
 cases r1 with
 |cons r rr=>
  cases rr
  obtain⟨t,rfl⟩:=r
  exact call_range_1 (alB I1 (by omega) (by omega) q1 q2 (by simpa using q))
def awP(wi:TI)(g:TG)(tb:TS):TS:=fun D σ H=>wi σ H fun J H1=>∃W:Nat->Nat->St->Hp->Prop,(∃m,W 0 m σ H1)/\∀i m σ H,W i m σ H->
 (J.stop i H/\D.nx σ H)∨(J.go i H/\∃N:St->Hp->Prop,(∀σ' H',N σ' H'->∃m',m'<m/\W (i+1) m' σ' H')/\∀x H',J.yld i H x H'->g x σ H' fun σ2 H2=>tb {D with nx:=N,ct:=N,bk:=D.nx} σ2 H2)
def acY(fp:List Addr)(h:Heap):List (Addr×Obj):=fp.filterMap fun b=>(h.get? b).map fun o=>(b,o)
theorem aa4{fp:List Addr}{h:Heap}{b:Addr}{o:Obj}(hb:b∈fp)(e:h.get? b=some o):(b,o)∈acY fp h:=List.mem_filterMap.mpr ⟨b,hb,by rw[e];rfl⟩
theorem ajP{fp:List Addr}{h:Heap}{p:Addr×Obj}(hp:p∈acY fp h):p.1∈fp/\h.get? p.1=some p.2:=by
 obtain⟨b,hb,e⟩:=List.mem_filterMap.mp hp
 cases q:h.get? b with
 |none=>rw[q] at e;cases e
 |some o=>
  rw[q] at e
  have e':(b,o)=p:=Option.some.inj e
  subst e'
  exact⟨hb,q⟩
theorem Inv.pinned{pins:List (Addr×Obj)}{σ:St}{H:Hp}{s:Shared}{fp:List Addr}(I:Inv X pins σ H s)(hf:∀b∈fp,abP X pins H b)(ho:∀b∈fp,∃o,s.heap.get? b=some o/\∀v,o.data≠ .cell v):Inv X (pins++acY fp s.heap) σ H s:=
 I.pins_of fun p hp=>(List.mem_append.mp hp).elim (fun z=>I.pin p (List.mem_append_right _ z)) fun z=>by
  obtain⟨hb,e⟩:=ajP z
  obtain⟨f0,f1,f2,_⟩:=hf p.1 hb
  obtain⟨o,e',d⟩:=ho p.1 hb
  rw[e] at e';cases e'
  exact⟨e,f0,f1,f2,d⟩
theorem Inv.unpinned{pins pl:List (Addr×Obj)}{σ:St}{H:Hp}{s:Shared}(I:Inv X (pins++pl) σ H s):Inv X pins σ H s:=I.pins_of fun p hp=>I.pin p (List.mem_append_right _ (List.mem_append_left _ hp))
theorem arS{iter:Expr}{body:List Stmt}{wi:TI}{g:TG}{tb:TS}{pos:Pos}(hp:PassesOwn (model X.prog X.w) X.A X.env X.xe)(hc:X.calm=true)(hi:PI X tg iter wi)(hg:PG X tg g)(hb:PSs X body tb)
  (hs:∀x,foldedSetIterable iter X.env x=pure x:=by intro _;rfl):PS X (.For tg iter body [] pos) (awP wi g tb):=by
 intro pins s σ H D I h
 refine wpAny_For (thn (hi pins s σ H _ I h) fun v s1 h1=>thn h1 fun itv s2 h2=>?_) hs
 obtain⟨it,fp,tn,J,H2,e,I2,T,st2,f2,W,⟨m0,w0⟩,turn⟩:=h2
 subst e
 -- what stays true of the iterator's objects through the loop
 have stat:∀{H':Hp},(∀b∈fp,H' b=none)->∀b∈fp,abP X pins H' b:=fun hn b hb=>⟨hn b hb,(f2 b hb).2⟩
 refine codeAny_forLoop_any (fun n s'=>∃i σ' H',Inv X pins σ' H' s'/\tn i s'.heap/\(∀b∈fp,H' b=none)/\W i n σ' H') ?_ m0 ⟨0,σ,H2,I2,st2,fun b hb=>(f2 b hb).1,w0⟩
 rintro n s3 ⟨i,σ3,H3,I3,st3,fr3,w3⟩
 rcases turn i n σ3 H3 w3 with ⟨stop,qn⟩ | ⟨go,N,hN,step⟩
 ·refine wpAny_passesOwn hp (thn (T.done X rfl rfl rfl hc i pins s3 σ3 H3 X.xe I3 (stat fr3) st3 stop) fun r s4 ⟨hr,I4⟩=>?_)
  subst hr
  exact wpAny_execs_nil ⟨σ3,H3,I4,qn⟩
 ·refine wpAny_passesOwn hp (thn (T.item X rfl rfl rfl hc i pins s3 σ3 H3 X.xe I3 (stat fr3) st3 go) fun r s4 ⟨u,hr,h4⟩=>?_)
  subst hr
  refine wpAny_passesOwn hp (thn h4 fun _ s5 ⟨x,H5,I5,r5,y5,st5,fr5⟩=>?_)
  have I5':=I5.pinned (stat fr5) (T.obj _ _ st5)
  refine wpAny_passesOwn hp (thn (hg _ s5 σ3 H5 x u _ I5' r5 (step x H5 y5)) fun _ s6 ⟨σ6,H6,I6,q6⟩=>?_)
  refine wpAny_passesOwn hp (thn (hb _ s6 σ6 H6 _ I6 q6) fun f s7 q7=>?_)
  have again:∀{σ7:St} {H7:Hp},Inv X (pins++acY fp s5.heap) σ7 H7 s7->N σ7 H7->∃m,m<n/\∃i σ' H',Inv X pins σ' H' s7/\tn i s7.heap/\(∀b∈fp,H' b=none)/\W i m σ' H':=fun {σ7 H7} I7 n7=>by
   obtain⟨m',hm,w7⟩:=hN σ7 H7 n7
   refine⟨m',hm,i+1,σ7,H7,I7.unpinned,T.keep _ _ _ st5 fun b hb o e=>(I7.pin (b,o) (List.mem_append_right _ (List.mem_append_right _ (aa4 hb e)))).1,fun b hb=>?_,w7⟩
   obtain⟨o,e,d⟩:=T.obj _ _ st5 b hb
   exact (I7.pin (b,o) (List.mem_append_right _ (List.mem_append_right _ (aa4 hb e)))).2.1
  cases f with
  |next=>obtain⟨σ7,H7,I7,n7⟩:=q7;exact again I7 n7
  |cont=>obtain⟨σ7,H7,I7,n7⟩:=q7;exact again I7 n7
  |brk=>obtain⟨σ7,H7,I7,q7⟩:=q7;exact⟨σ7,H7,I7.unpinned,q7⟩
  |ret v=>obtain⟨x7,σ7,H7,I7,r7,q7⟩:=q7;exact⟨x7,σ7,H7,I7.unpinned,r7,q7⟩
end
theorem ahF{K:PySem.W.Frag}{a:Addr}{xs:List V}{g:TG}{tb:TS}{D:Ends}{σ:St}{H:Hp}(Pv:Nat->St->Hp->Prop)(h0:Pv 0 σ H)(hl:∀i σ H,i<=xs.length->Pv i σ H->SqL K H a xs)
  (hs:∀i x σ H,xs[i]? =some x->Pv i σ H->g x σ H fun σ2 H2=>tb {D with nx:=Pv (i+1),ct:=Pv (i+1),bk:=D.nx} σ2 H2) (hd:∀σ H,Pv xs.length σ H->D.nx σ H):
  ∃W:Nat->Nat->St->Hp->Prop,(∃m,W 0 m σ H)/\∀i m σ H,W i m σ H->
   ((Itl K a).stop i H/\D.nx σ H)∨((Itl K a).go i H/\∃N:St->Hp->Prop,(∀σ' H',N σ' H'->∃m',m'<m/\W (i+1) m' σ' H')/\∀x H',(Itl K a).yld i H x H'->g x σ H' fun σ2 H2=>tb {D with nx:=N,ct:=N,bk:=D.nx} σ2 H2):=by
 refine⟨fun i m σ H=>m=xs.length-i/\i<=xs.length/\Pv i σ H,⟨xs.length,by simp,Nat.zero_le _,h0⟩,?_⟩
 rintro i m σ H ⟨rfl,hi,p⟩
 have q:=hl i σ H hi p
 by_cases hlt:i<xs.length
 ·refine .inr ⟨⟨xs,xs[i],q,by simp[hlt]⟩,Pv (i+1),fun σ' H' p'=>⟨xs.length-(i+1),by omega,rfl,hlt,p'⟩,fun x H' y=>?_⟩
  obtain⟨e,y⟩:=y
  subst e
  exact hs i x σ _ (y xs q) p
 ·have e:i=xs.length:=by omega
  subst e
  exact .inl ⟨⟨xs,q,Nat.le_refl _⟩,hd σ H p⟩
theorem al5{K:PySem.W.Frag}{a:Addr}{xs:List V}{g:TG}{tb:TS}{D:Ends}{σ:St}{H:Hp}(Pv:Nat->St->Hp->Prop)(h0:Pv 0 σ H)(hl:∀i σ H,i<=xs.length->Pv i σ H->SqT K H a xs)
  (hs:∀i x σ H,xs[i]? =some x->Pv i σ H->g x σ H fun σ2 H2=>tb {D with nx:=Pv (i+1),ct:=Pv (i+1),bk:=D.nx} σ2 H2) (hd:∀σ H,Pv xs.length σ H->D.nx σ H):
  ∃W:Nat->Nat->St->Hp->Prop,(∃m,W 0 m σ H)/\∀i m σ H,W i m σ H->
   ((Itt K a).stop i H/\D.nx σ H)∨((Itt K a).go i H/\∃N:St->Hp->Prop,(∀σ' H',N σ' H'->∃m',m'<m/\W (i+1) m' σ' H')/\∀x H',(Itt K a).yld i H x H'->g x σ H' fun σ2 H2=>tb {D with nx:=N,ct:=N,bk:=D.nx} σ2 H2):=by
 refine⟨fun i m σ H=>m=xs.length-i/\i<=xs.length/\Pv i σ H,⟨xs.length,by simp,Nat.zero_le _,h0⟩,?_⟩
 rintro i m σ H ⟨rfl,hi,p⟩
 have q:=hl i σ H hi p
 by_cases hlt:i<xs.length
 ·refine .inr ⟨⟨xs,xs[i],q,by simp[hlt]⟩,Pv (i+1),fun σ' H' p'=>⟨xs.length-(i+1),by omega,rfl,hlt,p'⟩,fun x H' y=>?_⟩
  obtain⟨e,y⟩:=y
  subst e
  exact hs i x σ _ (y xs q) p
 ·have e:i=xs.length:=by omega
  subst e
  exact .inl ⟨⟨xs,q,Nat.le_refl _⟩,hd σ H p⟩
theorem afV{lo:Int}{n:Nat}{g:TG}{tb:TS}{D:Ends}{σ:St}{H:Hp}(Pv:Nat->St->Hp->Prop)(h0:Pv 0 σ H)
  (hs:∀i σ H,i<n->Pv i σ H->g (.int (lo+i)) σ H fun σ2 H2=>tb {D with nx:=Pv (i+1),ct:=Pv (i+1),bk:=D.nx} σ2 H2) (hd:∀σ H,Pv n σ H->D.nx σ H):
  ∃W:Nat->Nat->St->Hp->Prop,(∃m,W 0 m σ H)/\∀i m σ H,W i m σ H->
   ((Itr lo n).stop i H/\D.nx σ H)∨((Itr lo n).go i H/\∃N:St->Hp->Prop,(∀σ' H',N σ' H'->∃m',m'<m/\W (i+1) m' σ' H')/\∀x H',(Itr lo n).yld i H x H'->g x σ H' fun σ2 H2=>tb {D with nx:=N,ct:=N,bk:=D.nx} σ2 H2):=by
 refine⟨fun i m σ H=>m=n-i/\i<=n/\Pv i σ H,⟨n,by simp,Nat.zero_le _,h0⟩,?_⟩
 rintro i m σ H ⟨rfl,hi,p⟩
 by_cases hlt:i<n
 ·refine .inr ⟨hlt,Pv (i+1),fun σ' H' p'=>⟨n-(i+1),by omega,rfl,hlt,p'⟩,fun x H' y=>?_⟩
  obtain⟨e,y⟩:=y
  subst e y
  exact hs i σ _ hlt p
 ·have e:i=n:=by omega
  subst e
  exact .inl ⟨Nat.le_refl _,hd σ H p⟩
abbrev R2:=V->V->Hp->VK->Prop
def OpR(X:Cx)(f:Value->Value->Sem Value)(r:R2):Prop:=
 ∀(pins:List (Addr×Obj)) (s:Shared) (σ:St) (H:Hp) (x y:V) (v u:Value) (Q:VK),Inv X pins σ H s->RelV x v->RelV y u->r x y H Q->
  wpAny (model X.prog X.w) X.A (f v u) (EP X pins σ Q) X.xe s
def UnR(X:Cx)(f:Value->Sem Value)(r:V->Hp->VK->Prop):Prop:=
 ∀(pins:List (Addr×Obj)) (s:Shared) (σ:St) (H:Hp) (x:V) (v:Value) (Q:VK),Inv X pins σ H s->RelV x v->r x H Q->
  wpAny (model X.prog X.w) X.A (f v) (EP X pins σ Q) X.xe s
def ad2(X:Cx)(f:Value)(r:List V->Hp->VK->Prop):Prop:=
 ∀(pins:List (Addr×Obj)) (s:Shared) (σ:St) (H:Hp) (xs:List V) (us:List Value) (Q:VK),Inv X pins σ H s->Vals xs us->r xs H Q->
  wpAny (model X.prog X.w) X.A (call f us) (EP X pins σ Q) X.xe s
def tOp(r:R2)(ta tb:TE):TE:=fun σ H Q=>ta σ H fun x H1=>tb σ H1 fun y H2=>r x y H2 Q
def tUn(r:V->Hp->VK->Prop)(ta:TE):TE:=fun σ H Q=>ta σ H fun x H1=>r x H1 Q
def rI(C:Int->Int->Prop)(g:Int->Int->V):R2:=fun x y H Q=>∃i j,x=.int i/\y=.int j/\C i j/\Q (g i j) H
def rI0(g:Int->Int->V):R2:=fun x y H Q=>∃i j,x=.int i/\y=.int j/\Q (g i j) H
def rU(g:Int->V):V->Hp->VK->Prop:=fun x H Q=>∃i,x=.int i/\Q (g i) H
section
variable{X:Cx}{a b c:Expr}{ta tb tc:TE}{pos:Pos}
theorem aq3(ha:PE X a ta)(hb:PE X b tb){pins:List (Addr×Obj)}{s:Shared}{σ:St}{H:Hp}{R:V->V->Hp->Prop}(I:Inv X pins σ H s)
  (h:ta σ H fun x H1=>tb σ H1 fun y H2=>R x y H2) {Q:Value->Shared->Prop} {f:Value->Value->Sem Value}
  (hf:∀v u s2 x y H2,Inv X pins σ H2 s2->RelV x v->RelV y u->R x y H2->wpAny (model X.prog X.w) X.A (f v u) Q X.xe s2):
  wpAny (model X.prog X.w) X.A (eval a X.env) (fun v s₁=>wpAny (model X.prog X.w) X.A (eval b X.env) (fun u s₂=>wpAny (model X.prog X.w) X.A (f v u) Q X.xe s₂) X.xe s₁) X.xe s:=by
 refine thn (ha pins s σ H _ I h) fun v s1 ⟨x,H1,I1,r1,q1⟩=>?_
 refine thn (hb pins s1 σ H1 _ I1 q1) fun u s2 ⟨y,H2,I2,r2,q2⟩=>?_
 exact hf v u s2 x y H2 I2 r1 r2 q2
theorem ayS{op:Operator}{r:R2}(ho:OpR X (binaryOp op) r)(ha:PE X a ta)(hb:PE X b tb):PE X (.BinOp a op b pos) (tOp r ta tb):=by
 intro pins s σ H Q I h
 exact wpAny_BinOp (aq3 ha hb I h fun v u s2 x y H2 I2 rx ry q=>ho pins s2 σ H2 x y v u Q I2 rx ry q)
theorem auJ{op:UnaryOp}{r:V->Hp->VK->Prop}(ho:UnR X (unaryOp op) r)(ha:PE X a ta):PE X (.UnaryOp op a pos) (tUn r ta):=by
 intro pins s σ H Q I h
 exact UnaryOp_ (thn (ha pins s σ H _ I h) fun v s1 ⟨x,H1,I1,r1,q1⟩=>ho pins s1 σ H1 x v Q I1 r1 q1)
theorem opI{f:Value->Value->Sem Value}{C:Int->Int->Prop}{g:Int->Int->Int}
  (rule:∀(i j:Int) (t u:Tok) (s:Shared) (Q:Value->Shared->Prop) (E:Value->Shared->Prop),C i j->Q (.int (g i j) s.toks) {s with toks:=s.toks+1}->wpAny (model X.prog X.w) X.A (f (.int i t) (.int j u)) Q E s):
  OpR X f (rI C fun i j=>.int (g i j)):=by
 intro pins s σ H x y v u Q I rx ry h
 obtain⟨i,j,rfl,rfl,hc,q⟩:=h
 obtain⟨t,rfl⟩:=rx
 obtain⟨t',rfl⟩:=ry
 exact rule i j t t' s _ _ hc ⟨.int (g i j),H,I.tok _,⟨_,rfl⟩,q⟩
theorem anR{f:Value->Value->Sem Value}{g:Int->Int->Int}
  (rule:∀(i j:Int) (t u:Tok) (s:Shared) (Q:Value->Shared->Prop) (E:Value->Shared->Prop),Q (.int (g i j) s.toks) {s with toks:=s.toks+1}->wpAny (model X.prog X.w) X.A (f (.int i t) (.int j u)) Q E s):
  OpR X f (rI0 fun i j=>.int (g i j)):=by
 intro pins s σ H x y v u Q I rx ry h
 obtain⟨i,j,rfl,rfl,q⟩:=h
 obtain⟨t,rfl⟩:=rx
 obtain⟨t',rfl⟩:=ry
 exact rule i j t t' s _ _ ⟨.int (g i j),H,I.tok _,⟨_,rfl⟩,q⟩
theorem aqM{f:Value->Value->Sem Value}{g:Int->Int->Bool}
  (rule:∀(i j:Int) (t u:Tok) (s:Shared) (Q:Value->Shared->Prop) (E:Value->Shared->Prop),Q (.bool (g i j)) s->wpAny (model X.prog X.w) X.A (f (.int i t) (.int j u)) Q E s):
  OpR X f (rI0 fun i j=>.bl (g i j)):=by
 intro pins s σ H x y v u Q I rx ry h
 obtain⟨i,j,rfl,rfl,q⟩:=h
 obtain⟨t,rfl⟩:=rx
 obtain⟨t',rfl⟩:=ry
 exact rule i j t t' s _ _ ⟨.bl (g i j),H,I,rfl,q⟩
def ayM(i j:Int):Prop:=0<j/\j<1073741824
def amA(i j:Int):Prop:=0<=j/\j<=1000000/\i.natAbs<2^64
def CMul(i j:Int):Prop:=(-(2^64)<i/\i<2^64)∨(-(2^64)<j/\j<2^64)
theorem CMul.ok{i j:Int}(h:CMul i j):IntMulOk i j:=by
 rcases h with ⟨h1,h2⟩ | ⟨h1,h2⟩
 ·exact .of_left (intBits_le_64 h1 h2)
 ·exact .of_right (intBits_le_64 h1 h2)
theorem aiN(k:Nat):(0:Int)<=2^k:=by
 rw[two_pow_cast]
 exact Int.natCast_nonneg _
theorem aq2:OpR X (binaryOp .Add) (rI0 fun i j=>.int (i+j)):=anR fun _ _ _ _ _ _ _ q=>add_int q
theorem arJ:OpR X (binaryOp .Mult) (rI CMul fun i j=>.int (i*j)):=opI fun _ _ _ _ _ _ _ hc q=>mul_int q hc.ok
theorem alN:OpR X (binaryOp .FloorDiv) (rI ayM fun i j=>.int (i / j)):=opI fun i j _ _ _ _ _ hc q=>by
 have h1:(0:Int)<j:=hc.1
 have h2:j<1073741824:=hc.2
 exact floordiv_int (by omega) (by rw[Int.fdiv_eq_ediv_of_nonneg i (by omega)];exact q) (.inl (PyProof.noPylong_small (by omega)))
theorem ao2:OpR X (binaryOp .Mod) (rI (fun _ j=>0<j) fun i j=>.int (i%j)):=opI fun i j _ _ _ _ _ hc q=>by
 have h1:(0:Int)<j:=hc
 exact mod_int' (by omega) (by rw[Int.fmod_eq_emod_of_nonneg i (by omega)];exact q)
theorem apO:OpR X (binaryOp .Pow) (rI amA fun i j=>.int (i^j.toNat)):=opI fun _ _ _ _ _ _ _ hc q=>pow_int_small hc.1 hc.2.1 hc.2.2 q
theorem aoC:OpR X (binaryOp .LShift) (rI amA fun i j=>.int (i*2^j.toNat)):=opI fun _ _ _ _ _ _ _ hc q=>lshift_int_small hc.1 hc.2.1 hc.2.2 q
theorem aoL:OpR X (binaryOp .RShift) (rI (fun _ j=>0<=j) fun i j=>.int (i / 2^j.toNat)):=opI fun i j _ _ _ _ _ hc q=>
 rshift_int hc (by rw[Int.fdiv_eq_ediv_of_nonneg i (aiN _)];exact q)
theorem asO:OpR X (binaryOp .BitAnd) (rI0 fun i j=>.int (Builtin.bitAnd i j)):=anR fun _ _ _ _ _ _ _ q=>and_int q
theorem auB:OpR X (binaryOp .BitOr) (rI0 fun i j=>.int (Builtin.bitOr i j)):=anR fun _ _ _ _ _ _ _ q=>or_int q
theorem unI{f:Value->Sem Value}{g:Int->Int}
  (rule:∀(i:Int) (t:Tok) (s:Shared) (Q:Value->Shared->Prop) (E:Value->Shared->Prop),Q (.int (g i) s.toks) {s with toks:=s.toks+1}->wpAny (model X.prog X.w) X.A (f (.int i t)) Q E s):
  UnR X f (rU fun i=>.int (g i)):=by
 intro pins s σ H x v Q I rx h
 obtain⟨i,rfl,q⟩:=h
 obtain⟨t,rfl⟩:=rx
 exact rule i t s _ _ ⟨.int (g i),H,I.tok _,⟨_,rfl⟩,q⟩
theorem anO:UnR X (unaryOp .USub) (rU fun i=>.int (-i)):=unI fun _ _ _ _ _ q=>neg_int q
end
def aoG:V->V->Bool
 |.non,.non=>true | .non,.int _=>true | .int _,.non=>true | .non,.bl _=>true | .bl _,.non=>true | .non,.str _=>true | .str _,.non=>true
 |.int _,.int _=>true | .bl _,.bl _=>true | .str _,.str _=>true | .byt _,.byt _=>true
 |.int _,.str _=>true | .str _,.int _=>true | .bl _,.str _=>true | .str _,.bl _=>true
 |_,_=>false
def rEq:R2:=fun x y H Q=>aoG x y=true/\Q (.bl (decide (x=y))) H
def rNe:R2:=fun x y H Q=>aoG x y=true/\Q (.bl (!decide (x=y))) H
theorem ai4{i j:Int}:decide (V.int i=V.int j)=(i==j):=by
 rw[Bool.eq_iff_iff]
 simp
theorem akR{i j:Bool}:decide (V.bl i=V.bl j)=(i==j):=by
 rw[Bool.eq_iff_iff]
 simp
theorem aiU{i j:Str}:decide (V.str i=V.str j)=(i==j):=by
 rw[Bool.eq_iff_iff]
 simp
theorem ai7{i j:Array UInt8}:decide (V.byt i=V.byt j)=(i.toList==j.toList):=by
 rw[Bool.eq_iff_iff]
 cases i
 cases j
 simp
section
variable{X:Cx}{a b c:Expr}{ta tb tc:TE}{pos:Pos}
theorem aaG{pins:List (Addr×Obj)}{σ:St}{H:Hp}{s:Shared}{Q:VK}{k k':Bool}(I:Inv X pins σ H s)(q:Q (.bl k) H)(e:k=k'):EP X pins σ Q (.bool k') s:=by
 subst e
 exact⟨.bl k,H,I,rfl,q⟩
theorem atT:OpR X (compareOp .Eq) rEq:=by
 intro pins s σ H x y v u Q I rx ry h
 obtain⟨hs,q⟩:=h
 cases x with
 |non=>
  cases rx
  cases y with
  |non=>cases ry;exact PySem.EqNone.eq_none_none (aaG I q (by simp))
  |bl j=>cases ry;exact PySem.EqNone.eq_none_bool (aaG I q (by simp))
  |int j=>obtain⟨t',rfl⟩:=ry;exact PySem.EqNone.eq_none_int (aaG I q (by simp))
  |str j=>obtain⟨t',rfl⟩:=ry;exact PySem.EqNone.eq_none_str (aaG I q (by simp))
  |_=>exact absurd (show false=true from hs) Bool.false_ne_true
 |bl i=>
  cases rx
  cases y with
  |non=>cases ry;exact PySem.EqNone.eq_bool_none (aaG I q (by simp))
  |bl j=>cases ry;exact eq_bool (aaG I q akR)
  |str j=>obtain⟨t',rfl⟩:=ry;exact PySem.EqMixed.eq_bool_str (aaG I q (by simp))
  |_=>exact absurd (show false=true from hs) Bool.false_ne_true
 |int i=>
  obtain⟨t,rfl⟩:=rx
  cases y with
  |non=>cases ry;exact PySem.EqNone.eq_int_none (aaG I q (by simp))
  |int j=>obtain⟨t',rfl⟩:=ry;exact eq_int (aaG I q ai4)
  |str j=>obtain⟨t',rfl⟩:=ry;exact PySem.EqMixed.eq_int_str (aaG I q (by simp))
  |_=>exact absurd (show false=true from hs) Bool.false_ne_true
 |str i=>
  obtain⟨t,rfl⟩:=rx
  cases y with
  |non=>cases ry;exact PySem.EqNone.eq_str_none (aaG I q (by simp))
  |bl j=>cases ry;exact PySem.EqMixed.eq_str_bool (aaG I q (by simp))
  |int j=>obtain⟨t',rfl⟩:=ry;exact PySem.EqMixed.eq_str_int (aaG I q (by simp))
  |str j=>obtain⟨t',rfl⟩:=ry;exact eq_str (aaG I q aiU)
  |_=>exact absurd (show false=true from hs) Bool.false_ne_true
 |byt i=>
  obtain⟨t,rfl⟩:=rx
  cases y with
  |byt j=>obtain⟨t',rfl⟩:=ry;exact PySem.W.eq_bytes (aaG I q ai7)
  |_=>exact absurd (show false=true from hs) Bool.false_ne_true
 |_=>cases y<;>exact absurd (show false=true from hs) Bool.false_ne_true
theorem auP:OpR X (compareOp .NotEq) rNe:=by
 intro pins s σ H x y v u Q I rx ry h
 obtain⟨hs,q⟩:=h
 cases x with
 |non=>
  cases rx
  cases y with
  |non=>cases ry;exact PySem.EqNone.ne_none_none (aaG I q (by simp))
  |bl j=>cases ry;exact PySem.EqNone.ne_none_bool (aaG I q (by simp))
  |int j=>obtain⟨t',rfl⟩:=ry;exact PySem.EqNone.ne_none_int (aaG I q (by simp))
  |str j=>obtain⟨t',rfl⟩:=ry;exact PySem.EqNone.ne_none_str (aaG I q (by simp))
  |_=>exact absurd (show false=true from hs) Bool.false_ne_true
 |bl i=>
  cases rx
  cases y with
  |non=>cases ry;exact PySem.EqNone.ne_bool_none (aaG I q (by simp))
  |bl j=>cases ry;exact ne_bool (aaG I q (congrArg not akR))
  |str j=>obtain⟨t',rfl⟩:=ry;exact PySem.EqMixed.ne_bool_str (aaG I q (by simp))
  |_=>exact absurd (show false=true from hs) Bool.false_ne_true
 |int i=>
  obtain⟨t,rfl⟩:=rx
  cases y with
  |non=>cases ry;exact PySem.EqNone.ne_int_none (aaG I q (by simp))
  |int j=>obtain⟨t',rfl⟩:=ry;exact ne_int (aaG I q (congrArg not ai4))
  |str j=>obtain⟨t',rfl⟩:=ry;exact PySem.EqMixed.ne_int_str (aaG I q (by simp))
  |_=>exact absurd (show false=true from hs) Bool.false_ne_true
 |str i=>
  obtain⟨t,rfl⟩:=rx
  cases y with
  |non=>cases ry;exact PySem.EqNone.ne_str_none (aaG I q (by simp))
  |bl j=>cases ry;exact PySem.EqMixed.ne_str_bool (aaG I q (by simp))
  |int j=>obtain⟨t',rfl⟩:=ry;exact PySem.EqMixed.ne_str_int (aaG I q (by simp))
  |str j=>obtain⟨t',rfl⟩:=ry;exact ne_str (aaG I q (congrArg not aiU))
  |_=>exact absurd (show false=true from hs) Bool.false_ne_true
 |byt i=>
  obtain⟨t,rfl⟩:=rx
  cases y with
  |byt j=>obtain⟨t',rfl⟩:=ry;exact PySem.W.ne_bytes (aaG I q (congrArg not ai7))
  |_=>exact absurd (show false=true from hs) Bool.false_ne_true
 |_=>cases y<;>exact absurd (show false=true from hs) Bool.false_ne_true
theorem auK:OpR X (compareOp .Lt) (rI0 fun i j=>.bl (decide (i<j))):=aqM fun _ _ _ _ _ _ _ q=>lt_int q
theorem aw4:OpR X (compareOp .LtE) (rI0 fun i j=>.bl (decide (i<=j))):=aqM fun _ _ _ _ _ _ _ q=>le_int q
theorem axR:OpR X (compareOp .Gt) (rI0 fun i j=>.bl (decide (j<i))):=aqM fun _ _ _ _ _ _ _ q=>gt_int q
theorem ajI:OpR X (compareOp .In) (fun x y H Q=>∃i j,x=.str i/\y=.str j/\Q (.bl (!(Builtin.Str.occurrences j i 0 j.length 1).isEmpty)) H):=by
 intro pins s σ H x y v u Q I rx ry h
 obtain⟨i,j,rfl,rfl,q⟩:=h
 obtain⟨t,rfl⟩:=rx
 obtain⟨t',rfl⟩:=ry
 exact in_str (aaG I q rfl)
theorem aqK:OpR X (compareOp .Is) (fun x y H Q=>y=.non/\Q (.bl (decide (x=.non))) H):=by
 intro pins s σ H x y v u Q I rx ry h
 obtain⟨rfl,q⟩:=h
 cases ry
 refine is_none_gen (aaG I q ?_)
 cases x<;>first
  |(cases rx;rfl)
  |(obtain⟨t,rfl⟩:=rx;rfl)
theorem al8:OpR X (compareOp .IsNot) (fun x y H Q=>y=.non/\Q (.bl (!decide (x=.non))) H):=by
 intro pins s σ H x y v u Q I rx ry h
 obtain⟨rfl,q⟩:=h
 cases ry
 refine isnot_none_gen (aaG I q ?_)
 cases x<;>first
  |(cases rx;rfl)
  |(obtain⟨t,rfl⟩:=rx;rfl)
theorem ak5(b:Expr){op:CmpOp}(h:op≠ .In:=by decide)(h2:op≠ .NotIn:=by decide):behindInMarks op b=false:=by
 have e1:(op==CmpOp.In)=false:=by cases op<;>first | rfl | exact absurd rfl h
 have e2:(op==CmpOp.NotIn)=false:=by cases op<;>first | rfl | exact absurd rfl h2
 cases b<;>simp[behindInMarks,e1,e2]
theorem alY{op:CmpOp}{r:R2}(ho:OpR X (compareOp op) r)(ha:PE X a ta)(hb:PE X b tb)(hm:behindInMarks op b=false):PE X (.Compare a [op] [b] pos) (tOp r ta tb):=by
 intro pins s σ H Q I h
 exact wpAny_Compare1 (aq3 ha hb I h fun v u s2 x y H2 I2 rx ry q=>ho pins s2 σ H2 x y v u Q I2 rx ry q) hm
def aiZ(t:TE):TT:=fun σ H Q=>t σ H fun x H'=>∃k,x=.bl k/\Q k H'
theorem alM{op:CmpOp}{r:R2}(ho:OpR X (compareOp op) r)(ha:PE X a ta)(hb:PE X b tb)(hm:behindInMarks op b=false):PT X (.Compare a [op] [b] pos) (aiZ (tOp r ta tb)):=by
 intro pins s σ H Q I h
 refine wpAny_isTrue_Compare1 (thn (ha pins s σ H _ I h) fun v s1 ⟨x,H1,I1,r1,q1⟩=>thn (hb pins s1 σ H1 _ I1 q1) fun u s2 ⟨y,H2,I2,r2,q2⟩=>
  thn (ho pins s2 σ H2 x y v u _ I2 r1 r2 q2) fun c s3 ⟨z,H3,I3,r3,k,e,q3⟩=>?_) hm
 subst e
 cases r3
 exact wpAny_truthy_bool ⟨H3,I3,q3⟩
def akX(r r':R2)(ta tb tc:TE):TE:=fun σ H Q=>ta σ H fun x H1=>tb σ H1 fun y H2=>r x y H2 fun z H3=>∃k,z=.bl k/\
 (if k=true then tc σ H3 fun w' H4=>r' y w' H4 Q else Q (.bl false) H3)
theorem akF{op op':CmpOp}{r r':R2}(ho:OpR X (compareOp op) r)(ho':OpR X (compareOp op') r')(ha:PE X a ta)(hb:PE X b tb)(hc:PE X c tc)
  (hm:lastMarks [op,op'] [b,c]=false:=by with_unfolding_all rfl):PT X (.Compare a [op,op'] [b,c] pos) (aiZ (akX r r' ta tb tc)):=by
 intro pins s σ H Q I h
 refine isTrue_chain (thn (ha pins s σ H _ I h) fun v s1 ⟨x,H1,I1,r1,q1⟩=>test_link (thn (hb pins s1 σ H1 _ I1 q1) fun u s2 ⟨y,H2,I2,r2,q2⟩=>
  thn (ho pins s2 σ H2 x y v u _ I2 r1 r2 q2) fun d s3 ⟨z,H3,I3,r3,k,e,q3⟩=>?_)) hm
 subst e
 cases r3
 refine wpAny_truthy_bool ?_
 cases k with
 |false=>
  obtain⟨k',e',q'⟩:=q3
  cases e'
  exact ite_ff ⟨H3,I3,q'⟩
 |true=>
  refine ite_tt (test_last (thn (hc pins s3 σ H3 _ I3 q3) fun w' s4 ⟨z',H4,I4,r4,q4⟩=>thn (ho' pins s4 σ H4 y z' u w' _ I4 r2 r4 q4) fun d' s5 ⟨z2,H5,I5,r5,k2,e2,q5⟩=>?_))
  subst e2
  cases r5
  exact wpAny_truthy_bool ⟨H5,I5,q5⟩
theorem adN:(sizeLine:Nat)<2^63:=by rw[sizeLine_eq];decide
theorem aiK:OpR X (binaryOp .Add) (fun x y H Q=>∃i j,x=.str i/\y=.str j/\i.length+j.length<=sizeLine/\Q (.str (i++j)) H):=by
 intro pins s σ H x y v u Q I rx ry h
 obtain⟨i,j,rfl,rfl,hz,q⟩:=h
 obtain⟨t,rfl⟩:=rx
 obtain⟨t',rfl⟩:=ry
 exact add_str (fun t' tk=>⟨.str (i++j),H,I.tok _,⟨_,rfl⟩,q⟩) hz
theorem abI{x:V}{us:List Value}(r:Vals [x] us):∃u,us=[u]/\RelV x u:=by
 cases r with
 |cons r1 r2=>cases r2;exact⟨_,rfl,r1⟩
theorem ahO{x y:V}{us:List Value}(r:Vals [x,y] us):∃u w',us=[u,w']/\RelV x u/\RelV y w':=by
 cases r with
 |cons r1 r2=>
  cases r2 with
  |cons r3 r4=>cases r4;exact⟨_,_,rfl,r1,r3⟩
theorem akY:ad2 X (.builtin "abs") (fun xs H Q=>∃i,xs=[.int i]/\Q (.int (if i<0 then -i else i)) H):=by
 intro pins s σ H xs us Q I r h
 obtain⟨i,rfl,q⟩:=h
 obtain⟨u,rfl,t,rfl⟩:=abI r
 exact call_abs_int fun u tk=>⟨.int (if i<0 then -i else i),H,I.tok _,⟨_,rfl⟩,q⟩
theorem ajZ(hc:X.calm=true):ad2 X (.builtin "min") (fun xs H Q=>∃i j,xs=[.int i,.int j]/\Q (.int (if j<i then j else i)) H):=by
 intro pins s σ H xs us Q I r h
 obtain⟨i,j,rfl,q⟩:=h
 obtain⟨u,w',rfl,⟨t,rfl⟩,⟨t',rfl⟩⟩:=ahO r
 refine min_two_ints (I.ok.hd hc) fun h' tk k=>⟨_,H,I.kept k,?_,q⟩
 by_cases hj:j<i
 ·rw[if_pos hj,if_pos hj];exact⟨_,rfl⟩
 ·rw[if_neg hj,if_neg hj];exact⟨_,rfl⟩
theorem ajJ:ad2 X (.type "int") (fun xs H Q=>(∃i,xs=[.int i]/\Q (.int i) H)∨∃k,xs=[.bl k]/\Q (.int (if k then 1 else 0)) H):=by
 intro pins s σ H xs us Q I r h
 rcases h with ⟨i,rfl,q⟩ | ⟨k,rfl,q⟩
 ·obtain⟨u,rfl,t,rfl⟩:=abI r
  exact call_int_int ⟨.int i,H,I,⟨_,rfl⟩,q⟩
 ·obtain⟨u,rfl,r1⟩:=abI r
  cases r1
  exact call_int_bool ⟨.int (if k then 1 else 0),H,I.tok _,⟨_,rfl⟩,q⟩
end
structure ObjM(h:Heap)(x dx C:Addr)(mA:Str->Option Value):Prop where
 obj:h.get? x=some (PySem.W.instObj C dx)
 ns:h.Ns1 dx mA
 ne:dx≠x
theorem agA{h:Heap}{dx:Addr}{mA:Str->Option Value}(n:h.Ns1 dx mA):∃od,h.get? dx=some od/\∀name,PySem.W.lookIn name od=some (mA name):=by
 obtain⟨o,es,ep,ho,hd,hk,_,hm⟩:=n
 refine⟨o,ho,fun name=>?_⟩
 have e:=hm name
 unfold nsFind findBy at e
 rw[←Array.find?_toList] at e
 unfold PySem.W.lookIn
 rw[hd]
 dsimp only
 split
 ·rename_i y q
  rw[q] at e
  exact congrArg some e
 ·rename_i q
  rw[q] at e
  have a:es.toList.any (·.refKey)=false:=by
   rw[List.any_eq_false]
   intro y hy
   obtain⟨z,t,hkey⟩:=hk y (Array.mem_toList_iff.mp hy)
   simp[DictEntry.refKey,hkey]
  have a':¬es.toList.any (·.refKey)=true:=by rw[a];exact Bool.false_ne_true
  rw[if_neg a']
  exact congrArg some e
theorem ObjM.look{h:Heap}{x dx C:Addr}{mA:Str->Option Value}(I:ObjM h x dx C mA):∃od,PySem.W.InstAt h x (PySem.W.instObj C dx) C (some od)/\∀name,PySem.W.lookIn name od=some (mA name):=
 let ⟨od,ho,hl⟩:=agA I.ns
 ⟨od,⟨I.obj,rfl,rfl,ho⟩,hl⟩
section
variable{prog:Program}{w:World}{A:Around}{E:Value->Shared->Prop}{s:Shared}{K:PySem.W.Frag}{x dx C f:Addr}{mA:Str->Option Value}{name:Str}{v:Value}
theorem amZ{ns:List Str}{Q:Unit->Shared->Prop}(X:K.In s.heap)(I:ObjM s.heap x dx C mA)
  (hs:PySem.W.findIn K (.ref C) "__setattr__"=some (some (.builtin "object.__setattr__"))) (hp:PySem.W.plainOver K C=true) (ht:PySem.W.takerIn K C name=some none) (hh:PySem.W.hasDictIn K C=true)
  (hw:PySem.Within mA ns) (hsz:ns.length<=sizeLine)
  (h:∀h',ObjM h' x dx C (fun y=>if y=name then some v else mA y)->Heap.SameBut dx s.heap h'->Q () {s with heap:=h',toks:=s.toks+2}):
  wpAny (model prog w) A (setAttr (.ref x) name v) Q E s:=by
 obtain⟨od,J,hl⟩:=I.look
 refine PySem.W.set_plain X J hs (PySem.W.osa_open (s:={s with toks:=s.toks+1}) (r:=none) X J hp ht fun b=>?_)
 obtain⟨cd,hc,hd'⟩:=PySem.W.any_some hh
 have hx:s.heap.get? x=some ⟨.ref C,some dx,.plain,#[]⟩:=I.obj
 refine wpAny_bind (wpAny_pure (wpAny_bind (wpAny_bind (wpAny_loadPart hx (wpAny_bind (PySem.W.Looks.here (s:={s with toks:=s.toks+1}) (PySem.W.looks_clsIn X hc) ?_))))))
 rw[hd']
 refine wpAny_pure (a:=some dx) (wpAny_bind (wpAny_pure (wpAny_bind ?_)))
 refine wpAny_nsSet1 (s:={s with toks:=s.toks+1}) I.ns fun h' hn2 hs2=>?_
 obtain⟨oD,esD,epD,hoD,hdD,hcD⟩:=hn2.count (PySem.Within.cons name v hw)
 refine wpAny_bind (wpAny_lookBehind hoD (by rw[hdD];exact pastItsLine_dict (Nat.le_trans hcD (by rw[List.length_cons];omega))) ?_)
 exact wpAny_pure (h _ ⟨(hs2.2 _ (Ne.symm I.ne)).trans I.obj,hn2,I.ne⟩ hs2)
theorem akK{R:Result->Shared->Prop}{vs:List Value}{kw:List (Str×Value)}(X:K.In s.heap)(hm:PySem.W.makesIn K C=true)
  (hi:PySem.W.findIn K (.ref C) "__init__"=some (some (.ref f))) (hf:PySem.W.typeIn K (.ref f)=some (.type "function"))
  (h:codeAny (model prog w) (A.under (.builtin "type.__call__" ⟨.ref C::vs,kw⟩)) (.call (.ref f) ⟨.ref (s.heap.objs.size+1)::vs,kw⟩) (PySem.W.InitBack (s.heap.objs.size+1) R)
   {s with heap:=(s.heap.push PySem.W.emptyDict).push (PySem.W.instObj C s.heap.objs.size)}):
  codeAny (model prog w) A (.call (.ref C) ⟨vs,kw⟩) R s:=by
 obtain⟨hh,g,d,t,os⟩:=s
 exact PySem.W.make_core (PySem.W.makes_of X hm) (PySem.W.looks_findIn X hi) (fun self=>PySem.W.bind_fn X self hf) (.inl rfl) h
theorem ajN{R:Result->Shared->Prop}(X:K.In s.heap)(hm:PySem.W.makesIn K C=true)
  (hi:PySem.W.findIn K (.ref C) "__init__"=some (some (.builtin "object.__init__")))
  (hb:∀self,PySem.W.Looks (model prog w) s.heap (bindSpecial (.builtin "object.__init__") self) (.builtin "object.__init__",[self]))
  (h:codeAny (model prog w) (A.under (.builtin "type.__call__" ⟨[.ref C],[]⟩)) (.call (.builtin "object.__init__") ⟨[.ref (s.heap.objs.size+1)],[]⟩) (PySem.W.InitBack (s.heap.objs.size+1) R)
   {s with heap:=(s.heap.push PySem.W.emptyDict).push (PySem.W.instObj C s.heap.objs.size)}):
  codeAny (model prog w) A (.call (.ref C) ⟨[],[]⟩) R s:=by
 obtain⟨hh,g,d,t,os⟩:=s
 exact PySem.W.make_core (PySem.W.makes_of X hm) (PySem.W.looks_findIn X hi) hb (.inr ⟨rfl,rfl⟩) h
end
def abN(f:Str)(v:V):List (Str×V)->List (Str×V)
 |[]=>[(f,v)]
 |(g,x)::r=>if g=f then (g,v)::r else (g,x)::abN f v r
theorem adS(f g:Str)(v:V):∀fs:List (Str×V),(abN f v fs).lookup g=if g=f then some v else fs.lookup g
 |[]=>by
  show List.lookup g [(f,v)]=_
  by_cases h:g=f
  ·have hb:(g==f)=true:=beq_iff_eq.mpr h
   simp only[List.lookup,hb,if_pos h]
  ·have hb:(g==f)=false:=beq_eq_false_iff_ne.mpr h
   simp only[List.lookup,hb,if_neg h]
 |(k,x)::r=>by
  have ih:=adS f g v r
  rw[show abN f v ((k,x)::r)=(if k=f then (k,v)::r else (k,x)::abN f v r) from rfl]
  by_cases hk:k=f
  ·rw[if_pos hk]
   by_cases h:g=k
   ·have hb:(g==k)=true:=beq_iff_eq.mpr h
    simp only[List.lookup,hb,if_pos (h.trans hk)]
   ·have hb:(g==k)=false:=beq_eq_false_iff_ne.mpr h
    simp only[List.lookup,hb,if_neg (fun e:g=f=>h (e.trans hk.symm))]
  ·rw[if_neg hk]
   by_cases h:g=k
   ·have hb:(g==k)=true:=beq_iff_eq.mpr h
    simp only[List.lookup,hb,if_neg (fun e:g=f=>hk (h.symm.trans e))]
   ·have hb:(g==k)=false:=beq_eq_false_iff_ne.mpr h
    simp only[List.lookup,hb]
    exact ih
theorem adR(f:Str)(v:V):∀fs:List (Str×V),f∈(abN f v fs).map (·.1)/\∀g,g∈fs.map (·.1)->g∈(abN f v fs).map (·.1)
 |[]=>⟨by simp[abN],fun g h=>by simp at h⟩
 |(k,x)::r=>by
  obtain⟨i1,i2⟩:=adR f v r
  rw[show abN f v ((k,x)::r)=(if k=f then (k,v)::r else (k,x)::abN f v r) from rfl]
  by_cases hk:k=f
  ·rw[if_pos hk]
   subst hk
   exact⟨by simp,fun g h=>by simpa using h⟩
  ·rw[if_neg hk]
   refine⟨?_,fun g h=>?_⟩
   ·rw[List.map_cons]
    exact List.mem_cons_of_mem _ i1
   ·rw[List.map_cons] at h ⊢
    rcases List.mem_cons.mp h with e | e
    ·exact List.mem_cons.mpr (.inl e)
    ·exact List.mem_cons_of_mem _ (i2 g e)
theorem ad1(f:Str)(v:V):∀fs:List (Str×V),(abN f v fs).length<=fs.length+1
 |[]=>by simp[abN]
 |(k,x)::r=>by
  have ih:=ad1 f v r
  rw[show abN f v ((k,x)::r)=(if k=f then (k,v)::r else (k,x)::abN f v r) from rfl]
  by_cases hk:k=f
  ·rw[if_pos hk,List.length_cons,List.length_cons];omega
  ·rw[if_neg hk,List.length_cons,List.length_cons];omega
theorem ajT{v:V}{u:Value}(r:RelV v u):PySem.W.handedIn u=true:=by
 cases v with
 |non=>cases (show u=Value.none from r);rfl
 |bl b=>cases (show u=Value.bool b from r);rfl
 |int i=>obtain⟨t,e⟩:=(show ∃t,u=Value.int i t from r);cases e;rfl
 |str x=>obtain⟨t,e⟩:=(show ∃t,u=Value.str x t from r);cases e;rfl
 |byt b=>obtain⟨t,e⟩:=(show ∃t,u=Value.bytes b t from r);cases e;rfl
 |flt b=>obtain⟨t,e⟩:=(show ∃t,u=Value.float b t from r);cases e;rfl
 |ref a=>cases (show u=Value.ref a from r);rfl
 |ty n=>cases (show u=Value.type n from r);rfl
section
variable{P:Program}{w:World}{H H':Hp}{h h':Heap}{a C dx:Addr}{fs fs':List (Str×V)}
theorem amS(hok:HOk P w H h)(e:H a=some (.ins C dx fs)):∃mA,ObjM h a dx C mA/\(∀f,amO (fs.lookup f) (mA f))/\PySem.Within mA (fs.map (·.1))/\fs.length<=1000/\H dx=some (.own a):=by
 obtain⟨d,z,ne,ob,mA,n,r,q⟩:=(show ObjOk P w H h a (.ins C dx fs) from hok a _ e)
 exact⟨mA,⟨ob,n,ne⟩,r,q,z,d⟩
end
structure Cls(K:PySem.W.Frag)(C:Addr):Prop where
 pg:PySem.W.plainGet K C Str.empty=true
 hd:PySem.W.hasDictIn K C=true
 po:PySem.W.plainOver K C=true
 sa:PySem.W.findIn K (.ref C) "__setattr__"=some (some (.builtin "object.__setattr__"))
def NoAttr(K:PySem.W.Frag)(C:Addr)(f:Str):Prop:=PySem.W.findIn K (.ref C) f=some none
theorem NoAttr.taker{K:PySem.W.Frag}{C:Addr}{f:Str}(n:NoAttr K C f):PySem.W.takerIn K C f=some none:=by
 unfold PySem.W.takerIn
 rw[show PySem.W.findIn K (.ref C) f=some none from n]
 rfl
structure Meth(K:PySem.W.Frag)(C:Addr)(m:Str)(f:Addr):Prop where
 at_:PySem.W.findIn K (.ref C) m=some (some (.ref f))
 fn:PySem.W.isFn K (.ref f)=true
 kp:PySem.W.keepIn K (.ref f)=true
section
variable{X:Cx}{pins:List (Addr×Obj)}{σ:St}{H:Hp}{s:Shared}{a C dx:Addr}{fs:List (Str×V)}{f:Str}{v:V}{A:Around}{E:Value->Shared->Prop}
theorem ah7{y:V}{u:Value}{Q:Unit->Shared->Prop}(I:Inv X pins σ H s)(e:H a=some (.ins C dx fs))(c:Cls X.K C)(n:NoAttr X.K C f)(hl:fs.length<1000)(ry:RelV y u)
  (h:∀s',Inv X pins σ (upd H a (.ins C dx (abN f y fs))) s'->Q () s'):wpAny (model X.prog X.w) A (setAttr (.ref a) f u) Q E s:=by
 obtain⟨mA,O,r,wi,_,ho⟩:=amS I.hok e
 have hz:(fs.map (·.1)).length<=sizeLine:=by rw[List.length_map,sizeLine_eq];omega
 refine amZ I.kIn O c.sa c.po n.taker c.hd wi hz fun h' O' sb=>h _ ?_
 have hd:∃o,h'.get? dx=some o:=let ⟨o,_,_,e',_⟩:=O'.ns;⟨o,e'⟩
 refine I.write (x:=a) (e:=dx) (by rw[e];exact True.intro) (.inr ho) (fun b q hb z=>(sb.2 b hb).trans z) hd ?_
 refine⟨by rw[aaD O.ne];exact ho,?_,O.ne,O'.obj,_,O'.ns,fun g=>?_,fun g hg=>?_⟩
 ·have:=ad1 f y fs;omega
 ·show amO ((abN f y fs).lookup g) (if g=f then some u else mA g)
  rw[adS]
  by_cases q:g=f
  ·rw[if_pos q,if_pos q];exact ry
  ·rw[if_neg q,if_neg q];exact r g
 ·by_cases q:g=f
  ·rw[q];exact (adR f y fs).1
  ·refine (adR f y fs).2 g (wi g fun z=>hg ?_)
   show (if g=f then some u else mA g)=none
   rw[if_neg q];exact z
theorem Inv.made(I:Inv X pins σ H s):Inv X pins σ (upd (upd H s.heap.objs.size (.own (s.heap.objs.size+1))) (s.heap.objs.size+1) (.ins C s.heap.objs.size []))
  {s with heap:=(s.heap.push PySem.W.emptyDict).push (PySem.W.instObj C s.heap.objs.size)}:=by
 have e1:(s.heap.push PySem.W.emptyDict).get? s.heap.objs.size=some PySem.W.emptyDict:=Heap.get?_push_size s.heap rfl
 have e2:((s.heap.push PySem.W.emptyDict).push (PySem.W.instObj C s.heap.objs.size)).get? (s.heap.objs.size+1)=some (PySem.W.instObj C s.heap.objs.size):=by
  have:=Heap.get?_push_size (s.heap.push PySem.W.emptyDict) (o:=PySem.W.instObj C s.heap.objs.size) rfl
  rwa [Heap.size_push] at this
 have e3:(s.heap.push PySem.W.emptyDict).Ns s.heap.objs.size (fun _=>none):=⟨PySem.W.emptyDict,#[],_,e1,rfl,(fun e he=>absurd he (by simp)),fun _=>rfl⟩
 have I1:=I.laid (a:=s.heap.objs.size) (o:=.own (s.heap.objs.size+1)) (h':=s.heap.push PySem.W.emptyDict) (t':=s.toks) (fun b u q=>Heap.get?_push_of_some _ q) (Nat.le_refl _) ⟨_,e1⟩
 refine I1.laid (a:=s.heap.objs.size+1) (o:=.ins C s.heap.objs.size []) (t':=s.toks) (fun b u q=>Heap.get?_push_of_some _ q) (Nat.le_of_eq (Heap.size_push _ _)) ?_
 have ne:s.heap.objs.size≠s.heap.objs.size+1:=Nat.ne_of_lt (Nat.lt_succ_self _)
 refine⟨by rw[aaD ne,aaA],Nat.zero_le _,ne,e2,fun _=>none,(Heap.Ns1.of_empty e3).at fun o q=>Heap.get?_push_of_some _ q,fun _=>True.intro,fun y hy=>absurd rfl hy⟩
theorem alU{prog:Program}{w:World}{env:Env}{e:Expr}{f:Str}{pos:Pos}{s:Shared}{Q:Value->Shared->Prop}(hb:attributeBase e f env (eval e env)=eval e env)
  (h:wpAny (model prog w) A (eval e env) (fun o s₁=>wpAny (model prog w) A (getAttr o f true) Q E s₁) E s):wpAny (model prog w) A (eval (.Attribute e f pos) env) Q E s:=
 Attribute_any_ h (by rw[arm_eval_Attribute,hb])
end
def awF(K:PySem.W.Frag)(ta tv:TE)(f:Str):TS:=fun D σ H=>tv σ H fun y H1=>ta σ H1 fun x H2=>∃a C dx fs,x=.ref a/\H2 a=some (.ins C dx fs)/\Cls K C/\NoAttr K C f/\fs.length<1000/\
 D.nx σ (upd H2 a (.ins C dx (abN f y fs)))
section
variable{X:Cx}{o e value:Expr}{f:Str}{pos pos' tpos:Pos}{ta tv:TE}
theorem aq6(ha:PE X o ta)(hv:PE X value tv)(hs:swapsWith value (some (.Attribute o f pos')) pos.line X.env=pure false):PS X (.Assign [.Attribute o f pos'] value pos) (awF X.K ta tv f):=by
 intro pins s σ H D I h
 refine plainObj_wpAny_Assign_Attribute (thn (hv pins s σ H _ I h) fun u s1 ⟨y,H1,I1,ry,q⟩=>thn (ha pins s1 σ H1 _ I1 q) fun ov s2 ⟨x,H2,I2,rx,a,C,dx,fs,ex,ea,c,n,l,q2⟩=>?_) hs
 subst ex
 obtain rfl:ov=Value.ref a:=rx
 exact ah7 I2 ea c n l ry fun s3 I3=>⟨σ,_,I3,q2⟩
end
section
variable{X:Cx}{pins:List (Addr×Obj)}{σ:St}{H:Hp}{s:Shared}{A:Around}{E:Value->Shared->Prop}{Q:Value->Shared->Prop}{c:Value}{b:Bool}
end
structure Room(k:Nat)(A:Around):Prop where
 hd:A.handled=none
 dp:A.depth+3*k+5<recursionLimit
 un:A.units+16*k+200<cLine
theorem Room.mono{j k:Nat}{A:Around}(r:Room k A)(h:j<=k):Room j A:=⟨r.hd,by have:=r.dp;omega,by have:=r.un;omega⟩
theorem Room.deeper{k:Nat}{A:Around}(r:Room (k+1) A)(env:Env):Room k (A.deeper env):=
 ⟨r.hd,by have:=r.dp;show A.depth+1+3*k+5<_;omega,by have:=r.un;show A.units+3+16*k+200<_;omega⟩
theorem ah4{A:Around}{C:Addr}{us:List Value}{kw:List (Str×Value)}:(A.under (.builtin "type.__call__" ⟨.ref C::us,kw⟩)).depth=A.depth+1:=by
 first | rfl | simp[Around.under,Code.weight,Code.isCreation,Code.isGuard,Code.isCaller,Code.frames,Code.isFrame,guardIds]
theorem aiD{A:Around}{C:Addr}{us:List Value}{kw:List (Str×Value)}:(A.under (.builtin "type.__call__" ⟨.ref C::us,kw⟩)).units=A.units+1:=by
 first | rfl | simp[Around.under,Code.cUnits,Code.frames,Code.isFrame]
theorem Room.make{k:Nat}{A:Around}(r:Room (k+1) A)(C:Addr)(us:List Value)(kw:List (Str×Value)):Room k (A.under (.builtin "type.__call__" ⟨.ref C::us,kw⟩)):=
 ⟨r.hd,by have:=r.dp;rw[ah4];omega,by have:=r.un;rw[aiD];omega⟩
theorem Room.depth{k:Nat}{A:Around}(r:Room k A):A.depth<recursionLimit:=by have:=r.dp;omega
def afL:TA:=fun _ H Q=>Q [] H
def ad0(ta:TE)(tr:TA):TA:=fun σ H Q=>ta σ H fun x H1=>tr σ H1 fun xs H2=>Q (x::xs) H2
section
variable{X:Cx}{e:Expr}{es:List Expr}{te:TE}{t:TA}{pos:Pos}
theorem abW:PA X [] afL:=fun _ _ _ _ H Q I h=>Calls.spliced_nil ⟨[],H,I,.nil,h⟩
theorem abF(ha:PE X e te)(hr:PA X es t)(hs:starEach (e::es) X.env=(false,eval e X.env)::starEach es X.env:=by rfl):PA X (e::es) (ad0 te t):=by
 intro pos pins s σ H Q I h
 rw[hs]
 show wpAny _ _ (spliced ((false,eval e X.env)::backTo pos (starEach es X.env))) _ _ s
 refine Calls.spliced_cons (thn (ha pins s σ H _ I h) fun u s1 ⟨x,H1,I1,r1,q1⟩=>?_)
 exact thn (hr pos pins s1 σ H1 _ I1 q1) fun us s2 ⟨xs,H2,I2,r2,q2⟩=>⟨x::xs,H2,I2,.cons r1 r2,q2⟩
def ax0(t:TA):TE:=fun σ H Q=>t σ H fun xs H1=>xs.length<=sizeLine/\∀p,H1 p=none->Q (.ref p) (upd H1 p (.tup xs))
def au1(t:TA):TE:=fun σ H Q=>t σ H fun xs H1=>xs.length<=sizeLine/\∀p,H1 p=none->Q (.ref p) (upd H1 p (.lst xs))
theorem aoP{x1}(h:PA X es t):PE X (.Tuple es x1 pos) (ax0 t):=by
 intro pins s σ H Q I hq
 refine wpAny_Tuple_spliced (thn (h pos pins s σ H _ I hq) fun us s1 ⟨xs,H1,I1,r,z,q⟩=>⟨by rw[←r.length];exact z,?_⟩)
 have hf:H1 s1.heap.objs.size=none:=I1.hok.fresh (Nat.le_refl _)
 refine⟨.ref s1.heap.objs.size,upd H1 s1.heap.objs.size (.tup xs),I1.laid (t':=s1.toks) (fun b u e=>Heap.get?_push_of_some _ e) (Nat.le_refl _) ?_,rfl,q _ hf⟩
 exact⟨z,us,r,⟨_,Heap.get?_push_size _ rfl,rfl,_,rfl⟩⟩
theorem an7(h:PA X es t):PE X (.List es pos) (au1 t):=by
 intro pins s σ H Q I hq
 refine wpAny_List_spliced (thn (h pos pins s σ H _ I hq) fun us s1 ⟨xs,H1,I1,r,z,q⟩=>⟨by rw[←r.length];exact z,?_⟩)
 have hf:H1 s1.heap.objs.size=none:=I1.hok.fresh (Nat.le_refl _)
 refine⟨.ref s1.heap.objs.size,upd H1 s1.heap.objs.size (.lst xs),I1.laid (t':=s1.toks) (fun b u e=>Heap.get?_push_of_some _ e) (Nat.le_refl _) ?_,rfl,q _ hf⟩
 exact⟨z,us,0,r,Heap.get?_push_size _ rfl⟩
end
abbrev Sp:=List V->Hp->VK->XK->Prop
abbrev CXT:=List Env->Hp->Shared->XK->Value->Shared->Prop
structure Env0(P:Program)(w:World)(K:PySem.W.Frag)(mg:Str->Option Value)(base:Heap)(A:Around)(outer:List Env)(s:Shared)(H:Hp):Prop where
 frames:A.frames=some outer
 mod:Mod K mg base
 bs:∀b o,base.get? b=some o->s.heap.get? b=some o/\H b=none
 bsz:base.objs.size<=s.heap.objs.size
 funs:s.heap.FunFrames base outer
 frf:∀b∈frs outer,H b=none
 hok:HOk P w H s.heap
 bare:AllBare s.gens
def CE(outer:List Env)(P:Program)(w:World)(H:Hp)(s:Shared)(Q:VK)(u:Value)(s':Shared):Prop:=
 ∃v H',s'.os=s.os/\AllBare s'.gens/\Un (frs outer) [] H H' s.heap s'.heap/\HOk P w H' s'.heap/\RelV v u/\Q v H'
def CR(CX:CXT)(outer:List Env)(P:Program)(w:World)(H:Hp)(s:Shared)(Q:VK)(E:XK)(r:Result)(s':Shared):Prop:=
 match r with
 |.ok (.ret u)=>CE outer P w H s Q u s'
 |.ok _=>False
 |.error e=>CX outer H s E e s'
structure FnOk(P:Program)(w:World)(K:PySem.W.Frag)(mg:Str->Option Value)(base:Heap)(CX:CXT)(k:Nat)(f:Addr)(fd:FuncData)(ps:List Str)(sp:Sp):Prop where
 len:∀vs H Q E,sp vs H Q E->vs.length=ps.length
 run:∀(A:Around) (outer:List Env) (s:Shared) (H:Hp) (args:Args) (us:List Value) (vs:List V) (Q:VK) (E:XK),Room k A->Env0 P w K mg base A outer s H->BindsTo s fd args (ps.zip us)->Vals vs us->sp vs H Q E->
  codeAny (model P w) A (.call (.ref f) args) (CR CX outer P w H s Q E) s
theorem Env0.make{P:Program}{w:World}{K:PySem.W.Frag}{mg:Str->Option Value}{base:Heap}{A:Around}{outer:List Env}{s:Shared}{H:Hp}(e:Env0 P w K mg base A outer s H)(C:Addr)(us:List Value)(kw:List (Str×Value)):
  Env0 P w K mg base (A.under (.builtin "type.__call__" ⟨.ref C::us,kw⟩)) outer s H:=⟨by first | exact e.frames | (simpa [Around.under,Code.envs,Code.isFrame,pushEnvs] using e.frames),e.mod,e.bs,e.bsz,e.funs,e.frf,e.hok,e.bare⟩
section
variable{X:Cx}{pins:List (Addr×Obj)}{σ:St}{H:Hp}{s s':Shared}
theorem Inv.env0(I:Inv X pins σ H s):Env0 X.prog X.w X.K X.mg X.base X.A X.stack s H:=
 ⟨I.ok.frames,I.ok.mod,I.bs,Nat.le_trans I.ok.bsz I.sz,I.stack,I.stkFree,I.hok,I.bare⟩
theorem Inv.after{Q:VK}{u:Value}(I:Inv X pins σ H s)(h:CE X.stack X.prog X.w H s Q u s'):EP X pins σ Q u s':=by
 obtain⟨v,H',os,bare,un,hok,r,q⟩:=h
 obtain⟨hh,g,d,t,os'⟩:=s'
 obtain rfl:os'=s.os:=os
 exact⟨v,H',I.call (h':=hh) (g':=g) (d':=d) (t':=t) (ch:=[]) un hok bare (fun b z=>absurd z (by simp)),r,q⟩
end
def af5(sp:Sp)(dvs:List V)(E:XK)(t:TA):TE:=fun σ H Q=>t σ H fun vs H1=>sp (vs++dvs) H1 Q E
def aiT(C:Addr)(sp:Sp)(dvs:List V)(E:XK)(t:TA):TE:=fun σ H Q=>t σ H fun vs H1=>∀x dx,H1 x=none->H1 dx=none->dx≠x->
 sp (.ref x::(vs++dvs)) (upd (upd H1 dx (.own x)) x (.ins C dx [])) (fun v H2=>v=.non/\Q (.ref x) H2) E
def Binds(K:PySem.W.Frag)(fd:FuncData)(ps:List Str)(ds:List Value):Prop:=
 ∀(s:Shared) (us:List Value),K.In s.heap->(us++ds).length=ps.length->BindsTo s fd ⟨us,[]⟩ (ps.zip (us++ds))
theorem Binds.all{K:PySem.W.Frag}{fd:FuncData}{ps:List Str}(h:∀us:List Value,us.length=ps.length->bindArgs fd ⟨us,[]⟩=pure (ps.zip us)):Binds K fd ps []:=fun s us _ hl=>by
 rw[List.append_nil] at hl ⊢
 exact .of_eq (h us hl)
def ab5(CX:CXT)(X:Cx)(E:XK):Prop:=∀(pins:List (Addr×Obj)) (σ:St) (H:Hp) (s:Shared) (e:Value) (s':Shared),Inv X pins σ H s->CX X.stack H s E e s'->X.xe e s'
section
variable{X:Cx}{CX:CXT}{k:Nat}{f C:Addr}{fd:FuncData}{ps:List Str}{sp:Sp}{dvs:List V}{ds:List Value}{E:XK}{x m:Str}{p pos apos:Pos}{e o:Expr}{es:List Expr}{ta:TE}{t:TA}
theorem ak7{pins:List (Addr×Obj)}{σ:St}{H:Hp}{s:Shared}{Q:VK}{us:List Value}{vs:List V}(F:FnOk X.prog X.w X.K X.mg X.base CX k f fd ps sp)(hr:Room k X.A)(hb:Binds X.K fd ps ds)(hd:Vals dvs ds)(hx:ab5 CX X E)
  (I:Inv X pins σ H s) (r:Vals vs us) (h:sp (vs++dvs) H Q E):wpAny (model X.prog X.w) X.A (call (.ref f) us) (EP X pins σ Q) X.xe s:=by
 have r2:Vals (vs++dvs) (us++ds):=r.append hd
 have hl:(us++ds).length=ps.length:=by rw[←r2.length];exact F.len _ _ _ _ h
 refine wpAny_call (codeAny_mono (F.run X.A X.stack s H ⟨us,[]⟩ (us++ds) (vs++dvs) Q E hr I.env0 (hb s us I.kIn hl) r2 h) fun r s' hq=>?_)
 cases r with
 |error e=>exact hx pins σ H s e s' I hq
 |ok fl=>
  cases fl with
  |ret u=>exact I.after hq
  |next=>exact False.elim hq
  |brk=>exact False.elim hq
  |cont=>exact False.elim hq
theorem aiY(F:FnOk X.prog X.w X.K X.mg X.base CX k f fd ps sp)(hr:Room k X.A)(hg:Gl X x)(hm:X.mg x=some (.ref f))(hk:PySem.W.keepIn X.K (.ref f)=true)(hb:Binds X.K fd ps ds)(hd:Vals dvs ds)(hx:ab5 CX X E)
  (ha:PA X (e::es) t) (hdb:(x==("__debug__":Str))=false:=by decide) (he:starEach (e::es) X.env=(false,eval e X.env)::starEach es X.env:=by rfl) (hpl:(backTo pos (starEach es X.env)).any (·.1)=false:=by rfl):
  PE X (.Call (.Name x p) (e::es) [] pos) (af5 sp dvs E t):=by
 intro pins s σ H Q I h
 refine wpAny_Call_Name_kw (abG I hg hm ?_ hdb)
 refine PySem.W.callWith_K (h₀:=X.base) I.ok.mod.kin hk (thn (ha pos pins s σ H _ I h) fun us s1 ⟨vs,H1,I1,r,q⟩=>⟨I1.kIn,?_⟩) he hpl
 exact ak7 F hr hb hd hx I1 r q
structure Mk(K:PySem.W.Frag)(C f:Addr):Prop where
 makes:PySem.W.makesIn K C=true
 init:PySem.W.findIn K (.ref C) "__init__"=some (some (.ref f))
 fn:PySem.W.isFn K (.ref f)=true
 kp:PySem.W.keepIn K (.ref C)=true
theorem ahJ{pins:List (Addr×Obj)}{σ:St}{H:Hp}{s:Shared}{Q:VK}{us:List Value}{vs:List V}(M:Mk X.K C f)(F:FnOk X.prog X.w X.K X.mg X.base CX k f fd ps sp)(hr:Room (k+1) X.A)(hb:Binds X.K fd ps ds)(hd:Vals dvs ds)
  (hx:ab5 CX X E) (I:Inv X pins σ H s) (r:Vals vs us)
  (h:∀x dx,H x=none->H dx=none->dx≠x->sp (.ref x::(vs++dvs)) (upd (upd H dx (.own x)) x (.ins C dx [])) (fun v H2=>v=.non/\Q (.ref x) H2) E):
  wpAny (model X.prog X.w) X.A (call (.ref C) us) (EP X pins σ Q) X.xe s:=by
 have hq:=h (s.heap.objs.size+1) s.heap.objs.size (I.hok.fresh (Nat.le_succ _)) (I.hok.fresh (Nat.le_refl _)) (Nat.ne_of_lt (Nat.lt_succ_self _))
 have I2:=Inv.made (C:=C) I
 have r2:Vals (V.ref (s.heap.objs.size+1)::(vs++dvs)) (Value.ref (s.heap.objs.size+1)::(us++ds)):=.cons rfl (r.append hd)
 have hl:(Value.ref (s.heap.objs.size+1)::us++ds).length=ps.length:=by
  have e:=r2.length
  rw[F.len _ _ _ _ hq] at e
  exact e.symm
 refine wpAny_call (akK (f:=f) I.kIn M.makes M.init (beq_iff_eq.mp M.fn) (codeAny_mono (F.run _ X.stack _ _ ⟨Value.ref (s.heap.objs.size+1)::us,[]⟩ (Value.ref (s.heap.objs.size+1)::(us++ds)) _ _ E (hr.make C us [])
  (I2.env0.make C us []) (hb _ (Value.ref (s.heap.objs.size+1)::us) I2.kIn hl) r2 hq) fun r s' hq'=>?_))
 cases r with
 |error e=>exact hx pins σ _ _ e s' I2 hq'
 |ok fl=>
  cases fl with
  |ret u=>
   obtain⟨v,H',I3,rv,ev,q3⟩:=I2.after hq'
   subst ev
   exact⟨rv,⟨V.ref (s.heap.objs.size+1),H',I3,rfl,q3⟩⟩
  |next=>exact False.elim hq'
  |brk=>exact False.elim hq'
  |cont=>exact False.elim hq'
theorem alT(M:Mk X.K C f)(F:FnOk X.prog X.w X.K X.mg X.base CX k f fd ps sp)(hr:Room (k+1) X.A)(hg:Gl X x)(hm:X.mg x=some (.ref C))(hb:Binds X.K fd ps ds)(hd:Vals dvs ds)(hx:ab5 CX X E)
  (ha:PA X (e::es) t) (hdb:(x==("__debug__":Str))=false:=by decide) (he:starEach (e::es) X.env=(false,eval e X.env)::starEach es X.env:=by rfl) (hpl:(backTo pos (starEach es X.env)).any (·.1)=false:=by rfl):
  PE X (.Call (.Name x p) (e::es) [] pos) (aiT C sp dvs E t):=by
 intro pins s σ H Q I h
 refine wpAny_Call_Name_kw (abG I hg hm ?_ hdb)
 refine PySem.W.callWith_K (h₀:=X.base) I.ok.mod.kin M.kp (thn (ha pos pins s σ H _ I h) fun us s1 ⟨vs,H1,I1,r,q⟩=>⟨I1.kIn,?_⟩) he hpl
 exact ahJ M F hr hb hd hx I1 r q
theorem ak9(M:Mk X.K C f)(F:FnOk X.prog X.w X.K X.mg X.base CX k f fd ps sp)(hr:Room (k+1) X.A)(hg:Gl X x)(hm:X.mg x=some (.ref C))(hb:Binds X.K fd ps ds)(hd:Vals dvs ds)(hx:ab5 CX X E)
  (hdb:(x==("__debug__":Str))=false:=by decide):PE X (.Call (.Name x p) [] [] pos) (aiT C sp dvs E afL):=by
 intro pins s σ H Q I h
 refine wpAny_Call_Name_kw (abG I hg hm ?_ hdb)
 exact PySem.W.callWith_K0 I.kIn M.kp (ahJ (us:=[]) M F hr hb hd hx I .nil h)
end
section
variable{X:Cx}{CX:CXT}{k:Nat}{f C:Addr}{fd:FuncData}{ps ks:List Str}{sp:Sp}{E:XK}{x m:Str}{p pos apos kpos:Pos}{e o:Expr}{es:List Expr}{kws:List Keyword}{te ta:TE}{t tk:TA}{nm:Option Str}
variable{g:List Value->List Value->List Value}{gV:List V->List V->List V}
end
structure FnScope(N P:List Str)(sc:Scope):Prop where
 kind:sc.kind=.function
 co:sc.isCoroutine=false
 gen:sc.isGenerator=false
 nd:N.Nodup
 pre:N.take P.length=P
 par:∀x∈P,sc.names.lookup x=some .local∨sc.names.lookup x=some .cell
 nofree:∀y∈sc.names,y.2≠ .free
theorem afW{kindOf:Str->Option NameKind}{x:Str}:∀{binds:List (Str×Value)} {m:Str->Option Value},(∀v,(x,v)∉binds)->bindL kindOf binds m x=m x
 |[],_,_=>rfl
 |(n,v)::r,m,h=>by
  unfold bindL
  rw[afW fun w hw=>h w (List.mem_cons_of_mem _ hw)]
  split
  ·have:x≠n:=by rintro rfl;exact h v List.mem_cons_self
   simp[this]
  ·rfl
theorem agC{kindOf:Str->Option NameKind}{x:Str}:∀{binds:List (Str×Value)} {m:Str->Option Value},(∀v,(x,v)∉binds)->bindC kindOf binds m x=m x
 |[],_,_=>rfl
 |(n,v)::r,m,h=>by
  unfold bindC
  rw[agC fun w hw=>h w (List.mem_cons_of_mem _ hw)]
  split
  ·rfl
  ·have:x≠n:=by rintro rfl;exact h v List.mem_cons_self
   simp[this]
theorem af8{kindOf:Str->Option NameKind}{x:Str}{v:Value}:∀{P:List Str} {vs:List Value} {i:Nat} {m:Str->Option Value},P.Nodup->P[i]? =some x->vs[i]? =some v->kindOf x=some .local->
  bindL kindOf (P.zip vs) m x=some v
 |[],_,_,_,_,h,_,_=>by simp at h
 |_::_,[],_,_,_,_,h,_=>by simp at h
 |p::P,w::vs,0,m,nd,h1,h2,hk=>by
  simp at h1 h2;subst h1;subst h2
  show bindL kindOf ((p,w)::P.zip vs) m p=_
  unfold bindL
  rw[afW fun v hv=>(List.nodup_cons.mp nd).1 (List.of_mem_zip hv).1,if_pos hk]
  simp
 |p::P,w::vs,i+1,m,nd,h1,h2,hk=>by
  show bindL kindOf ((p,w)::P.zip vs) m x=_
  unfold bindL
  exact af8 (i:=i) (List.nodup_cons.mp nd).2 (by simpa using h1) (by simpa using h2) hk
theorem af7{kindOf:Str->Option NameKind}{x:Str}{v:Value}:∀{P:List Str} {vs:List Value} {i:Nat} {m:Str->Option Value},P.Nodup->P[i]? =some x->vs[i]? =some v->kindOf x≠some .local->
  bindC kindOf (P.zip vs) m x=some v
 |[],_,_,_,_,h,_,_=>by simp at h
 |_::_,[],_,_,_,_,h,_=>by simp at h
 |p::P,w::vs,0,m,nd,h1,h2,hk=>by
  simp at h1 h2;subst h1;subst h2
  show bindC kindOf ((p,w)::P.zip vs) m p=_
  unfold bindC
  rw[agC fun v hv=>(List.nodup_cons.mp nd).1 (List.of_mem_zip hv).1,if_neg hk]
  simp
 |p::P,w::vs,i+1,m,nd,h1,h2,hk=>by
  show bindC kindOf ((p,w)::P.zip vs) m x=_
  unfold bindC
  exact af7 (i:=i) (List.nodup_cons.mp nd).2 (by simpa using h1) (by simpa using h2) hk
def aa6(N:List Str)(vs:List V):St:=vs.map some++List.replicate (N.length-vs.length) none
def abM(CX:CXT)(P:Program)(w:World)(K:PySem.W.Frag)(mg:Str->Option Value)(base:Heap)(N:List Str)(qual:Str)(scope:Scope)(f:Addr)(cd:Value)(A:Around)(outer:List Env)(s:Shared)(H:Hp)(E:XK):Cx where
 prog:=P
 w:=w
 K:=K
 mg:=mg
 base:=base
 A:=A.deeper (envOfC qual scope s.heap.objs.size f cd)
 N:=N
 s₀:=s
 H₀:=H
 env:=envOfC qual scope s.heap.objs.size f cd
 outer:=outer
 stack:=envOfC qual scope s.heap.objs.size f cd::outer
 ex:=[]
 calm:=true
 fn:=fun _=>true
 pn:=[]
 xe:=fun e s'=>wpAny (model P w) (A.deeper (envOfC qual scope s.heap.objs.size f cd)) (leaving (envOfC qual scope s.heap.objs.size f cd) e) (fun _ s''=>CX outer H s E e s'') (fun e' s''=>CX outer H s E e' s'') s'
theorem ahR{sc:Scope}{n:Nat}{x:Str}(h:sc.names.lookup x=some .cell):∃c,(cellsFrom n sc.names []).lookup x=some c:=by
 have q:=PySem.W.cellsFrom_some sc.names n [] (.inl h)
 exact Option.isSome_iff_exists.mp q
theorem afZ{CX:CXT}{P:Program}{w:World}{K:PySem.W.Frag}{mg:Str->Option Value}{base:Heap}{N ps:List Str}{qual:Str}{scope:Scope}{f:Addr}{cd:Value}{A:Around}{outer:List Env}{s s1:Shared}{H:Hp}{E:XK}{us:List Value}{vs:List V}
  (S:FnScope N ps scope) (hd:A.handled=none) (e0:Env0 P w K mg base A outer s H) (hl:vs.length=ps.length) (r:Vals vs us)
  (x:InCallC s s.heap.objs.size (bindL (envOfC qual scope s.heap.objs.size f cd).kindOf (ps.zip us) fun _=>none) (cellsFrom (s.heap.objs.size+1) scope.names []) (bindC (envOfC qual scope s.heap.objs.size f cd).kindOf (ps.zip us) fun _=>none) s1):
  Inv (abM CX P w K mg base N qual scope f cd A outer s H E) [] (aa6 N vs) H s1:=by
 have hpl:ps.length<=N.length:=by have:=congrArg List.length S.pre;rw[List.length_take] at this;omega
 obtain⟨h1,tk,rfl,hk⟩:=x.done
 have noA:∀b:Addr,b∉(abM CX P w K mg base N qual scope f cd A outer s H E).ex:=fun b z=>absurd (show b∈([]:List Addr) from z) (by simp)
 refine⟨⟨e0.mod,S.kind,rfl,rfl,Nat.le_refl _,fun y z c h1 h2=>?_,fun y hy=>?_,fun y c _ h=>?_,fun _=>hd,Around.frames_deeper e0.frames,.inr ⟨rfl,rfl⟩,fun b z=>absurd z (noA b),e0.bs,e0.bsz,fun b _ _=>noA b,fun b z=>absurd z (noA b),e0.funs,e0.frf⟩,
  rfl,e0.bare,Un.kept hk,⟨_,x.toInCall.ns,fun i y v h1 h2 h3=>?_⟩,fun y c h=>⟨_,x.cell y c h⟩,e0.hok.fresh (Nat.le_refl _),fun y c h=>?_,fun p hp=>absurd (show p∈([]:List (Addr×Obj)) from hp) (by simp),e0.hok.kept hk,?_⟩
 ·exact name_of_addr x.apart (PySem.mem_of_lookup h1) (PySem.mem_of_lookup h2)
 ·have hy:scope.names.lookup y=some .cell∨scope.names.lookup y=some .free:=hy
  rcases hy with hy | hy
  ·exact ahR hy
  ·exact absurd rfl (S.nofree _ (PySem.mem_of_lookup hy))
 ·exact Nat.le_of_lt (x.above y c (PySem.mem_of_lookup h))
 ·have hi:i<vs.length:=by
   unfold aa6 at h2
   by_cases hi:i<vs.length
   ·exact hi
   ·rw[List.getElem?_append_right (by simpa using hi)] at h2
    rw[List.getElem?_replicate] at h2
    split at h2<;>cases h2
  have ha:vs[i]? =some v:=by
   unfold aa6 at h2
   rw[List.getElem?_append_left (by simpa using hi),List.getElem?_map] at h2
   cases e:vs[i]? with
   |none=>rw[e] at h2;cases h2
   |some a=>rw[e] at h2;cases h2;rfl
  obtain⟨u,hu,rv⟩:=r.get ha
  have hp:ps[i]? =some y:=by
   rw[←S.pre,List.getElem?_take_of_lt (by omega)];exact h1
  have ndP:ps.Nodup:=by rw[←S.pre];exact S.nd.sublist (List.take_sublist _ _)
  refine⟨u,rv,?_⟩
  rcases S.par y (List.mem_of_getElem? hp) with k | k
  ·exact .inl ⟨k,af8 ndP hp hu k⟩
  ·obtain⟨c,e⟩:=ahR (n:=s.heap.objs.size+1) k
   refine .inr ⟨.inl k,c,e,?_⟩
   have q:=x.cell y c e
   rw[af7 ndP hp hu (by show scope.names.lookup y≠_;rw[k];decide)] at q
   exact q
 ·exact e0.hok.fresh (Nat.le_of_lt (x.above y c (PySem.mem_of_lookup h)))
 ·unfold aa6
  show _=N.length
  rw[List.length_append,List.length_map,List.length_replicate]
  omega
theorem alA{CX:CXT}{P:Program}{w:World}{K:PySem.W.Frag}{mg:Str->Option Value}{base:Heap}{k:Nat}{f:Addr}{name qual:Str}{params:Arguments}{body:List Stmt}{scope:Scope}{dV kV doc pm cdv ct oc:Value}{an od:Option Addr}
  {osl:Array (Option Value)} {N ps:List Str} {sp:Sp} (lk:K.lookup f=some ⟨oc,od,.func (PySem.W.fnOf name qual params body scope dV kV doc pm an cdv ct),osl⟩) (hcd:PySem.W.codeIn K cdv qual=true) (S:FnScope N ps scope)
  (len:∀vs H Q E,sp vs H Q E->vs.length=ps.length)
  (hbody:∀(A:Around) (outer:List Env) (s:Shared) (H:Hp) (vs:List V) (Q:VK) (E:XK),Room k (A.deeper (envOfC qual scope s.heap.objs.size f cdv))->sp vs H Q E->
   ∃t,PSs (abM CX P w K mg base N qual scope f cdv A outer s H E) body t/\t {nx:=fun _ H'=>Q .non H',rt:=Q} (aa6 N vs) H):
  FnOk P w K mg base CX (k+1) f (PySem.W.fnOf name qual params body scope dV kV doc pm an cdv ct) ps sp:=by
 refine⟨len,fun A outer s H args us vs Q E hr e0 hb r hsp=>?_⟩
 have hl:=len _ _ _ _ hsp
 have KX:K.In s.heap:=e0.mod.kin.keeps fun b o e=>(e0.bs b o e).1
 have lim:s.heap.NoLimit:=e0.mod.nolimit.keeps fun b o e=>(e0.bs b o e).1
 have hkind:∀y∈ps.zip us,scope.names.lookup y.1=some .local∨(scope.names.lookup y.1=some .cell/\((cellsFrom (s.heap.objs.size+1) scope.names []).lookup y.1).isSome=true):=fun ⟨n,v⟩ hy=>by
  rcases S.par n (List.of_mem_zip hy).1 with q | q
  ·exact .inl q
  ·exact .inr ⟨q,PySem.W.cellsFrom_some _ _ _ (.inl q)⟩
 refine codeAny_call_function hr.depth (KX _ _ lk) rfl S.co S.gen rfl (PySem.W.codeRec_of KX hcd) (hb _ _ _ _ ?_)
 refine wpAny_newFunctionEnv_cells S.kind hkind fun env he s1 x=>?_
 subst he
 refine⟨lim.keeps x.toInCall.keep,codeAny_func ?_⟩
 obtain⟨t,ht,hq⟩:=hbody A outer s H vs Q E (hr.deeper _) hsp
 have I:Inv (abM CX P w K mg base N qual scope f cdv A outer s H E) [] (aa6 N vs) H s1:=afZ S hr.hd e0 hl r x
 refine wpAny_mono (ht [] s1 (aa6 N vs) H _ I hq) (fun fl s' hs=>?_) fun e s' hs=>hs
 have fin:∀{σ':St} {H':Hp} {v:V} {u:Value},Inv (abM CX P w K mg base N qual scope f cdv A outer s H E) [] σ' H' s'->RelV v u->Q v H'->CE outer P w H s Q u s':=
  fun {σ' H' v u} J rv q=>⟨v,H',J.os,J.bare,J.base,J.hok,rv,q⟩
 cases fl with
 |ret u=>
  obtain⟨v,σ',H',J,rv,q⟩:=hs
  exact fin J rv q
 |next=>
  obtain⟨σ',H',J,q⟩:=hs
  exact fin (v:=V.non) (u:=Value.none) J rfl q
 |brk=>
  obtain⟨_,_,_,q⟩:=hs
  exact False.elim q
 |cont=>
  obtain⟨_,_,_,q⟩:=hs
  exact False.elim q
section
variable{X:Cx}{x:Str}{p pos:Pos}{e:Expr}{es:List Expr}{t:TA}{id T:String}{r:List V->Hp->VK->Prop}
def tCB(r:List V->Hp->VK->Prop)(t:TA):TE:=fun σ H Q=>t σ H fun vs H1=>r vs H1 Q
theorem alC(hc:ad2 X (.builtin id) r)(hg:Gl X x)(hm:X.mg x=none)(hv:bootBuiltins x=some (.builtin id))(ha:PA X (e::es) t)(hn:x≠"__name__":=by decide)(hdb:(x==("__debug__":Str))=false:=by decide)
  (he:starEach (e::es) X.env=(false,eval e X.env)::starEach es X.env:=by rfl) (hpl:(backTo pos (starEach es X.env)).any (·.1)=false:=by rfl):PE X (.Call (.Name x p) (e::es) [] pos) (tCB r t):=by
 intro pins s σ H Q I h
 refine wpAny_Call_Name_kw (ae5 I hg hm hv ?_ hn hdb)
 exact PyProof.Rows.callWith_builtin1 (thn (ha pos pins s σ H _ I h) fun us s1 ⟨vs,H1,I1,r1,q1⟩=>hc pins s1 σ H1 vs us Q I1 r1 q1) he hpl
theorem ajR(hc:ad2 X (.type T) r)(hg:Gl X x)(hm:X.mg x=none)(hv:bootBuiltins x=some (.type T))(ha:PA X (e::es) t)(hn:x≠"__name__":=by decide)(hdb:(x==("__debug__":Str))=false:=by decide)
  (he:starEach (e::es) X.env=(false,eval e X.env)::starEach es X.env:=by rfl) (hpl:(backTo pos (starEach es X.env)).any (·.1)=false:=by rfl):PE X (.Call (.Name x p) (e::es) [] pos) (tCB r t):=by
 intro pins s σ H Q I h
 refine wpAny_Call_Name_kw (ae5 I hg hm hv ?_ hn hdb)
 exact PyProof.Rows.callWith_type1 (thn (ha pos pins s σ H _ I h) fun us s1 ⟨vs,H1,I1,r1,q1⟩=>hc pins s1 σ H1 vs us Q I1 r1 q1) he hpl
end
end L2
namespace HT
open PySem PyProof.Rows
section
open PySem.SeqAt
open PySem.AutoSeq1 (wpAny_loadPart')
open PySem.MeetsSeq PySem.MeetsSeq2 PySem.MeetsSeq3
end
section
variable{prog:Program}{w:World}{A:Around}{E:Value->Shared->Prop}{s:Shared}
def sIx(n d:Nat):Option Int->Nat
 |none=>d
 |some v=>if v<0 then (v+(n:Int)).toNat else min v.toNat n
theorem sIx_le(n d:Nat)(hd:d<=n)(o:Option Int):sIx n d o<=n:=by
 cases o with
 |none=>exact hd
 |some v=>
  show (if v<0 then (v+(n:Int)).toNat else min v.toNat n)<=n
  by_cases hv:v<0
  ·rw[if_pos hv];omega
  ·rw[if_neg hv];exact Nat.min_le_right _ _
end
end HT
namespace L2
open PySem PySem.Spec PyProof.Rows
abbrev TO:=St->Hp->(Option Int->Hp->Prop)->Prop
def PO(X:Cx)(e:Option Expr)(t:TO):Prop:=
 ∀(pins:List (Addr×Obj)) (s:Shared) (σ:St) (H:Hp) (Q:Option Int->Hp->Prop),Inv X pins σ H s->t σ H Q->
  wpAny (model X.prog X.w) X.A (evalPart e X.env) (fun u s'=>∃o H',Inv X pins σ H' s'/\IsPart u o/\Q o H') X.xe s
def aiQ:TO:=fun _ H Q=>Q none H
def anH(t:TE):TO:=fun σ H Q=>t σ H fun x H1=>∃i,x=.int i/\Q (some i) H1
section
variable{X:Cx}{e:Expr}{te:TE}{lo hi:Option Expr}{tl th:TO}{pos p2:Pos}
theorem amH:PO X none aiQ:=by
 intro pins s σ H Q I h
 rw[evalPart_none]
 exact wpAny_pure ⟨none,H,I,.none,h⟩
theorem amV(h:PE X e te):PO X (some e) (anH te):=by
 intro pins s σ H Q I hw
 rw[evalPart_some]
 refine thn (h pins s σ H _ I hw) fun u s1 ⟨x,H1,I1,r1,q1⟩=>?_
 obtain⟨i,rfl,q⟩:=q1
 obtain⟨t,rfl⟩:=r1
 exact⟨some i,H1,I1,.int i t,q⟩
def SlR(X:Cx)(r:V->Option Int->Option Int->Hp->VK->Prop):Prop:=
 ∀(pins:List (Addr×Obj)) (s:Shared) (σ:St) (H:Hp) (x:V) (v vl vu:Value) (lo hi:Option Int) (sl:Addr) (Q:VK),Inv X pins σ H s->RelV x v->s.heap.IsSliceOf sl vl vu .none->IsPart vl lo->IsPart vu hi->r x lo hi H Q->
  ∃T id,typeLookup (.type T) "__getitem__"=pure (some (.builtin id))/\s.TypeIs v T/\wpAny (model X.prog X.w) X.A (getItem v (.ref sl)) (EP X pins σ Q) X.xe s
def tSl(r:V->Option Int->Option Int->Hp->VK->Prop)(te:TE)(tl th:TO):TE:=fun σ H Q=>te σ H fun x H1=>tl σ H1 fun l H2=>th σ H2 fun u H3=>r x l u H3 Q
theorem akP{r:V->Option Int->Option Int->Hp->VK->Prop}(hr:SlR X r)(he:PE X e te)(hl:PO X lo tl)(hu:PO X hi th):PE X (.Subscript e (.Slice lo hi none p2) pos) (tSl r te tl th):=by
 intro pins s σ H Q I h
 refine Subscript_ (thn (he pins s σ H _ I h) fun v s1 ⟨x,H1,I1,r1,q1⟩=>?_)
 refine wpAny_Slice (thn (hl pins s1 σ H1 _ I1 q1) fun vl s2 ⟨l,H2,I2,pl,q2⟩=>thn (hu pins s2 σ H2 _ I2 q2) fun vu s3 ⟨u,H3,I3,pu,q3⟩=>?_)
 rw[evalPart_none]
 refine wpAny_pure ?_
 have I4:Inv X pins σ H3 {s3 with heap:=s3.heap.push {cls:=.type "slice",data:=.fields #[vl,vu,.none]} }:=I3.kept (t':=s3.toks) fun b ob q=>Heap.get?_push_of_some _ q
 obtain⟨T,id,hT,ht,hg⟩:=hr pins {s3 with heap:=s3.heap.push {cls:=.type "slice",data:=.fields #[vl,vu,.none]} } σ H3 x v vl vu l u s3.heap.objs.size Q I4 r1 (Heap.IsSliceOf.new ..) pl pu q3
 show wpAny (model X.prog X.w) X.A (subscriptTail e (.Slice lo hi none p2) v (.ref s3.heap.objs.size)) (EP X pins σ Q) X.xe {s3 with heap:=s3.heap.push {cls:=.type "slice",data:=.fields #[vl,vu,.none]} }
 exact tail_any (ops:=[.ref s3.heap.objs.size,v]) ht hT hg (by with_unfolding_all rfl)
def aiG(xs:List V)(lo hi:Option Int):List V:=(xs.drop (HT.sIx xs.length 0 lo)).take (HT.sIx xs.length xs.length hi-HT.sIx xs.length 0 lo)
theorem ahH(xs:List V)(lo hi:Option Int):(aiG xs lo hi).length<=xs.length:=by
 unfold aiG
 rw[List.length_take,List.length_drop]
 omega
end
def ixN(n:Nat)(i:Int):Option Nat:=if 0<=i then (if i<n then some i.toNat else none) else if -(n:Int)<=i then some (i+n).toNat else none
def atI{α:Type}(xs:List α)(i:Int):Option α:=(ixN xs.length i).bind fun j=>xs[j]?
theorem aiX{n:Nat}{i:Int}{j:Nat}(h:ixN n i=some j):seqIndex? i n=some j/\j<n/\ -(n:Int)<=i/\i<n:=by
 unfold ixN at h
 by_cases h0:0<=i
 ·rw[if_pos h0] at h
  by_cases h1:i<n
  ·rw[if_pos h1] at h
   have e:i.toNat=j:=Option.some.inj h
   exact⟨by rw[seqIndex_of h0 h1,e],by omega,by omega,h1⟩
  ·rw[if_neg h1] at h;cases h
 ·rw[if_neg h0] at h
  by_cases h1: -(n:Int)<=i
  ·rw[if_pos h1] at h
   have e:(i+n).toNat=j:=Option.some.inj h
   exact⟨by rw[seqIndex_neg (by omega) h1,e],by omega,h1,by omega⟩
  ·rw[if_neg h1] at h;cases h
theorem ag1{α:Type}{xs:List α}{i:Int}{v:α}(h:atI xs i=some v):∃j,seqIndex? i xs.length=some j/\xs[j]? =some v/\j<xs.length/\ -(xs.length:Int)<=i/\i<xs.length:=by
 unfold atI at h
 cases e:ixN xs.length i with
 |none=>rw[e] at h;cases h
 |some j=>
  rw[e] at h
  obtain⟨h1,h2,h3,h4⟩:=aiX e
  exact⟨j,h1,h,h2,h3,h4⟩
theorem aeP{α:Type}{xs:List α}{j:Nat}{v:α}(h:xs[j]? =some v):atI xs (j:Int)=some v:=by
 have hj:j<xs.length:=(List.getElem?_eq_some_iff.mp h).1
 have e:ixN xs.length (j:Int)=some j:=by
  unfold ixN
  rw[if_pos (by omega),if_pos (by omega)];simp
 unfold atI;rw[e];exact h
def aiV(b:Expr):Prop:=∀o i,subscripted b false o i=operate [o,i] (getItem o i)
def IxR(X:Cx)(r:R2):Prop:=
 ∀(value slice:Expr) (pins:List (Addr×Obj)) (s:Shared) (σ:St) (H:Hp) (x y:V) (v u:Value) (Q:VK),Inv X pins σ H s->RelV x v->RelV y u->r x y H Q->
  subscripted slice false v u=operate [v,u] (getItem v u)->wpAny (model X.prog X.w) X.A (subscriptTail value slice v u) (EP X pins σ Q) X.xe s
def MtR(X:Cx)(id:String)(r:V->List V->Hp->VK->Prop):Prop:=
 ∀(pins:List (Addr×Obj)) (s:Shared) (σ:St) (H:Hp) (x:V) (xs:List V) (v:Value) (us:List Value) (Q:VK),Inv X pins σ H s->RelV x v->Vals xs us->r x xs H Q->
  wpAny (model X.prog X.w) X.A (call (.builtin id) (v::us)) (EP X pins σ Q) X.xe s
section
variable{X:Cx}{a b:Expr}{ta tb:TE}{pos:Pos}
theorem axW{r:R2}(hr:IxR X r)(ha:PE X a ta)(hb:PE X b tb)(hs:aiV b):PE X (.Subscript a b pos) (tOp r ta tb):=by
 intro pins s σ H Q I h
 exact Subscript_ (aq3 ha hb I h fun v u s2 x y H2 I2 rx ry q=>hr a b pins s2 σ H2 x y v u Q I2 rx ry q (hs _ _))
def axU(K:PySem.W.Frag):R2:=fun x y H Q=>∃p xs i v,x=.ref p/\y=.int i/\SqL K H p xs/\atI xs i=some v/\Q v H
def ayB(K:PySem.W.Frag):R2:=fun x y H Q=>∃p xs i v,x=.ref p/\y=.int i/\SqT K H p xs/\atI xs i=some v/\Q v H
def rIxS:R2:=fun x y H Q=>∃z i c,x=.str z/\y=.int i/\z.length<=sizeLine/\atI z.cps.toList i=some c/\Q (.str ⟨#[c]⟩) H
theorem amQ:IxR X (axU X.K):=by
 intro value slice pins s σ H x y v u Q I rx ry h hs
 obtain⟨p,xs,i,z,rfl,rfl,hq,he,q⟩:=h
 cases rx
 obtain⟨t,rfl⟩:=ry
 obtain⟨its,r,pl,hz⟩:=I.list hq
 obtain⟨j,h1,h2,h3,h4,h5⟩:=ag1 he
 obtain⟨w,ew,rw'⟩:=r.get h2
 have hl:=r.length
 have hn:=adN
 have fin:EP X pins σ Q w s:=⟨z,H,I,rw',q⟩
 by_cases h0:0<=i
 ·have hj:i.toNat=j:=by
   rw[seqIndex_of h0 h5] at h1
   exact Option.some.inj h1
  exact item_listR pl.isList h0 (by omega) (by rw[hj];simpa using ew) fin hs
 ·have hj:(i+(its.toArray.size:Int)).toNat=j:=by
   rw[seqIndex_neg (by omega) h4] at h1
   rw[List.size_toArray,←hl]
   exact Option.some.inj h1
  exact subscriptTail_builtinR (x:=w) pl.isList.typeIs slot_list_getitem.lookup
   (wpAny_getItem_list_neg (Q:=fun r s'=>r=w/\EP X pins σ Q r s') pl.isList (by omega) (by rw[List.size_toArray]<;>omega) (by omega) (by rw[hj];simpa using ew) ⟨rfl,fin⟩) hs
theorem as5:IxR X (ayB X.K):=by
 intro value slice pins s σ H x y v u Q I rx ry h hs
 obtain⟨p,xs,i,z,rfl,rfl,hq,he,q⟩:=h
 cases rx
 obtain⟨t,rfl⟩:=ry
 obtain⟨its,r,pl,hz⟩:=I.tuple hq
 obtain⟨j,h1,h2,h3,h4,h5⟩:=ag1 he
 obtain⟨w,ew,rw'⟩:=r.get h2
 have hl:=r.length
 have hn:=adN
 have fin:EP X pins σ Q w s:=⟨z,H,I,rw',q⟩
 exact subscriptTail_builtinR (x:=w) pl.typeIs slot_tuple_getitem.lookup
  (getItem_tuple (j:=j) (Q:=fun r s'=>r=w/\EP X pins σ Q r s') pl (by omega) (by omega) (by rw[List.size_toArray,←hl];exact h1) (by simpa using ew) ⟨rfl,fin⟩) hs
theorem apX:IxR X rIxS:=by
 intro value slice pins s σ H x y v u Q I rx ry h hs
 obtain⟨z,i,c,rfl,rfl,hz,he,q⟩:=h
 obtain⟨t,rfl⟩:=rx
 obtain⟨t',rfl⟩:=ry
 obtain⟨j,h1,h2,h3,h4,h5⟩:=ag1 he
 have hl:z.cps.toList.length=z.length:=by simp[Str.length]
 rw[hl] at h1 h4 h5
 have hn:=adN
 exact tail_any (typeIs_str s z t) slot_str_getitem.lookup (getItem_str (c:=c) (by
  have e1:decide (i< -(2^63:Int))=false:=decide_eq_false (by omega)
  have e2:decide (i ≥ 2^63)=false:=decide_eq_false (by omega)
  rw[e1,e2,Bool.or_false]) (by rw[h1];simpa using h2) ⟨.str ⟨#[c]⟩,H,I.tok _,⟨_,rfl⟩,q⟩) hs
theorem aiP(its:List Value)(n j:Nat)(u:Value):Obj.mapSeq (·.setIfInBounds j u) {cls:=.type "list",data:=.seq its.toArray n}={cls:=.type "list",data:=.seq (its.set j u).toArray n}:=by
 simp[Obj.mapSeq]
theorem Inv.lst{pins:List (Addr×Obj)}{σ:St}{H:Hp}{s:Shared}{p:Addr}{xs:List V}(I:Inv X pins σ H s)(h:H p=some (.lst xs)):
  ∃(its:List Value) (n:Nat),Vals xs its/\s.heap.get? p=some {cls:=.type "list",data:=.seq its.toArray n}/\xs.length<=sizeLine:=by
 obtain⟨z,its,n,r,e⟩:=I.hok p _ h
 exact⟨its,n,r,e,z⟩
theorem Inv.lstUpd{pins:List (Addr×Obj)}{σ:St}{H:Hp}{s:Shared}{p:Addr}{xs ys:List V}{its its':List Value}{n n':Nat}{f:Obj->Obj}(I:Inv X pins σ H s)(h:H p=some (.lst xs))
  (ho:s.heap.get? p=some {cls:=.type "list",data:=.seq its.toArray n}) (hf:f {cls:=.type "list",data:=.seq its.toArray n}={cls:=.type "list",data:=.seq its'.toArray n'}) (r:Vals ys its') (hz:ys.length<=sizeLine) (t:Nat):
  Inv X pins σ (upd H p (.lst ys)) {s with heap:=s.heap.update p f,toks:=t}:=by
 have e:(s.heap.update p f).get? p=some {cls:=.type "list",data:=.seq its'.toArray n'}:=by
  rw[Heap.get?_update_self f ho (by rw[hf]<;>rfl),hf]
 refine I.write (x:=p) (e:=p) (by rw[h];trivial) (.inl rfl) (fun b u hb q=>(Heap.get?_update_other _ _ (Ne.symm hb)).trans q) ⟨_,e⟩ ?_
 exact⟨hz,its',n',r,e⟩
def anA:V->V->V->Hp->(Hp->Prop)->Prop:=fun o i v H Q=>∃p xs k j,o=.ref p/\i=.int k/\H p=some (.lst xs)/\ixN xs.length k=some j/\Q (upd H p (.lst (xs.set j v)))
theorem aj2:ayY X anA:=by
 intro pins s σ H o i v ov iv u Q I ro ri rv h
 obtain⟨p,xs,k,j,rfl,rfl,hp,hj,q⟩:=h
 cases ro
 obtain⟨t,rfl⟩:=ri
 obtain⟨its,n,r,ho,hz⟩:=I.lst hp
 obtain⟨h1,h2,h3,h4⟩:=aiX hj
 have hl:=r.length
 have hn:=adN
 have I':Inv X pins σ (upd H p (.lst (xs.set j v))) {s with heap:=s.heap.update p (Obj.mapSeq (·.setIfInBounds j u))}:=
  I.lstUpd hp ho (aiP its n j u) (r.set rv j) (by rw[List.length_set];exact hz) s.toks
 by_cases h0:0<=k
 ·have hk:k.toNat=j:=by
   rw[seqIndex_of h0 h4] at h1
   exact Option.some.inj h1
  exact PySem.W.ki_setAt ho h0 (by omega) (by rw[List.size_toArray,←hl];exact h4) (by rw[hk];exact⟨_,I',q⟩)
 ·have hk:(k+(its.toArray.size:Int)).toNat=j:=by
   rw[seqIndex_neg (by omega) h3] at h1
   rw[List.size_toArray,←hl]
   exact Option.some.inj h1
  exact PySem.W.ki_setBack ho (by omega) (by rw[List.size_toArray,←hl];exact h3) (by omega) (by rw[hk];exact⟨_,I',q⟩)
theorem agR(lo hi:Option Int)(n:Nat):(sliceBounds lo hi none n).1=((HT.sIx n 0 lo:Nat):Int)/\(sliceBounds lo hi none n).2.1=((HT.sIx n n hi:Nat):Int)/\(sliceBounds lo hi none n).2.2=1:=by
 refine⟨?_,?_,rfl⟩
 ·cases lo with
  |none=>simp[sliceBounds,HT.sIx]
  |some i=>
   simp only[sliceBounds,HT.sIx,Option.getD_none,show (1:Int)>0 by decide,if_true]
   by_cases h:i<0
   ·simp only[h,if_true]<;>omega
   ·simp only[h,if_false]<;>omega
 ·cases hi with
  |none=>simp[sliceBounds,HT.sIx]
  |some i=>
   simp only[sliceBounds,HT.sIx,Option.getD_none,show (1:Int)>0 by decide,if_true]
   by_cases h:i<0
   ·simp only[h,if_true]<;>omega
   ·simp only[h,if_false]<;>omega
theorem afN(its:List Value)(lo hi:Option Int):slicePick its.toArray lo hi none=((its.drop (HT.sIx its.length 0 lo)).take (HT.sIx its.length its.length hi-HT.sIx its.length 0 lo)).toArray:=by
 obtain⟨h1,h2,h3⟩:=agR lo hi its.toArray.size
 unfold slicePick
 rw[h1,h2,h3]
 simp only[sliceRange_one,pick_run,List.size_toArray]<;>rfl
def awW(K:PySem.W.Frag):V->Option Int->Option Int->Hp->VK->Prop:=fun x lo hi H Q=>∃a xs,x=.ref a/\SqL K H a xs/\∀p,H p=none->Q (.ref p) (upd H p (.lst (aiG xs lo hi)))
theorem alS:SlR X (awW X.K):=by
 intro pins s σ H x v vl vu lo hi sl Q I rx hs pl pu h
 obtain⟨a,xs,rfl,hx,q⟩:=h
 cases rx
 obtain⟨its,r,ht,hz⟩:=I.list hx
 have hlen:=r.length
 refine⟨"list",_,slot_list_getitem.lookup,ht.isList.typeIs,?_⟩
 refine wpAny_getItem_list_slice ht.isList hs pl pu .none (by simp) ?_ (by rw[List.size_toArray]<;>omega)
 rw[afN,←hlen]
 refine⟨.ref s.heap.objs.size,_,I.laid (t':=s.toks) (o:=.lst (aiG xs lo hi)) (fun b ob q=>Heap.get?_push_of_some _ q) (Nat.le_refl _) ?_,rfl,q _ (I.hok.fresh (Nat.le_refl _))⟩
 exact⟨Nat.le_trans (ahH xs lo hi) hz,_,0,(r.drop (HT.sIx xs.length 0 lo)).take (HT.sIx xs.length xs.length hi-HT.sIx xs.length 0 lo),Heap.get?_push_size _ rfl⟩
def acR:V->Bool
 |.non=>true
 |.bl _=>true
 |.int _=>true
 |.str _=>true
 |_=>false
def eqV:V->V->Bool
 |.non,.non=>true
 |.bl a,.bl b=>a==b
 |.bl a,.int b=>(if a then 1 else 0)==b
 |.int a,.bl b=>a==(if b then 1 else 0)
 |.int a,.int b=>a==b
 |.str a,.str b=>a==b
 |_,_=>false
theorem as6{A:Around}{s:Shared}{y x:V}{u v:Value}(ry:RelV y u)(rx:RelV x v)(fy:acR y=true)(fx:acR x=true):SeqAt.EqAt A s u v (eqV y x):=by
 cases y with
 |non=>
  cases ry
  cases x with
  |non=>cases rx;exact SeqAt.EqAt.same _
  |bl b=>cases rx;exact SeqAt.EqAt.none_bool b
  |int b=>obtain⟨t,rfl⟩:=rx;exact SeqAt.EqAt.none_int b t
  |str b=>obtain⟨t,rfl⟩:=rx;exact SeqAt.EqAt.none_str b t
  |_=>exact absurd (show false=true from fx) Bool.false_ne_true
 |bl a=>
  cases ry
  cases x with
  |non=>cases rx;exact SeqAt.EqAt.bool_none a
  |bl b=>cases rx;exact SeqAt.EqAt.bool_bool a b
  |int b=>obtain⟨t,rfl⟩:=rx;exact SeqAt.EqAt.bool_int a b t
  |str b=>obtain⟨t,rfl⟩:=rx;exact SeqAt.EqAt.bool_str a b t
  |_=>exact absurd (show false=true from fx) Bool.false_ne_true
 |int a=>
  obtain⟨t',rfl⟩:=ry
  cases x with
  |non=>cases rx;exact SeqAt.EqAt.int_none a t'
  |bl b=>cases rx;exact SeqAt.EqAt.int_bool a t' b
  |int b=>obtain⟨t,rfl⟩:=rx;exact SeqAt.EqAt.int_int a t' b t
  |str b=>obtain⟨t,rfl⟩:=rx;exact SeqAt.EqAt.int_str a t' b t
  |_=>exact absurd (show false=true from fx) Bool.false_ne_true
 |str a=>
  obtain⟨t',rfl⟩:=ry
  cases x with
  |non=>cases rx;exact SeqAt.EqAt.str_none a t'
  |bl b=>cases rx;exact SeqAt.EqAt.str_bool a t' b
  |int b=>obtain⟨t,rfl⟩:=rx;exact SeqAt.EqAt.str_int a t' b t
  |str b=>obtain⟨t,rfl⟩:=rx;exact SeqAt.EqAt.str_str a t' b t
  |_=>exact absurd (show false=true from fx) Bool.false_ne_true
 |_=>exact absurd (show false=true from fy) Bool.false_ne_true
def eqU(x:V)(u:Value):Bool:=match u with
 |.none=>eqV .non x
 |.bool b=>eqV (.bl b) x
 |.int i _=>eqV (.int i) x
 |.str z _=>eqV (.str z) x
 |_=>false
theorem alD{x y:V}{u:Value}(r:RelV y u)(f:acR y=true):eqU x u=eqV y x:=by
 cases y with
 |non=>cases r;rfl
 |bl b=>cases r;rfl
 |int i=>obtain⟨t,rfl⟩:=r;rfl
 |str z=>obtain⟨t,rfl⟩:=r;rfl
 |_=>exact absurd (show false=true from f) Bool.false_ne_true
theorem ag5{x:V}:∀{xs:List V} {us:List Value},Vals xs us->xs.all acR=true->us.any (eqU x)=xs.any fun y=>eqV y x
 |_,_,.nil,_=>rfl
 |y::xs,u::us,.cons r t,f=>by
  rw[List.all_cons,Bool.and_eq_true] at f
  rw[List.any_cons,List.any_cons,alD r f.1,ag5 t f.2]
theorem ae9{A:Around}{s:Shared}{x:V}{v:Value}(rx:RelV x v)(fx:acR x=true):∀{xs:List V} {us:List Value},Vals xs us->xs.all acR=true->∀u∈us,SeqAt.EqAt A s u v (eqU x u)
 |_,_,.nil,_=>fun u hu=>by cases hu
 |y::xs,u::us,.cons r t,f=>fun u' hu=>by
  rw[List.all_cons,Bool.and_eq_true] at f
  rcases List.mem_cons.mp hu with rfl | hu
  ·rw[alD r f.1];exact as6 r rx f.1 fx
  ·exact ae9 rx fx t f.2 u' hu
def inV(x:V)(xs:List V):Bool:=xs.any fun y=>eqV y x
def rIn(K:PySem.W.Frag)(neg:Bool):R2:=fun x y H Q=>∃p xs,y=.ref p/\(SqL K H p xs∨SqT K H p xs)/\acR x=true/\xs.all acR=true/\Q (.bl (if neg then !inV x xs else inV x xs)) H
theorem ajQ:OpR X (compareOp .In) (rIn X.K false):=by
 intro pins s σ H x y v u Q I rx ry h
 obtain⟨p,xs,rfl,hq,fx,fs,q⟩:=h
 cases ry
 rcases hq with hq | hq
 ·obtain⟨its,r,pl,hz⟩:=I.list hq
  refine SeqAt.in_listAt (eqU x) pl.isList (fun w hw=>ae9 rx fx r fs w (by simpa using hw)) ⟨.bl _,H,I,rfl,?_⟩
  rw[show its.toArray.any (eqU x)=its.any (eqU x) by simp,ag5 r fs]
  exact q
 ·obtain⟨its,r,pl,hz⟩:=I.tuple hq
  refine SeqAt.in_tupleAt (eqU x) pl (fun w hw=>ae9 rx fx r fs w (by simpa using hw)) ⟨.bl _,H,I,rfl,?_⟩
  rw[show its.toArray.any (eqU x)=its.any (eqU x) by simp,ag5 r fs]
  exact q
theorem agW:ad2 X (.builtin "len") (fun xs H Q=>∃p ys,xs=[.ref p]/\(SqL X.K H p ys∨SqT X.K H p ys)/\Q (.int ys.length) H):=by
 intro pins s σ H xs us Q I r h
 obtain⟨p,ys,rfl,hq,q⟩:=h
 obtain⟨u,rfl,rx⟩:=abI r
 cases rx
 have hn:=adN
 rcases hq with hq | hq
 ·obtain⟨its,r',pl,hz⟩:=I.list hq
  have hlen:=r'.length
  exact Calls.call_len_list pl.isList (by simp only[List.size_toArray]<;>omega) ⟨.int ys.length,H,I.tok _,⟨s.toks+1,by rw[List.size_toArray,hlen]⟩,q⟩
 ·obtain⟨its,r',pl,hz⟩:=I.tuple hq
  have hlen:=r'.length
  exact len_tuple pl (by simp only[List.size_toArray]<;>omega) ⟨.int ys.length,H,I.tok _,⟨s.toks+1,by rw[List.size_toArray,hlen]⟩,q⟩
theorem agN:ad2 X (.builtin "len") (fun xs H Q=>∃z,xs=[.str z]/\z.length<=sizeLine/\Q (.int z.length) H):=by
 intro pins s σ H xs us Q I r h
 obtain⟨z,rfl,hz,q⟩:=h
 obtain⟨u,rfl,t,rfl⟩:=abI r
 have hn:=adN
 exact len_str (by omega) ⟨.int z.length,H,I.tok _,⟨_,rfl⟩,q⟩
def tyV(K:PySem.W.Frag)(T:String)(x:V)(H:Hp):Prop:=match x with
 |.str _=>T="str"
 |.int _=>T="int"
 |.ref p=>(T="list"/\∃xs,SqL K H p xs)∨(T="tuple"/\∃o,K.lookup p=some o/\o.cls=.type "tuple"/\o.dict=none)∨
   (T="dict"/\((∃kvs,H p=some (.dK kvs))∨∃kvs,H p=some (.dT kvs)))∨(T="set"/\∃S n,H p=some (.set S n))
 |_=>False
theorem aq8{pins:List (Addr×Obj)}{σ:St}{H:Hp}{s:Shared}{T:String}{x:V}{v:Value}(I:Inv X pins σ H s)(r:RelV x v)(ty:tyV X.K T x H):
  s.TypeIs v T/\∀a,v=.ref a->∃ob,s.heap.get? a=some ob/\ob.dict=none:=by
 cases x with
 |str z=>
  obtain⟨t,rfl⟩:=r
  cases (show T="str" from ty)
  exact⟨typeIs_str s z t,fun _ e=>nomatch e⟩
 |int i=>
  obtain⟨t,rfl⟩:=r
  cases (show T="int" from ty)
  exact⟨typeIs_int s i t,fun _ e=>nomatch e⟩
 |ref p=>
  cases r
  rcases ty with ⟨rfl,xs,hq⟩ | ⟨rfl,o,hk,hc,hd⟩ | ⟨rfl,hk⟩ | ⟨rfl,S,n,hk⟩
  ·obtain⟨its,_,pl,_⟩:=I.list hq
   refine⟨pl.isList.typeIs,fun a e=>?_⟩
   cases e
   obtain⟨o,n,e,c,hd,_⟩:=pl
   exact⟨o,e,hd⟩
  ·refine⟨⟨o,I.kIn p o hk,hc⟩,fun a e=>?_⟩
   cases e
   exact⟨o,I.kIn _ o hk,hd⟩
  ·have z:∃o,s.heap.get? p=some o/\o.ExactDict:=by
    rcases hk with ⟨kvs,hk⟩ | ⟨kvs,hk⟩
    ·obtain⟨_,_,_,_,o,_,_,e,ex,_⟩:=I.hok p _ hk
     exact⟨o,e,ex⟩
    ·obtain⟨_,_,_,_,o,_,_,e,ex,_⟩:=I.hok p _ hk
     exact⟨o,e,ex⟩
   obtain⟨o,e,ex⟩:=z
   refine⟨⟨o,e,ex.1⟩,fun a e2=>?_⟩
   cases e2
   exact⟨o,e,ex.2.1⟩
  ·obtain⟨o,_,_,_,e,ex,_⟩:=I.hok p _ hk
   refine⟨⟨o,e,ex.1⟩,fun a e2=>?_⟩
   cases e2
   exact⟨o,e,ex.2.1⟩
 |_=>exact False.elim ty
def tBM(K:PySem.W.Frag)(T:String)(r:V->List V->Hp->VK->Prop)(to:TE)(t:TA):TE:=fun σ H Q=>to σ H fun x H1=>tyV K T x H1/\t σ H1 fun xs H2=>r x xs H2 Q
variable{o e:Expr}{es:List Expr}{to:TE}{t:TA}{name:Str}{apos cpos:Pos}{T id:String}{r:V->List V->Hp->VK->Prop}
theorem ahK(pa:PlainAttrs T)(slot:Slot T name id)(hty:typeOf (.builtin id)=pure (.type "method_descriptor"))(hm:MtR X id r)(ho:PE X o to)(ha:PA X (e::es) t)
  (hbase:attributeBase o name X.env (eval o X.env)=eval o X.env:=by rfl)
  (hfew:((backTo cpos (starEach (e::es) X.env)).all (fun x=> !x.1)&&(backToKw cpos (keywordEach [] X.env)).all (fun x=>x.1.isSome)
   &&decide ((e::es).length+([]:List Keyword).length+(if ([]:List Keyword).isEmpty then 0 else 1)<30))=true:=by rfl)
  (hline:(apos.endLine==cpos.line)=true:=by rfl) (hs:starEach (e::es) X.env=(false,eval e X.env)::starEach es X.env:=by rfl) (hplain:(backTo cpos (starEach es X.env)).any (·.1)=false:=by rfl):
  PE X (.Call (.Attribute o name apos) (e::es) [] cpos) (tBM X.K T r to t):=by
 intro pins s σ H Q I h
 refine wpAny_Call_method_late hbase hfew hline rfl (thn (ho pins s σ H _ I h) fun v s1 ⟨x,H1,I1,r1,ty,q1⟩=>?_)
 obtain⟨h1,h2⟩:=aq8 I1 r1 ty
 refine⟨T,id,pa,slot,hty,h1,h2,?_⟩
 have hA:=ha cpos pins s1 σ H1 _ I1 q1
 rw[hs] at hA ⊢
 refine Calls.callWith_builtin (by show (false||(backTo cpos (starEach es X.env)).any (·.1))=false;rw[hplain]<;>rfl) (Calls.evalArgs_plain ?_)
 exact thn hA fun us s2 ⟨vs,H2,I2,r2,q2⟩=>hm pins s2 σ H2 x vs v us Q I2 r1 r2 q2
/- xs.append(e),list.index on a module's tuple .. are MtR facts of 06m -/
end
def MtM(X:Cx)(id:String)(r:V->List V->Hp->VK->Prop):Prop:=
 ∀(pins:List (Addr×Obj)) (s:Shared) (σ:St) (H:Hp) (x:V) (xs:List V) (v:Value) (us:List Value) (Q:VK),Inv X pins σ H s->RelV x v->Vals xs us->r x xs H Q->
  wpAny (model X.prog X.w) X.A (call (.builtin id) (v::us)) (EP X pins σ Q) X.xe s
theorem Vals.one:∀{x:V} {us:List Value},Vals [x] us->∃u,us=[u]/\RelV x u
 |_,_,.cons r .nil=>⟨_,rfl,r⟩
theorem Vals.two:∀{x y:V} {us:List Value},Vals [x,y] us->∃u v,us=[u,v]/\RelV x u/\RelV y v
 |_,_,_,.cons r (.cons q .nil)=>⟨_,_,rfl,r,q⟩
theorem Vals.rep{xs:List V}{us:List Value}(h:Vals xs us):∀k:Nat,Vals (List.replicate k xs).flatten (List.replicate k us).flatten
 |0=>.nil
 |k+1=>by
  rw[List.replicate_succ,List.replicate_succ,List.flatten_cons,List.flatten_cons]
  exact Vals.append h (Vals.rep h k)
theorem af9(its:List Value):∀(k:Nat) (acc:List Value),
  List.foldl (fun x1 x2=>x1++x2) acc.toArray (List.replicate k its.toArray)=(acc++(List.replicate k its).flatten).toArray
 |0,acc=>by simp
 |k+1,acc=>by
  have e:acc.toArray++its.toArray=(acc++its).toArray:=by simp
  have e2:(acc++its)++(List.replicate k its).flatten=acc++(List.replicate (k+1) its).flatten:=by
   rw[List.replicate_succ,List.flatten_cons,List.append_assoc]
  rw[←e2,←af9 its k (acc++its),←e,List.replicate_succ,List.foldl_cons]
section
variable{X:Cx}{pins:List (Addr×Obj)}{σ:St}{H:Hp}{s:Shared}{l b:Addr}{xs ys zs:List V}
theorem Inv.lset{its its':List Value}{n:Nat}{f:Array Value->Array Value}{t':Nat}(I:Inv X pins σ H s)(hH:H l=some (.lst xs))
  (e:s.heap.get? l=some {cls:=.type "list",data:=.seq its.toArray n}) (hf:f its.toArray=its'.toArray) (hv:Vals ys its') (hz:ys.length<=sizeLine):
  Inv X pins σ (upd H l (.lst ys)) {s with heap:=s.heap.update l (Obj.mapSeq f),toks:=t'}:=by
 have q:=PySem.IsL.update e f
 rw[hf] at q
 refine I.write (x:=l) (e:=l) (by rw[hH];exact trivial) (.inl rfl) (fun b' u hb hu=>(Heap.get?_update_other s.heap (Obj.mapSeq f) (Ne.symm hb)).trans hu) ⟨_,q⟩ ?_
 exact⟨hz,its',_,hv,q⟩
theorem Inv.lnew{its:List Value}{t':Nat}(I:Inv X pins σ H s)(hv:Vals ys its)(hz:ys.length<=sizeLine):
  Inv X pins σ (upd H s.heap.objs.size (.lst ys)) {s with heap:=s.heap.push {cls:=.type "list",data:=.seq its.toArray},toks:=t'}:=
 I.laid (fun _ _ q=>Heap.get?_push_of_some _ q) (Nat.le_refl _) ⟨hz,its,0,hv,Heap.get?_push_size _ rfl⟩
theorem Inv.fresh(I:Inv X pins σ H s):H s.heap.objs.size=none:=I.hok.fresh (Nat.le_refl _)
theorem Inv.lstM(I:Inv X pins σ H s)(hH:H l=some (.lst xs)):xs.length<=sizeLine/\∃(its:List Value) (n:Nat),Vals xs its/\xs.length=its.length/\s.heap.get? l=some {cls:=.type "list",data:=.seq its.toArray n}:=by
 obtain⟨z,its,n,r,e⟩:=I.hok l _ hH
 exact⟨z,its,n,r,r.length,e⟩
theorem akD{n:Nat}(h:n<=sizeLine):Builtin.List.listTooLong n=false:=by
 unfold Builtin.List.listTooLong
 exact decide_eq_false (by omega)
end
section
variable{X:Cx}
def aiS:V->List V->Hp->VK->Prop:=fun x vs H Q=>∃l xs y,x=.ref l/\vs=[y]/\H l=some (.lst xs)/\xs.length<sizeLine/\Q .non (upd H l (.lst (xs++[y])))
theorem adP:MtM X "list.append" aiS:=by
 intro pins s σ H x vs v us Q I rx rv h
 obtain⟨l,xs,y,rfl,rfl,hH,hz,q⟩:=h
 cases rx
 obtain⟨u,rfl,ru⟩:=rv.one
 obtain⟨z,its,n,r,hl,e⟩:=I.lstM hH
 refine call_meets F.slot_list_append ⟨_,e,rfl⟩ F.entry_list_append (F.args_list_append_2 _ _) (PySem.list_append l its.toArray n u (by rw[List.size_toArray];omega)) ⟨e,?_⟩
 refine⟨.non,_,I.lset (its':=its++[u]) hH e (by simp) (r.append (.cons ru .nil)) ?_,rfl,q⟩
 rw[List.length_append,List.length_singleton]
 omega
def au2:R2:=fun x y H Q=>∃l b xs zs,x=.ref l/\y=.ref b/\H l=some (.lst xs)/\H b=some (.lst zs)/\xs.length+zs.length<=sizeLine/\∀p,H p=none->Q (.ref p) (upd H p (.lst (xs++zs)))
theorem aqE:OpR X (binaryOp .Add) au2:=by
 intro pins s σ H x y v u Q I rx ry h
 obtain⟨l,b,xs,zs,rfl,rfl,hH,hB,hz,q⟩:=h
 cases rx
 cases ry
 obtain⟨z,its,n,r,hl,e⟩:=I.lstM hH
 obtain⟨z2,its2,n2,r2,hl2,e2⟩:=I.lstM hB
 refine PySem.P.add_list e e2 ?_ (by rw[List.size_toArray,List.size_toArray];omega)
 have ea:its.toArray++its2.toArray=(its++its2).toArray:=by simp
 rw[ea]
 exact⟨.ref _,_,I.lnew (t':=s.toks) (r.append r2) (by rw[List.length_append];omega),rfl,q _ I.fresh⟩
def ax5:R2:=fun x y H Q=>∃l k xs,x=.ref l/\y=.int k/\H l=some (.lst xs)/\ -(2^63)<=k/\k<2^63/\xs.length*k.toNat<=sizeLine/\
 ∀p,H p=none->Q (.ref p) (upd H p (.lst (List.replicate k.toNat xs).flatten))
theorem amX{α:Type}(xs:List α)(k:Nat):(List.replicate k xs).flatten.length=k*xs.length:=by
 induction k with
 |zero=>simp
 |succ k ih=>rw[List.replicate_succ,List.flatten_cons,List.length_append,ih,Nat.succ_mul,Nat.add_comm]
theorem asX:OpR X (binaryOp .Mult) ax5:=by
 intro pins s σ H x y v u Q I rx ry h
 obtain⟨l,k,xs,rfl,rfl,hH,h1,h2,hz,q⟩:=h
 cases rx
 obtain⟨t,rfl⟩:=ry
 obtain⟨z,its,n,r,hl,e⟩:=I.lstM hH
 have hlen:its.toArray.size*k.toNat<=sizeLine:=by rw[List.size_toArray,←hl];exact hz
 have hcap:¬its.toArray.size*k.toNat>(2^63-1) / 8:=by
  have:(sizeLine:Nat)<=(2^63-1) / 8:=by decide
  omega
 have hfit:¬(!Builtin.List.listFitsIndex k)=true:=by
  rw[fitsIndex_both h1 h2]
  exact Bool.false_ne_true
 have hlong:¬Builtin.List.listTooLong (its.toArray.size*k.toNat)=true:=by
  rw[akD hlen]
  exact Bool.false_ne_true
 have hnew:List.foldl (fun x1 x2=>x1++x2) #[] (List.replicate (if its.toArray.isEmpty=true then 0 else k.toNat) its.toArray)=(List.replicate k.toNat its).flatten.toArray:=by
  have f0:∀m:Nat,List.foldl (fun x1 x2=>x1++x2) #[] (List.replicate m its.toArray)=(List.replicate m its).flatten.toArray:=fun m=>by
   have:=af9 its m []
   rw[List.nil_append] at this
   exact this
  rw[f0]
  cases its with
  |nil=>simp
  |cons a r'=>rw[if_neg (by simp)]
 refine wpAny_binaryOp_repeat_ref (T:="list") (U:="int") (by decide) ⟨_,e,rfl⟩ (fun s'=>typeIs_int s' k t) noFill_list_mul F.fills_int_mul F.slot_int_rmul repeat_list F.slot_int_index.lookup
  (call_meets F.slot_int_rmul (typeIs_int s k t) F.entry_int_rmul (F.args_int_rmul_2 _ _) (int___rmul___int_list k t l its.toArray n)
   ⟨e,rfl,⟨_,e,rfl⟩,call_meets F.slot_list_mul ⟨_,e,rfl⟩ F.entry_list_mul (F.args_list_mul_2 _ _) (AutoListH.list___mul___list_int_3 l its.toArray n k t hfit hcap hlong) ⟨e,?_⟩⟩)
 rw[hnew]
 exact⟨.ref _,_,I.lnew (t':=s.toks) (r.rep k.toNat) (by rw[amX,Nat.mul_comm];exact hz),rfl,q _ I.fresh⟩
end
section
variable{prog:Program}{w:World}{A:Around}{E:Value->Shared->Prop}{s:Shared}
end
section
variable{X:Cx}
end
end L2
namespace Att
open PySem PySem.W PySem.Calls PyProof.Rows
theorem aeJ{P:Params}{h:Heap}:∀(ns:List Int) (vs:List Value),WellAll P h vs (ns.map WData.int)->IntsAre vs ns:=by
 intro ns
 induction ns with
 |nil=>
  intro vs w
  rw[List.map_nil] at w
  cases w
  exact .nil
 |cons n ns ih=>
  intro vs w
  rw[List.map_cons] at w
  cases w with
  |cons a b=>
   cases a
   exact .cons _ _ (ih _ b)
theorem ajF{l:OpenLaw}{n:Nat}(hn:l.most=some n){P:Params}{h:Heap}{args:List WData}{vals:List Value}
  (hpre:l.row.toRowW.claim.pre args=true) (hwl:WellAll P h vals args):
  ∃a vs ns,vals=[Value.ref a]/\args=[WData.list (ns.map WData.int)]/\h.get? a=some {cls:=.type "list",data:=.seq vs.toArray}/\IntsAre vs ns/\ns.length<=n:=by
 have hsh:WShape.hasAll [] args [.list .int]=true:=(pre_splitW hpre).1
 have hc:l.pre.holds [] {args:=args}=true:=(pre_splitW hpre).2
 obtain⟨d,r,rfl,h1,h2⟩:=hasAllW_cons hsh
 obtain rfl:=hasAllW_nil h2
 obtain⟨xs,rfl,h3⟩:=hasW_list h1
 obtain⟨ns,rfl⟩:=items_int h3
 have hlen:ns.length<=n:=by
  unfold OpenLaw.pre at hc
  have h4:(WTm.not (.lt (.lit (.int (n:Int))) (.len (.arg 0)))).holds [] {args:=[.list (ns.map .int)]}=true:=by
   have h4:=(holds_andW hc).1
   rw[hn] at h4
   exact h4
  have h5:=condW_of h4 (w_not (w_lt w_lit (w_len_list (w_arg rfl))))
  rw[List.length_map] at h5
  refine Nat.le_of_not_lt fun q=>?_
  have q':(n:Int)<((ns.length:Nat):Int):=by omega
  first
   |(rw[decide_eq_true q'] at h5;exact absurd h5 (by decide))
   |(simp at h5;omega)
 cases hwl with
 |cons w1 w2=>
  cases w2
  cases w1 with
  |list ho hall=>exact⟨_,_,ns,rfl,rfl,ho,aeJ ns _ hall,hlen⟩
theorem ajK(l:OpenLaw)(args:List WData):l.row.toRowW.claim.post args (.bool true) args=true:=
 postW_of (r:=l.row.toRowW) (X:=(true==true))
  (show WShape.has [] (.bool true) .bool=true by first | rfl | decide | simp[WShape.has,WShape.arms,WShape.armsAll])
  (show (WTm.eq .res (.lit (.bool true))).value [] {args:=args,res:=some (.bool true),after:=args}=some (.bool (true==true)) from w_eq_bool (w_res rfl) w_lit) rfl
theorem attach_call{l:OpenLaw}{n:Nat}{q:Program}{loose:List Str}{XP:(Str->Option Value)->Heap->Prop}{YP:World->Heap->Prop}{d:DefRec}
  (hn:l.most=some n) (hdf:d.params.defaults=[])
  (call:∀(w:World) (s₀ s₁:Shared) (mg mb:Str->Option Value) (fa:Addr) (o:Obj) (pm cd doc:Value) (a:Addr) (vs:List Value) (ns:List Int),
   Ground q loose [] XP w s₀ mg mb s₁.heap->YP w s₁.heap->
   s₁.heap.get? fa=some o->o.data=.func (docDef d.name d.params d.body d.scope pm cd doc)->s₁.heap.CodeRec cd d.name->mg d.name=some (.ref fa)->
   s₁.heap.get? a=some {cls:=.type "list",data:=.seq vs.toArray}->IntsAre vs ns->ns.length<=n->s₁.gens= #[]->
   codeAny (model l.prog w) callerA (.call (.ref fa) ⟨[.ref a],[]⟩) (fun r s'=>r=.ok (.ret (.bool true))/\OldK s₁.heap s'.heap/\s'.os=s₁.os/\AllBare s'.gens) s₁):
  WalkO q loose XP YP l.row.toRowW d [] (fun f vs=>PySem.call f vs):=by
 intro w s₀ s₁ mg mb G Y fa o pm cd doc dV kV ho hd hcd hD hmg hg args vals as hpre hlay hrd hwl hlo
 obtain rfl:dV=.none:=Dflts.none hD hdf
 obtain rfl:kV=.none:=Dflts.noKw hD
 obtain⟨a,vs,ns,rfl,rfl,hobj,hints,hlen⟩:=ajF hn hpre hwl
 refine enter_call (codeAny_mono (call w s₀ s₁ mg mb fa o pm cd doc a vs ns G Y ho (fd_plain hd) hcd hmg hobj hints hlen hg) fun r s' hq=>?_)
 obtain⟨rfl,h2,h3,h4⟩:=hq
 exact⟨.inl ⟨.bool true,.bool true,[],rfl,fun _=>rfl,.bool true,ajK l _,fun _=>⟨List.Pairwise.nil,fun _ hm=>(nomatch hm)⟩⟩,h2,h3,h4⟩
section
variable{prog:Program}{w:World}{A:Around}{E:Value->Shared->Prop}{s:Shared}{K:Frag}
end
end Att
namespace L2
open PySem PySem.Spec PyProof.Rows
theorem afY:∀{vs:List Value} {ns:List Int},IntsAre vs ns->Vals (ns.map V.int) vs
 |_,_,.nil=>.nil
 |_,_,.cons n t h=>.cons ⟨t,rfl⟩ (afY h)
def ao4(H:Hp):Prop:=∀b,H b=none∨∃o xs,H b=some (.frz o (.lst xs))
theorem akJ{P:Program}{w:World}{K:PySem.W.Frag}{mg mb:Str->Option Value}{CX:CXT}{k:Nat}{fa a:Addr}{fd:FuncData}{x:Str}{sp:Sp}{s₁:Shared}{vs:List Value}{ns:List Int}
  (KX:K.In s₁.heap) (hns:s₁.heap.Ns mainGlobals mg) (hb:s₁.heap.Ns builtinsNs mb) (hbb:∀x:Str,x≠"__name__"->mb x=bootBuiltins x) (hlim:s₁.heap.NoLimit) (hg:s₁.gens= #[])
  (ha:s₁.heap.get? a=some {cls:=.type "list",data:=.seq vs.toArray}) (hi:IntsAre vs ns) (hl:ns.length<=sizeLine) (hr:Room k callerA)
  (F:∀base:Heap,K.In base->base.Ns mainGlobals mg->FnOk P w K mg base CX k fa fd [x] sp) (hbind:∀(s:Shared) (u:Value),BindsTo s fd ⟨[u],[]⟩ [(x,u)])
  (hsp:∀H:Hp,ao4 H->SqL K H a (ns.map V.int)->sp [.ref a] H (fun v _=>v=.bl true) fun _ _ _=>False)
  (hCX:∀H e s',CX [] H s₁ (fun _ _ _=>False) e s'->False):
  codeAny (model P w) callerA (.call (.ref fa) ⟨[.ref a],[]⟩) (fun r s'=>r=.ok (.ret (.bool true))/\OldK s₁.heap s'.heap/\s'.os=s₁.os/\AllBare s'.gens) s₁:=by
 have rv:=afY hi
 have lenV:=hi.length
 -- from an abstract heap in which nothing but the script may be tracked
 have core:∀H:Hp,ao4 H->SqL K H a (ns.map V.int)->HOk P w H s₁.heap->(∀b,H b≠none->b=a)->(H a≠none->K.lookup a=none)->
   codeAny (model P w) callerA (.call (.ref fa) ⟨[.ref a],[]⟩) (fun r s'=>r=.ok (.ret (.bool true))/\OldK s₁.heap s'.heap/\s'.os=s₁.os/\AllBare s'.gens) s₁:=by
  intro H hO hS hok hA hK
  have base_of:∀{b:Addr} {o:Obj},s₁.heap.get? b=some o->H b=none->(agH s₁.heap H).get? b=some o:=fun e n=>alL e n
  have noA:∀{b:Addr} {o:Obj} {es:Array DictEntry} {ep:Nat},s₁.heap.get? b=some o->o.data=.dict es ep->H b=none:=fun {b o es ep} e d=>by
   cases q:H b with
   |none=>rfl
   |some u=>
    have e':b=a:=hA b (by rw[q];simp)
    subst e'
    rw[ha] at e;cases e
    have d':Data.seq vs.toArray _=Data.dict es ep:=d
    cases d'
  have nsK:∀{b:Addr} {m:Str->Option Value},s₁.heap.Ns b m->(agH s₁.heap H).Ns b m:=fun {b m} ⟨o,es,ep,e,d,r⟩=>⟨o,es,ep,base_of e (noA e d),d,r⟩
  have hKb:K.In (agH s₁.heap H):=fun b o e=>base_of (KX b o e) (by
   cases q:H b with
   |none=>rfl
   |some u=>
    have e':b=a:=hA b (by rw[q];simp)
    subst e'
    rw[hK (by rw[q];simp)] at e;cases e)
  have hM:Mod K mg (agH s₁.heap H):=⟨hKb,nsK hns,⟨mb,nsK hb,hbb⟩,let ⟨mc,h1,h2⟩:=hlim;⟨mc,nsK h1,h2⟩⟩
  have e0:Env0 P w K mg (agH s₁.heap H) callerA [] s₁ H:=⟨rfl,hM,fun b o e=>al4 e,Nat.le_of_eq (ajV _ _),trivial,fun b hb=>absurd (show b∈([]:List Addr) from hb) (by simp),hok,.of_eq hg⟩
  refine codeAny_mono ((F _ hKb (nsK hns)).run callerA [] s₁ H ⟨[.ref a],[]⟩ [.ref a] [.ref a] _ _ hr e0 (hbind s₁ (.ref a)) (.cons rfl .nil) (hsp H hO hS)) fun r s' h=>?_
  cases r with
  |error e=>exact (hCX H e s' h).elim
  |ok fl=>
   cases fl with
   |next=>exact False.elim h
   |brk=>exact False.elim h
   |cont=>exact False.elim h
   |ret u=>
    obtain⟨v,H',os,bare,un,hok',r',q⟩:=h
    have q':v=.bl true:=q
    subst q'
    obtain rfl:u=Value.bool true:=r'
    refine⟨rfl,OldK.of_keep fun b o e=>?_,os,bare⟩
    cases q:H b with
    |none=>exact un.keep b o e q (by intro z;exact absurd (show b∈([]:List Addr) from z) (by simp)) (by simp)
    |some u=>
     rcases hO b with z | ⟨ob,xs,z⟩
     ·rw[q] at z;cases z
     ·have z2:=un.frzs b ob _ z
      obtain⟨e1,_⟩:=hok b _ z
      obtain⟨e2,_⟩:=hok' b _ z2
      rw[e] at e1;cases e1
      exact e2
 cases hk:K.lookup a with
 |some o=>
  -- the script is one of the module's own objects
  have e:=KX a o hk
  rw[ha] at e
  cases e
  refine core (fun _=>none) (fun _=>.inl rfl) (.inr ⟨_,vs.toArray,_,hk,rfl,rfl,rfl,by rw[List.size_toArray,lenV];exact hl,by simpa using rv⟩) (fun b u z=>by have z':(none:Option HO)=some u:=z;cases z') (fun b z=>absurd rfl z) fun z=>absurd rfl z
 |none=>
  refine core (fun b=>if b=a then some (.frz {cls:=.type "list",data:=.seq vs.toArray} (.lst (ns.map V.int))) else none) (fun b=>?_) (.inl (.inr ⟨{cls:=.type "list",data:=.seq vs.toArray},if_pos rfl⟩)) (fun b u z=>?_) (fun b z=>?_) fun _=>hk
  ·by_cases hb:b=a
   ·exact .inr ⟨_,_,if_pos hb⟩
   ·exact .inl (if_neg hb)
  ·by_cases hb:b=a
   ·have z':=(if_pos hb).symm.trans z
    cases z'
    subst hb
    exact⟨ha,by rw[List.length_map];exact hl,vs,_,rv,ha⟩
   ·have z':=(if_neg hb).symm.trans z
    cases z'
  ·by_cases hb:b=a
   ·exact hb
   ·exact absurd (if_neg hb) z
theorem walk_of{l:PySem.W.OpenLaw}{n k:Nat}{q:Program}{loose:List Str}{XP:(Str->Option Value)->Heap->Prop}{YP:World->Heap->Prop}{d:DefRec}{K:Params->PySem.W.Frag}{CX:World->CXT}{sp:World->Sp}{x:Str}
  (hn:l.most=some n) (hn2:n<=sizeLine) (hdf:d.params.defaults=[]) (hr:Room k callerA)
  (hY:∀(w:World) (h:Heap),YP w h->(K w.params).In h)
  (F:∀(w:World) (mg:Str->Option Value) (fa:Addr) (h:Heap),(K w.params).In h->h.Ns mainGlobals mg->mg d.name=some (.ref fa)->
   ∃fd:FuncData,(∀(s:Shared) (u:Value),BindsTo s fd ⟨[u],[]⟩ [(x,u)])/\
    ∀base:Heap,(K w.params).In base->base.Ns mainGlobals mg->FnOk l.prog w (K w.params) mg base (CX w) k fa fd [x] (sp w))
  (hsp:∀(w:World) (H:Hp) (a:Addr) (ns:List Int),ns.length<=n->ao4 H->SqL (K w.params) H a (ns.map V.int)->sp w [.ref a] H (fun v _=>v=.bl true) fun _ _ _=>False)
  (hCX:∀(w:World) (H:Hp) (s:Shared) (e:Value) (s':Shared),CX w [] H s (fun _ _ _=>False) e s'->False):
  PySem.W.WalkO q loose XP YP l.row.toRowW d [] (fun f vs=>PySem.call f vs):=by
 refine Att.attach_call hn hdf fun w s₀ s₁ mg mb fa o pm cd doc a vs ns G Y ho hd hcd hmg hobj hints hlen hg=>?_
 have KX:=hY w _ Y
 obtain⟨fd,hb,hF⟩:=F w mg fa _ KX G.T.g hmg
 exact akJ KX G.T.g G.T.b G.T.builtins G.T.nolimit hg hobj hints (Nat.le_trans hlen hn2) hr hF hb (fun H hO hS=>hsp w H a ns hlen hO hS) fun H e s'=>hCX w H s₁ e s'
end L2
/- THE LAST THEOREM (shape;LID,My.* are yours):
 My.Adr:a structure of the addresses that your layer names (classes,functions);My.Txt K t:a structure (Prop) of the equations over K;
 My.txt_mk:{K} {implicit addresses ..} (e1:nsIn K mainGlobals "law"=some (some (.ref f))) (e2:K.lookup f=some ⟨oc,od,.func (fnOf "law" "law" params body scope dV kV doc pm an cdv ct),sl⟩) (e3:codeIn K cdv "law"=true) .. :∃t,My.Txt K t
set_option maxRecDepth 100000 in
set_option maxHeartbeats 0 in
theorem PySem.Challenge.cw_LID_holds : PySem.Challenge.rw_LID.Holds := by
 w_on;o_law;k_head;(case hw=>w_witness2)
 k_fill
 refine L2.walk_of (l:=PySem.Challenge.rw_LID) (n:=63) (k:=40) (x:="script") (CX:=fun w=>..) (sp:=fun _=>My.sp_law) rfl (by decide) rfl ⟨rfl,by decide,by decide⟩ (fun w h Y=>PySem.W.kIn_of Y) ?F ?S ?C
 case F=>
  intro w mg fa h KX G hmg
  have T:∃t,My.Txt (L2.KOf KX) t:=by
   dsimp only[L2.KOf]                          -- K must stand as «<heap const> w.params» for k_is
   refine' My.txt_mk ?e1 ?e2 ?e3 ..
   (case e1=>PySem.W.k_is)                    -- in the order:a name->its address->its object->its parts
   (case e2=>PySem.W.k_is)
   ..
  obtain⟨t,T⟩:=T
  have e0:=hmg.symm.trans (PySem.W.mg_of KX G T.law)
  cases e0                                       -- fa is the law's own address
  exact⟨_,fun s u=>.of_eq rfl,fun base kb nb=>My.law_fn T kb nb⟩     -- if «.of_eq rfl» comes too early:refine' ⟨_,?b,fun base kb nb=>My.law_fn T kb nb⟩;exact fun s u=>.of_eq rfl
 case S=>exact fun w H a ns hl hO hS=>..
 case C=>exact ..
(the tactic k_is has no namespace:write k_is) -/
namespace L2
open PySem PySem.Spec PyProof.Rows
def abO(s:Stmt)(j:Nat):Stmt:=match s with
 |.ClassDef _ _ _ body _ _ _ _ _ _ _=>body.getD j (.Pass ⟨0,0,0,0⟩)
 |_=>.Pass ⟨0,0,0,0⟩
def aaW(s:Stmt):Arguments:=match s with
 |.FunctionDef _ a _ _ _ _ _ _ _ _=>a
 |_=>{posonlyargs:=[],args:=[],vararg:=none,kwonlyargs:=[],kw_defaults:=[],kwarg:=none,defaults:=[]}
def aaJ(s:Stmt):List Stmt:=match s with
 |.FunctionDef _ _ b _ _ _ _ _ _ _=>b
 |_=>[]
def aaC(s:Stmt):Scope:=match s with
 |.FunctionDef _ _ _ _ _ _ sc _ _ _=>sc
 |_=>{kind:=.function,names:=[],isGenerator:=false,isCoroutine:=false}
abbrev CX0:CXT:=fun _ _ _ _ _ _=>False
abbrev E0:XK:=fun _ _ _=>False
theorem aiW{X:Cx}:ab5 CX0 X E0:=fun _ _ _ _ _ _ _ h=>h.elim
structure Fun(K:PySem.W.Frag)(x qual:Str)(st:Stmt)(f:Addr)(fd:FuncData):Prop where
 ex:∃(oc:Value) (od:Option Addr) (kV doc pm:Value) (an:Option Addr) (cdv ct:Value) (osl:Array (Option Value)),
  fd=PySem.W.fnOf x qual (aaW st) (aaJ st) (aaC st) .none kV doc pm an cdv ct/\K.lookup f=some ⟨oc,od,.func fd,osl⟩/\PySem.W.codeIn K cdv qual=true
 kp:PySem.W.keepIn K (.ref f)=true
section
variable{P:Program}{w:World}{K:PySem.W.Frag}{mg:Str->Option Value}{base:Heap}
theorem Fun.ok{x qual:Str}{st:Stmt}{f:Addr}{fd:FuncData}{N ps:List Str}{k:Nat}{sp:Sp}(F:Fun K x qual st f fd)(S:FnScope N ps (aaC st))(len:∀vs H Q E,sp vs H Q E->vs.length=ps.length)
  (hbody:∀(cdv:Value) (A:Around) (outer:List Env) (s:Shared) (H:Hp) (vs:List V) (Q:VK) (E:XK),Room k (A.deeper (envOfC qual (aaC st) s.heap.objs.size f cdv))->sp vs H Q E->
   ∃t,PSs (abM CX0 P w K mg base N qual (aaC st) f cdv A outer s H E).nox (aaJ st) t/\t {nx:=fun _ H'=>Q .non H',rt:=Q} (aa6 N vs) H):FnOk P w K mg base CX0 (k+1) f fd ps sp:=by
 obtain⟨oc,od,kV,doc,pm,an,cdv,ct,osl,rfl,lk,hcd⟩:=F.ex
 refine alA lk hcd S len fun A outer s H vs Q E hr hsp=>?_
 obtain⟨t,h,q⟩:=hbody cdv A outer s H vs Q E hr hsp
 exact⟨t,h.nox,q⟩
theorem Fun.binds{x qual:Str}{st:Stmt}{f:Addr}{fd:FuncData}{ps:List Str}(F:Fun K x qual st f fd)
  (h:∀(kV doc pm:Value) (an:Option Addr) (cdv ct:Value) (us:List Value),us.length=ps.length->bindArgs (PySem.W.fnOf x qual (aaW st) (aaJ st) (aaC st) .none kV doc pm an cdv ct) ⟨us,[]⟩=pure (ps.zip us)):Binds K fd ps []:=by
 obtain⟨oc,od,kV,doc,pm,an,cdv,ct,osl,rfl,lk,hcd⟩:=F.ex
 exact .all (h kV doc pm an cdv ct)
theorem ah6{x qual:Str}{st:Stmt}{f:Addr}{oc:Value}{od an:Option Addr}{osl:Array (Option Value)}{kV doc pm cdv ct:Value}(l:K.lookup f=some ⟨oc,od,.func (PySem.W.fnOf x qual (aaW st) (aaJ st) (aaC st) .none kV doc pm an cdv ct),osl⟩)
  (c:PySem.W.codeIn K cdv qual=true) (k:PySem.W.keepIn K (.ref f)=true):Fun K x qual st f (PySem.W.fnOf x qual (aaW st) (aaJ st) (aaC st) .none kV doc pm an cdv ct):=⟨⟨oc,od,kV,doc,pm,an,cdv,ct,osl,rfl,l,c⟩,k⟩
end
section
variable{X:Cx}
end
theorem aaO{A B:Prop}(h:B):if false=true then A else B:=by
 rw[if_neg Bool.false_ne_true]
 exact h
theorem aa3{A B:Prop}(h:A):if true=true then A else B:=by
 rw[if_pos rfl]
 exact h
theorem as8{c A B:Prop}[Decidable c](h1:c->A)(h2:¬c->B):if c then A else B:=by
 by_cases h:c
 ·rw[if_pos h]
  exact h1 h
 ·rw[if_neg h]
  exact h2 h
def Same(H H':Hp):Prop:=∀b o,H b=some o->H' b=some o
theorem Same.refl(H:Hp):Same H H:=fun _ _ h=>h
theorem Same.trans{H H1 H2:Hp}(a:Same H H1)(b:Same H1 H2):Same H H2:=fun c o h=>b c o (a c o h)
theorem Same.free{H H':Hp}(e:Same H H'){l:Addr}(h:H' l=Option.none):H l=Option.none:=by
 cases q:H l with
 |none=>rfl
 |some o=>
  rw[e l o q] at h
  cases h
theorem Same.seq{K:PySem.W.Frag}{H H':Hp}{a:Addr}{xs:List V}(e:Same H H')(h:SqL K H a xs):SqL K H' a xs:=by
 rcases h with (h | ⟨o,h⟩) | h
 ·exact .inl (.inl (e _ _ h))
 ·exact .inl (.inr ⟨o,e _ _ h⟩)
 ·exact .inr h
section
variable{X:Cx}
end
structure Df(P:Program)(w:World)(K:PySem.W.Frag)(mg:Str->Option Value)(base:Heap)(x:Str)(k:Nat)(ps:List Str)(sp:Sp):Prop where
 ex:∃(f:Addr) (fd:FuncData),FnOk P w K mg base CX0 k f fd ps sp/\Binds K fd ps []/\mg x=some (.ref f)/\PySem.W.keepIn K (.ref f)=true
structure Fn(K:PySem.W.Frag)(mg:Str->Option Value)(x:Str)(st:Stmt)(ps:List Str):Prop where
 ex:∃(f:Addr) (fd:FuncData),Fun K x x st f fd/\Binds K fd ps []/\mg x=some (.ref f)
section
variable{P:Program}{w:World}{K:PySem.W.Frag}{mg:Str->Option Value}{base:Heap}{x:Str}{st:Stmt}{ps N:List Str}{k:Nat}{sp:Sp}
theorem Fn.df(F:Fn K mg x st ps)(S:FnScope N ps (aaC st))(len:∀vs H Q E,sp vs H Q E->vs.length=ps.length)
  (hbody:∀(f:Addr) (cdv:Value) (A:Around) (outer:List Env) (s:Shared) (H:Hp) (vs:List V) (Q:VK) (E:XK),Room k (A.deeper (envOfC x (aaC st) s.heap.objs.size f cdv))->sp vs H Q E->
   ∃t,PSs (abM CX0 P w K mg base N x (aaC st) f cdv A outer s H E).nox (aaJ st) t/\t {nx:=fun _ H'=>Q .non H',rt:=Q} (aa6 N vs) H):Df P w K mg base x (k+1) ps sp:=by
 obtain⟨f,fd,F1,hb,hm⟩:=F.ex
 exact⟨⟨f,fd,F1.ok S len (hbody f),hb,hm,F1.kp⟩⟩
theorem aaV{h:Heap}{f:Addr}{oc:Value}{od an:Option Addr}{osl:Array (Option Value)}{kV doc pm cdv ct:Value}(X:K.In h)(G:h.Ns mainGlobals mg)
  (a:PySem.W.nsIn K mainGlobals x=some (some (.ref f))) (l:K.lookup f=some ⟨oc,od,.func (PySem.W.fnOf x x (aaW st) (aaJ st) (aaC st) .none kV doc pm an cdv ct),osl⟩)
  (c:PySem.W.codeIn K cdv x=true) (k:PySem.W.keepIn K (.ref f)=true)
  (hb:∀(kV doc pm:Value) (an:Option Addr) (cdv ct:Value) (us:List Value),us.length=ps.length->bindArgs (PySem.W.fnOf x x (aaW st) (aaJ st) (aaC st) .none kV doc pm an cdv ct) ⟨us,[]⟩=pure (ps.zip us)):Fn K mg x st ps:=by
 have F:=ah6 (st:=st) l c k
 exact⟨⟨f,_,F,F.binds (ps:=ps) hb,PySem.W.mg_of X G a⟩⟩
end
section
variable{X:Cx}
theorem alE{x:Str}{k k':Nat}{ps:List Str}{sp:Sp}{e:Expr}{es:List Expr}{t:TA}{p pos:Pos}(D:Df X.prog X.w X.K X.mg X.base x k ps sp)(hr:Room k' X.A)(ha:PA X (e::es) t)(hk:k<=k':=by decide)(hg:Gl X x:=by rfl)
  (hdb:(x==("__debug__":Str))=false:=by decide) (he:starEach (e::es) X.env=(false,eval e X.env)::starEach es X.env:=by rfl) (hpl:(backTo pos (starEach es X.env)).any (·.1)=false:=by rfl):
  PE X (.Call (.Name x p) (e::es) [] pos) (af5 sp [] E0 t):=by
 obtain⟨f,fd,F,hb,hm,kp⟩:=D.ex
 exact aiY F (hr.mono hk) hg hm kp hb .nil aiW ha hdb he hpl
end
theorem aaB{H:Hp}{p:Addr}(h:H p=none)(o:HO):Same H (upd H p o):=fun b u q=>by rw[aaD (aaE q h)];exact q
theorem int_eq{a b:Int}:(V.int a=V.int b)↔a=b:=⟨fun h=>V.int.inj h,fun h=>by rw[h]⟩
theorem ifI{a b:Int}{A B:Prop}(h1:a=b->A)(h2:¬a=b->B):if decide (V.int a=V.int b)=true then A else B:=
 as8 (fun c=>h1 (int_eq.mp (of_decide_eq_true c))) (fun c=>h2 fun e=>c (decide_eq_true (int_eq.mpr e)))
theorem ifD{c:Prop}[Decidable c]{A B:Prop}(h1:c->A)(h2:¬c->B):if decide c=true then A else B:=
 as8 (fun q=>h1 (of_decide_eq_true q)) (fun q=>h2 fun e=>q (decide_eq_true e))
def ahX:Expr->Option Int
 |.Constant (.int i) _ _=>some i
 |_=>none
def anK(is:List Int):TA:=fun _ H Q=>Q (is.map V.int) H
theorem aiR{X:Cx}:∀{es:List Expr} (is:List Int),es.map ahX=is.map some->PA X es (anK is)
 |[],[],_=>abW
 |[],_::_,h=>by cases h
 |_::_,[],h=>by cases h
 |e::es,i::is,h=>by
  have h1:ahX e=some i:=(List.cons.inj h).1
  have h2:es.map ahX=is.map some:=(List.cons.inj h).2
  obtain⟨j,pos,rfl⟩:∃j pos,e=.Constant (.int i) j pos:=by
   unfold ahX at h1
   split at h1
   ·cases h1
    exact⟨_,_,rfl⟩
   ·cases h1
  exact abF akB (aiR is h2)
structure Clos(X:Cx)(scope:Scope)(cl:List (Str×Addr)):Prop where
 is:closureFor scope X.env=pure cl
 sub:∀y c,cl.lookup y=some c->X.env.cells.lookup y=some c
 has:∀y,scope.names.lookup y=some .free->∃c,cl.lookup y=some c
 nocell:∀y∈scope.names,y.2≠ .cell
 kind:scope.kind=.function
 names:∀y∈scope.names,y.2=.local->scope.names.lookup y.1=some .local
def aaF(X:Cx)(N:List Str)(scope:Scope)(cl:List (Str×Addr))(C:Addr)(ex:List Addr)(pins:List (Addr×Obj))(s:Shared)(H:Hp):Cx:=
 {X with N:=N,s₀:=s,H₀:=H,env:=compEnvC scope cl C X.env,outer:=X.stack,stack:=X.stack,ex:=ex,fn:=fun _=>false,pn:=X.pn++pins,xe:=fun _ _=>False}
def aaR(js:List Nat)(σ:St):St:=js.map fun j=>(σ[j]?).getD none
def ai2(ifs:List Expr)(env:Env):Sem Bool:=
 forIn ifs true fun c r=>if r=true then (do let ok ←isTrue c env (eval c env);pure (ForInStep.yield ok)) else pure (ForInStep.yield r)
def PF(X:Cx)(ifs:List Expr)(t:TT):Prop:=
 ∀(pins:List (Addr×Obj)) (s:Shared) (σ:St) (H:Hp) (Q:Bool->Hp->Prop),Inv X pins σ H s->t σ H Q->
  wpAny (model X.prog X.w) X.A (ai2 ifs X.env) (TP X pins σ Q) X.xe s
def at7:TT:=fun _ H Q=>Q true H
theorem arM{X:Cx}:PF X [] at7:=fun _ _ _ H _ I h=>wpAny_tests_nil ⟨H,I,h⟩
def aj1(J:It)(js:List Nat)(σ:St)(tt:TT)(te:TE)(Q:VK)(H1:Hp):Prop:=∀D,H1 D=none->∃W:Nat->Nat->Hp->Prop,(∃m,W 0 m (upd H1 D (.lst [])))/\∀i m H2,W i m H2->
 (J.stop i H2/\Q (.ref D) H2)∨(J.go i H2/\∀v H3,J.yld i H2 v H3->tt (some v::aaR js σ) H3 fun b H4=>if b=true then
  te (some v::aaR js σ) H4 fun y H5=>∃ys,H5 D=some (.lst ys)/\ys.length<sizeLine/\∃m',m'<m/\W (i+1) m' (upd H5 D (.lst (ys++[y])))
  else ∃m',m'<m/\W (i+1) m' H4)
def akS(wi:TI)(js:List Nat)(tt:TT)(te:TE):TE:=fun σ H Q=>wi σ H fun J H1=>aj1 J js σ tt te Q H1
def agO(env:Env)(n:Str)(k:NameKind):NameKind:=if (k==NameKind.free&&env.scope.kind== .function&&env.kindOf n==some .cell) then .cell else k
theorem amU{env:Env}{n:Str}{k:NameKind}:(if (k==NameKind.free&&env.scope.kind== .function&&env.kindOf n==some .cell) then (n,NameKind.cell) else (n,k))=(n,agO env n k):=by
 unfold agO
 split<;>rfl
theorem ab3{env:Env}:∀(names:List (Str×NameKind)) (x:Str),(relabel {kind:=.function,names:=names,isGenerator:=false,isCoroutine:=false} env).names.lookup x=(names.lookup x).map (agO env x)
 |[],_=>rfl
 |(n,k)::r,x=>by
  have ih:=ab3 (env:=env) r x
  unfold relabel at ih ⊢
  dsimp only at ih ⊢
  rw[List.map_cons]
  dsimp only
  rw[amU,List.lookup_cons,List.lookup_cons,ih]
  cases hx:x==n with
  |true=>
   have e:x=n:=by simpa using hx
   rw[e]
   rfl
  |false=>rfl
theorem abQ{env:Env}(scope:Scope)(x:Str):(relabel scope env).names.lookup x=(scope.names.lookup x).map (agO env x):=ab3 scope.names x
theorem agB{env:Env}{x:Str}{o:Option NameKind}(hc:o≠some .cell)(h:o.map (agO env x)=some .cell∨o.map (agO env x)=some .free):o=some .free:=by
 cases o with
 |none=>rcases h with h | h<;>cases h
 |some k=>
  by_cases e:k=.free
  ·rw[e]
  ·have z:agO env x k=k:=by
    unfold agO
    have e':(k==NameKind.free)=false:=by simpa using e
    rw[e']
    rfl
   rw[Option.map_some,z] at h
   rcases h with h | h
   ·exact absurd h hc
   ·exact h
theorem ac2{env:Env}{scope:Scope}{x:Str}(h:scope.names.lookup x=some .free):(relabel scope env).names.lookup x=some .cell∨(relabel scope env).names.lookup x=some .free:=by
 rw[abQ,h,Option.map_some]
 unfold agO
 split
 ·exact .inl rfl
 ·exact .inr rfl
section
variable{X:Cx}{elt iter:Expr}{x:Str}{px pos:Pos}{ifs:List Expr}{scope:Scope}{cl:List (Str×Addr)}{N':List Str}{js:List Nat}{tt:TT}{te:TE}
theorem aiM{pins:List (Addr×Obj)}{σ:St}{H:Hp}{s s4:Shared}{fp:List Addr}{C:Addr}{m4:Str->Option Value}(hcl:Clos X scope cl)(hN:js.map (fun j=>X.N[j]?)=N'.map some)
  (hk:N'.all (fun y=>(X.env.kindOf y==some .cell)||(X.env.kindOf y==some .free))=true) (hf:N'.all (fun y=>scope.names.lookup y==some .free)=true)
  (I:Inv X pins σ H s) (hfp:∀b∈fp,abP X pins H b/\b<s.heap.objs.size) (hC:C=s.heap.objs.size) (ho:s4.os=s.os) (hg:s4.gens=s.gens) (hkeep:∀b o,s.heap.get? b=some o->s4.heap.get? b=some o) (hn:s4.heap.Ns C m4):
  Inv (aaF X (x::N') scope cl C fp pins s H) [] (none::aaR js σ) H s4:=by
 have hne:∀b o,s.heap.get? b=some o->b≠C:=fun b o e=>by rw[hC];exact Nat.ne_of_lt (Heap.lt_size e)
 refine⟨⟨I.ok.mod,hcl.kind,I.ok.glob,I.ok.blt,Nat.le_of_eq hC.symm,fun y z c h1 h2=>I.ok.inj y z c (hcl.sub y c h1) (hcl.sub z c h2),fun y hy=>hcl.has y (agB (fun z=>hcl.nocell _ (PySem.mem_of_lookup z) rfl) (by rw[←abQ];exact hy)),fun y c h _=>(nomatch h),I.ok.hd,I.ok.frames,.inl rfl,fun b hb=>⟨?_,fun y c e=>(hfp b hb).1.2.2.2.2.1 y c (hcl.sub y c e)⟩,
  I.bs,Nat.le_trans I.ok.bsz I.sz,fun b o e hb=>?_,fun b hb hz=>?_,I.stack,I.stkFree⟩,ho,by rw[hg];exact I.bare,Un.kept hkeep,⟨m4,hn,fun i y v h1 h2 h3=>?_⟩,fun y c e=>?_,?_,fun y c e=>I.freeC y c (hcl.sub y c e),fun p hp=>?_,I.hok.kept hkeep,?_⟩
 ·rw[hC];exact Nat.ne_of_lt (hfp b hb).2
 ·rcases (hfp b hb).1.2.2.2.1 with z | z
  ·exact I.ok.noex b o e z
  ·exact absurd (Nat.lt_of_lt_of_le (Heap.lt_size e) (Nat.le_trans I.ok.bsz z)) (Nat.lt_irrefl _)
 ·rcases List.mem_cons.mp (I.stkSub b hz) with z | z
  ·exact (hfp b hb).1.2.1 z
  ·exact (hfp b hb).1.2.2.1 z
 ·match i,h1,h2 with
  |0,_,h2=>exact nomatch h2
  |i+1,h1,h2=>
   have h1:N'[i]? =some y:=h1
   have h2:(aaR js σ)[i]? =some (some v):=h2
   have hy:y∈N':=List.mem_of_getElem? h1
   have q:(js.map (fun j=>X.N[j]?))[i]? =some (some y):=by rw[hN,List.getElem?_map,h1];rfl
   rw[List.getElem?_map] at q
   cases ej:js[i]? with
   |none=>rw[ej] at q;cases q
   |some j=>
    rw[ej] at q
    have q:X.N[j]? =some y:=Option.some.inj q
    unfold aaR at h2
    rw[List.getElem?_map,ej] at h2
    have h2:(σ[j]?).getD none=some v:=Option.some.inj h2
    have h2:σ[j]? =some (some v):=by
     cases e:σ[j]? with
     |none=>rw[e] at h2;cases h2
     |some o=>rw[e] at h2;exact congrArg some h2
    have kk:=List.all_eq_true.mp hk y hy
    have kk:X.env.kindOf y=some .cell∨X.env.kindOf y=some .free:=by simpa using kk
    have ff:=List.all_eq_true.mp hf y hy
    have ff:scope.names.lookup y=some .free:=by simpa using ff
    obtain⟨m,_,hl⟩:=I.loc
    obtain⟨u,r,l⟩:=hl j y v q h2 (by rcases kk with z | z;exact .inr (.inl z);exact .inr (.inr z))
    refine⟨u,r,.inr ⟨ac2 ff,?_⟩⟩
    obtain⟨c,hc⟩:=hcl.has y ff
    rcases l with ⟨z,_⟩ | ⟨_,c',e',cell⟩
    ·rcases kk with k | k<;>(rw[k] at z;cases z)
    ·rw[hcl.sub y c hc] at e'
     cases e'
     exact⟨c,hc,cell.keeps hkeep⟩
 ·obtain⟨v,q⟩:=I.cell y c (hcl.sub y c e)
  exact⟨v,q.keeps hkeep⟩
 ·show H C=none
  rw[hC]
  exact I.hok.fresh (Nat.le_refl _)
 ·have hp:p∈X.pn++pins:=by
   have hp:p∈(X.pn++pins)++[]:=hp
   rwa [List.append_nil] at hp
  obtain⟨e,n,ne,nf,d⟩:=I.pin p hp
  refine⟨hkeep _ _ e,n,hne _ _ e,fun z=>?_,d⟩
  rcases List.mem_cons.mp (I.stkSub p.1 z) with z | z
  ·exact ne z
  ·exact nf z
 ·show (aaR js σ).length+1=N'.length+1
  have q:=congrArg List.length hN
  rw[List.length_map,List.length_map] at q
  unfold aaR
  rw[List.length_map,q]
end
theorem aeR{prog:Program}{w:World}{A:Around}{R:Result->Shared->Prop}{s:Shared}{elt tg iter:Expr}{ifs:List Expr}{scope:Scope}{pos:Pos}{it acc:Value}{env:Env}{EN:Value->Shared->Prop}
  (hEN:EN=notedBy (model prog w) A env fun e s'=>R (.error e) s') (B:Nat->Shared->Prop)
  (turn:∀n s,B n s->wpAny (model prog w) A (pyNext it) (fun r s₁=>match r with
   |none=>R (.ok .next) s₁
   |some v=>wpAny (model prog w) A (letOwnedTupleGo tg it v) (fun _ s₂=>wpAny (model prog w) A (assign tg env v) (fun _ s₃=>
     wpAny (model prog w) A (ai2 ifs env) (fun ok s₄=>
      if ok=true then wpAny (model prog w) A (eval elt env) (fun z s₅=>wpAny (model prog w) A (call (.builtin "list.append") [acc,z]) (fun _ s₆=>∃m,m<n/\B m s₆) EN s₅) EN s₄
      else ∃m,m<n/\B m s₄) EN s₃) EN s₂) EN s₁) EN s) (n:Nat) (h:B n s):
  codeAny (model prog w) A (.compLoop (.ListComp elt [⟨tg,iter,ifs,0⟩] scope pos) 0 it acc env) R s:=by
 subst hEN
 refine codeAny_loop rfl B (fun n s hI=>?_) n h
 refine wpAny_noted (m:=compTurn (.ListComp elt [⟨tg,iter,ifs,0⟩] scope pos) 0 it acc env) ?_
 rw[compTurn_list]
 refine wpAny_bind (wpAny_standAt (wpAny_bind (wpAny_mono (turn n s hI) (fun r s₁ h₁=>?_) fun _ _ z=>z)))
 cases r with
 |none=>exact wpAny_pure h₁
 |some v=>
  refine wpAny_bind (wpAny_mono h₁ (fun _ s₂ h₂=>?_) fun _ _ z=>z)
  refine wpAny_bind (wpAny_mono h₂ (fun _ s₃ h₃=>?_) fun _ _ z=>z)
  refine wpAny_bind (wpAny_mono h₃ (fun ok s₄ h₄=>?_) fun _ _ z=>z)
  cases ok with
  |false=>exact wpAny_pure ⟨rfl,h₄⟩
  |true=>
   refine wpAny_bind (wpAny_bind (wpAny_mono h₄ (fun z s₅ h₅=>?_) fun _ _ q=>q))
   exact wpAny_bind (wpAny_mono h₅ (fun _ s₆ h₆=>wpAny_pure (wpAny_pure ⟨rfl,h₆⟩)) fun _ _ q=>q)
section
variable{X:Cx}{elt iter:Expr}{x:Str}{px pos:Pos}{ifs:List Expr}{scope:Scope}{cl:List (Str×Addr)}{N':List Str}{js:List Nat}{tt:TT}{te:TE}
theorem akG{pins:List (Addr×Obj)}{σ σ':St}{H H':Hp}{s s':Shared}{fp:List Addr}{C:Addr}(I:Inv X pins σ H s)(hfp:∀b∈fp,abP X pins H b)(J:Inv (aaF X (x::N') scope cl C fp pins s H) [] σ' H' s'):Inv X pins σ H' s':=
 I.call' (ch:=fp) J.os J.base J.hok J.bare fun b hb=>⟨(hfp b hb).2.2.2.1,(hfp b hb).2.1,(hfp b hb).2.2.2.2.1,(hfp b hb).2.2.2.2.2⟩
theorem aeY{pins:List (Addr×Obj)}{σ:St}{H:Hp}{s:Shared}{Q:VK}{RR:Value->Addr->Result->Shared->Prop}{J:It}{fp:List Addr}{it:Addr}{tn:Nat->Heap->Prop}
  (hcl:Clos X scope cl) (hx:scope.names.lookup x=some .local) (hnd:(x::N').Nodup) (hN:js.map (fun j=>X.N[j]?)=N'.map some)
  (hk:N'.all (fun y=>(X.env.kindOf y==some .cell)||(X.env.kindOf y==some .free))=true) (hf:N'.all (fun y=>scope.names.lookup y==some .free)=true) (hc:X.calm=true)
  (ht:∀(C:Addr) (ex:List Addr) (pins:List (Addr×Obj)) (s:Shared) (H:Hp),PF (aaF X (x::N') scope cl C ex pins s H) ifs tt)
  (he:∀(C:Addr) (ex:List Addr) (pins:List (Addr×Obj)) (s:Shared) (H:Hp),PE (aaF X (x::N') scope cl C ex pins s H) elt te)
  (I:Inv X pins σ H s) (T:Turn X.prog X.w X.K (.Name x px) J fp it tn) (st:tn 0 s.heap) (hfp:∀b∈fp,abP X pins H b)
  (q:∀D,H D=none->∃W:Nat->Nat->Hp->Prop,(∃m,W 0 m (upd H D (.lst [])))/\∀i m H2,W i m H2->
   (J.stop i H2/\Q (.ref D) H2)∨(J.go i H2/\∀v H3,J.yld i H2 v H3->tt (some v::aaR js σ) H3 fun b H4=>if b=true then
    te (some v::aaR js σ) H4 fun y H5=>∃ys,H5 D=some (.lst ys)/\ys.length<sizeLine/\∃m',m'<m/\W (i+1) m' (upd H5 D (.lst (ys++[y])))
    else ∃m',m'<m/\W (i+1) m' H4))
  (hRR:∀(D C:Addr) (s':Shared) (H':Hp) (m:Str->Option Value),Inv X pins σ H' s'->H' C=none->C≠X.env.locals->X.s₀.heap.objs.size<=C->(∀y c,X.env.cells.lookup y=some c->c≠C)->(∀p∈X.pn++pins,p.1≠C)->s'.heap.Ns C m->Q (.ref D) H'->RR (.ref D) C (.ok .next) s'):
  wpAny (model X.prog X.w) X.A (newList []) (fun acc s₃=>wpAny (model X.prog X.w) X.A (newFunctionEnv scope X.env.globals cl [] X.env.qual none .none (some X.env)) (fun cenv s₄=>
   codeAny (model X.prog X.w) X.A (.compStart (.ListComp elt [⟨.Name x px,iter,ifs,0⟩] scope pos) 0 (.ref it) acc {cenv with scope:=relabel scope X.env}) (RR acc cenv.locals) s₄) X.xe s₃) X.xe s:=by
 refine wpAny_newObj_type ?_
 have hD:H s.heap.objs.size=none:=I.hok.fresh (Nat.le_refl _)
 have I3:Inv X pins σ (upd H s.heap.objs.size (.lst [])) {s with heap:=s.heap.push {cls:=.type "list",dict:=none,data:=.seq ([]:List Value).toArray} }:=I.lnew (its:=[]) (t':=s.toks) .nil (Nat.zero_le _)
 have hfp3:∀b∈fp,abP X pins (upd H s.heap.objs.size (.lst [])) b/\b<(s.heap.push {cls:=.type "list",dict:=none,data:=.seq ([]:List Value).toArray}).objs.size:=fun b hb=>by
  obtain⟨o,ho,_⟩:=T.obj 0 _ st b hb
  have hlt:=Heap.lt_size ho
  obtain⟨f0,f1⟩:=hfp b hb
  exact⟨⟨by rw[aaD (Nat.ne_of_lt hlt)];exact f0,f1⟩,by rw[Heap.size_push];exact Nat.lt_succ_of_lt hlt⟩
 have st3:tn 0 (s.heap.push {cls:=.type "list",dict:=none,data:=.seq ([]:List Value).toArray}):=T.keep _ _ _ st fun b _ o e=>Heap.get?_push_of_some _ e
 obtain⟨W,⟨m0,w0⟩,turn⟩:=q s.heap.objs.size hD
 generalize hs3:({s with heap:=s.heap.push {cls:=.type "list",dict:=none,data:=.seq ([]:List Value).toArray} }:Shared)=s3 at I3 ⊢
 have hh3:s.heap.push {cls:=.type "list",dict:=none,data:=.seq ([]:List Value).toArray}=s3.heap:=by rw[←hs3]
 rw[hh3] at hfp3 st3
 generalize s.heap.objs.size=D at I3 hfp3 w0 turn hD ⊢
 generalize upd H D (.lst [])=H3 at I3 hfp3 w0
 refine wpAny_newFunctionEnv hcl.nocell (by intro y hy;simp at hy) (fun h₁ hns₁ hsb₁=>?_) hcl.kind
 have hkeep:∀b o,s3.heap.get? b=some o->h₁.get? b=some o:=fun b o e=>hsb₁.extBut b o (Nat.ne_of_lt (Heap.lt_size e)) (Heap.get?_push_of_some _ e)
 have J4:Inv (aaF X (x::N') scope cl s3.heap.objs.size fp pins s3 H3) [] (none::aaR js σ) H3 {s3 with heap:=h₁,toks:=s3.toks+([]:List (Str×Value)).length}:=
  aiM hcl hN hk hf I3 hfp3 rfl rfl rfl hkeep hns₁
 have st4:tn 0 h₁:=T.keep _ _ _ st3 fun b _ o e=>hkeep b o e
 have cell':∀{s':Shared} {σ':St} {H':Hp},Inv (aaF X (x::N') scope cl s3.heap.objs.size fp pins s3 H3) [] σ' H' s'->Q (.ref D) H'->RR (.ref D) s3.heap.objs.size (.ok .next) s':=fun {s' σ' H'} J hq=>by
  obtain⟨m,hn,_⟩:=J.loc
  refine hRR D _ s' H' m (akG I3 (fun b hb=>(hfp3 b hb).1) J) J.free (Nat.ne_of_gt I3.lt) I3.sz (fun y c e z=>?_) (fun p hp z=>?_) hn hq
  ·obtain⟨v,k⟩:=I3.cell y c e
   exact absurd k.lt (by rw[z];exact Nat.lt_irrefl _)
  ·exact absurd (Heap.lt_size (I3.pin p hp).1) (by rw[z];exact Nat.lt_irrefl _)
 have fpX:∀{H':Hp},(∀b∈fp,H' b=none)->∀b∈fp,abP (aaF X (x::N') scope cl s3.heap.objs.size fp pins s3 H3) [] H' b:=fun {H'} hn b hb=>by
  obtain⟨⟨f0,f1,f2,f3,f4,f5⟩,flt⟩:=hfp3 b hb
  refine⟨hn b hb,Nat.ne_of_lt flt,fun z=>?_,.inl hb,fun y c e=>f4 y c (hcl.sub y c e),fun p hp=>?_⟩
  ·rcases List.mem_cons.mp (I3.stkSub b z) with z | z
   ·exact f1 z
   ·exact f2 z
  ·have hp:p∈(X.pn++pins)++[]:=hp
   rw[List.append_nil] at hp
   exact f5 p hp
 have loop:∀s₄:Shared,s₄={s3 with heap:=h₁,toks:=s3.toks+([]:List (Str×Value)).length}->
   codeAny (model X.prog X.w) X.A (.compLoop (.ListComp elt [⟨.Name x px,iter,ifs,0⟩] scope pos) 0 (.ref it) (.ref D) (compEnvC scope cl s3.heap.objs.size X.env)) (RR (.ref D) s3.heap.objs.size) s₄:=by
  rintro s₄ rfl
  refine aeR rfl (fun n s'=>∃i σ0 H',Inv (aaF X (x::N') scope cl s3.heap.objs.size fp pins s3 H3) [] (σ0::aaR js σ) H' s'/\tn i s'.heap/\(∀b∈fp,H' b=none)/\W i n H') ?_ m0 ⟨0,none,H3,J4,st4,fun b hb=>(hfp3 b hb).1.1,w0⟩
  rintro n s5 ⟨i,σ0,H5,J5,st5,fr5,w5⟩
  rcases turn i n H5 w5 with ⟨stop,qn⟩ | ⟨go,step⟩
  ·refine wpAny_mono (T.done (aaF X (x::N') scope cl s3.heap.objs.size fp pins s3 H3) rfl rfl rfl hc i [] s5 _ H5 (fun _ _=>False) J5 (fpX fr5) st5 stop) (fun r s6 ⟨hr,J6⟩=>?_) fun _ _ z=>z.elim
   subst hr
   exact cell' J6 qn
  ·refine wpAny_mono (T.item (aaF X (x::N') scope cl s3.heap.objs.size fp pins s3 H3) rfl rfl rfl hc i [] s5 _ H5 (fun _ _=>False) J5 (fpX fr5) st5 go) (fun r s6 ⟨u,hr,h6⟩=>?_) fun _ _ z=>z.elim
   subst hr
   refine wpAny_mono h6 (fun _ s6' h6'=>?_) fun _ _ z=>z.elim
   obtain⟨v,H6,J6,r6,y6,st6,fr6⟩:=h6'
   clear h6
   have J6':=J6.pinned (fpX fr6) (T.obj _ _ st6)
   show wpAny _ _ (assign (.Name x px) _ u) _ _ _
   refine wpAny_assign_Name (ab1 (i:=0) J6' hnd rfl (.inl (lookup_relabel_local hx)) r6 (fun s7 J7=>?_) (.inr (lookup_relabel_local hx)))
   have J7:Inv (aaF X (x::N') scope cl s3.heap.objs.size fp pins s3 H3) ([]++acY fp s6'.heap) (some v::aaR js σ) H6 s7:=J7
   have again:∀{σ8:St} {H8:Hp} {s8:Shared},Inv (aaF X (x::N') scope cl s3.heap.objs.size fp pins s3 H3) ([]++acY fp s6'.heap) σ8 H8 s8->tn (i+1) s8.heap/\∀b∈fp,H8 b=none:=fun {σ8 H8 s8} J8=>by
    refine⟨T.keep _ _ _ st6 fun b hb o e=>(J8.pin (b,o) (List.mem_append_right _ (List.mem_append_right _ (aa4 hb e)))).1,fun b hb=>?_⟩
    obtain⟨o,e,d⟩:=T.obj _ _ st6 b hb
    exact (J8.pin (b,o) (List.mem_append_right _ (List.mem_append_right _ (aa4 hb e)))).2.1
   refine wpAny_mono (ht _ _ _ _ _ _ s7 _ H6 _ J7 (step v H6 y6)) (fun ok s8 ⟨H8,J8,q8⟩=>?_) fun _ _ z=>z.elim
   cases ok with
   |false=>
    obtain⟨m',hm,w8⟩:=(show ∃m',m'<n/\W (i+1) m' H8 from q8)
    obtain⟨a1,a2⟩:=again J8
    exact⟨m',hm,i+1,some v,H8,J8.unpinned,a1,a2,w8⟩
   |true=>
    refine wpAny_mono (he _ _ _ _ _ _ s8 _ H8 _ J8 q8) (fun y s9 ⟨z,H9,J9,r9,ys,hys,hlen,m',hm,w9⟩=>?_) fun _ _ z=>z.elim
    refine wpAny_mono (adP (X:=aaF X (x::N') scope cl s3.heap.objs.size fp pins s3 H3) _ s9 _ H9 (.ref D) [z] (.ref D) [y] (fun _ H10=>H10=upd H9 D (.lst (ys++[z]))) J9 rfl (.cons r9 .nil) ⟨D,ys,z,rfl,rfl,hys,hlen,rfl⟩) (fun _ s10 ⟨_,H10,J10,_,e10⟩=>?_) fun _ _ z=>z.elim
    subst e10
    obtain⟨a1,a2⟩:=again J10
    exact⟨m',hm,i+1,some v,_,J10.unpinned,a1,a2,w9⟩
 exact codeAny_compStart_list (loop _ rfl) (T.self _ 0 _ _ _ st4 (loop _ rfl))
theorem amY{wi:TI}(hcl:Clos X scope cl)(hx:scope.names.lookup x=some .local)(hnd:(x::N').Nodup)(hN:js.map (fun j=>X.N[j]?)=N'.map some)
  (hk:N'.all (fun y=>(X.env.kindOf y==some .cell)||(X.env.kindOf y==some .free))=true) (hf:N'.all (fun y=>scope.names.lookup y==some .free)=true) (hc:X.calm=true)
  (hi:PI X (.Name x px) iter wi)
  (ht:∀(C:Addr) (ex:List Addr) (pins:List (Addr×Obj)) (s:Shared) (H:Hp),PF (aaF X (x::N') scope cl C ex pins s H) ifs tt)
  (he:∀(C:Addr) (ex:List Addr) (pins:List (Addr×Obj)) (s:Shared) (H:Hp),PE (aaF X (x::N') scope cl C ex pins s H) elt te)
  (hs:∀x,foldedSetIterable iter X.env x=pure x:=by intro _;rfl):
  PE X (.ListComp elt [⟨.Name x px,iter,ifs,0⟩] scope pos) (akS wi js tt te):=by
 intro pins s σ H Q I h
 rw[eval_ListComp]
 refine wpAny_comprehension_free (use:=none) rfl hs hcl.is hcl.kind hcl.names (thn (hi pins s σ H _ I h) fun xv s₁ h₁=>thn h₁ fun itv s₂ h₂=>?_)
 obtain⟨it,fp,tn,J,H2,rfl,I2,T,st,hfp,q⟩:=h₂
 refine aeY (RR:=fun acc C=>compPost (model X.prog X.w) X.A X.xe none (EP X pins σ Q) acc C) hcl hx hnd hN hk hf hc ht he I2 T st hfp q ?_
 intro D C s' H' m I' hC0 hCL hCs hCc hCp hn hq
 refine⟨m,hn,fun h' sb=>⟨.ref D,H',?_,rfl,hq⟩⟩
 exact I'.turned (t':=s'.toks) (fun b o hb e=>(sb.2 b hb).trans e) hC0 hCL (.inr hCs) hCc hCp
end
theorem acW(env:Env):∀(names:List (Str×NameKind)) (acc:List (Str×Addr)),names.all (fun y=>y.2 != .free||(env.cells.lookup y.1).isSome)=true->
  ∃cl:List (Str×Addr),(forIn (m:=Sem) names acc fun x r=>(do
   let (name,kind):=x
   if kind== .free then do let c ←cellOf env name;pure (ForInStep.yield ((name,c)::r)) else pure (ForInStep.yield r)))=(pure cl:Sem _)/\
   (∀y c,cl.lookup y=some c->env.cells.lookup y=some c∨acc.lookup y=some c)/\(∀y,(∃c,acc.lookup y=some c)->∃c,cl.lookup y=some c)/\(∀y,(y,NameKind.free)∈names->∃c,cl.lookup y=some c)
 |[],acc,_=>⟨acc,rfl,fun _ _ h=>.inr h,fun _ h=>h,fun _ h=>nomatch h⟩
 |(n,k)::r,acc,h=>by
  rw[List.all_cons,Bool.and_eq_true] at h
  by_cases hk:k=.free
  ·subst hk
   have h1:(env.cells.lookup n).isSome=true:=by simpa using h.1
   obtain⟨c,hc⟩:=Option.isSome_iff_exists.mp h1
   obtain⟨cl,e,p1,p2,p3⟩:=acW env r ((n,c)::acc) h.2
   refine⟨cl,?_,fun y c' hy=>?_,fun y hy=>?_,fun y hy=>?_⟩
   ·rw[←e]
    have q:cellOf env n=(pure c:Sem Addr):=by unfold cellOf;rw[hc]
    rw[List.forIn_cons]
    dsimp only
    rw[if_pos (show (NameKind.free==NameKind.free)=true from rfl),q]
    rfl
   ·rcases p1 y c' hy with z | z
    ·exact .inl z
    ·rw[List.lookup_cons] at z
     cases hyn:y==n with
     |true=>
      rw[hyn] at z
      have e1:y=n:=by simpa using hyn
      have e2:c=c':=by simpa using z
      rw[e1,←e2]
      exact .inl hc
     |false=>
      rw[hyn] at z
      exact .inr z
   ·refine p2 y ?_
    rw[List.lookup_cons]
    cases hyn:y==n with
    |true=>exact⟨c,rfl⟩
    |false=>exact hy
   ·rcases List.mem_cons.mp hy with z | z
    ·refine p2 y ⟨c,?_⟩
     have e1:y=n:=(Prod.mk.inj z).1
     rw[e1,List.lookup_cons]
     simp
    ·exact p3 y z
  ·obtain⟨cl,e,p1,p2,p3⟩:=acW env r acc h.2
   have hk':(k==NameKind.free)=false:=by simpa using hk
   refine⟨cl,?_,p1,p2,fun y hy=>?_⟩
   ·rw[←e]
    rw[List.forIn_cons]
    dsimp only
    rw[if_neg (by rw[hk'];exact Bool.false_ne_true)]
    rfl
   ·rcases List.mem_cons.mp hy with z | z
    ·exact absurd (Prod.mk.inj z).2.symm hk
    ·exact p3 y z
theorem agZ{X:Cx}{scope:Scope}(h:scope.names.all (fun y=>y.2 != .free||(X.env.cells.lookup y.1).isSome)=true)(h2:scope.names.all (fun y=>y.2 != .cell)=true)(h3:scope.kind=.function)
  (h4:scope.names.all (fun y=>y.2 != .local||scope.names.lookup y.1==some .local)=true):∃cl,Clos X scope cl:=by
 obtain⟨cl,e,p1,p2,p3⟩:=acW X.env scope.names [] h
 refine⟨cl,?_,fun y c hy=>?_,fun y hy=>p3 y (PySem.mem_of_lookup hy),fun y hy=>by simpa using List.all_eq_true.mp h2 y hy,h3,fun y hy hl=>?_⟩
 ·unfold closureFor
  exact Eq.trans (congrArg (fun t:Sem (List (Str×Addr))=>t >>=fun r=>(pure r:Sem (List (Str×Addr)))) e) rfl
 ·rcases p1 y c hy with z | z
  ·exact z
  ·simp at z
 ·have q:=List.all_eq_true.mp h4 y hy
  simpa [hl] using q
section
variable{js:List Nat}{σ:St}{tt:TT}{te:TE}{Q:VK}{H1:Hp}
end
structure E(X:Cx)(e:Expr)(t:TE):Prop where
 h:PE X e t
structure T(X:Cx)(e:Expr)(t:TT):Prop where
 h:PT X e t
structure TW(X:Cx)(e:Expr)(t:TT):Prop where
 h:PW X e t
structure As(X:Cx)(es:List Expr)(t:TA):Prop where
 h:PA X es t
structure S(X:Cx)(st:Stmt)(t:TS):Prop where
 h:PS X st t
structure Ss(X:Cx)(sts:List Stmt)(t:TS):Prop where
 h:PSs X sts t
structure Il(X:Cx)(tg iter:Expr)(wi:TI):Prop where
 h:PI X tg iter wi
structure Gt(X:Cx)(tg:Expr)(t:TG):Prop where
 h:PG X tg t
structure Gts(X:Cx)(ts:List Expr)(t:TGs):Prop where
 h:PGs X ts t
structure Fs(X:Cx)(ifs:List Expr)(t:TT):Prop where
 h:PF X ifs t
structure Op2(X:Cx)(f:Value->Value->Sem Value)(r:R2):Prop where
 h:OpR X f r
structure Op1(X:Cx)(f:Value->Sem Value)(r:V->Hp->VK->Prop):Prop where
 h:UnR X f r
structure Cl1(X:Cx)(f:Value)(r:List V->Hp->VK->Prop):Prop where
 h:ad2 X f r
structure Ixs(X:Cx)(r:R2):Prop where
 h:IxR X r
section
variable{X:Cx}{a b c e:Expr}{pos p:Pos}{ta tb tc te:TE}{t u:TT}{rest es:List Expr}{tA:TA}{op op':CmpOp}{r r':R2}{x:Str}
theorem v_(i:Nat)(hN:X.N[i]? =some x:=by rfl)(hv:Vis X.env.scope x:=by first | exact Or.inl rfl | exact Or.inr (Or.inl rfl) | exact Or.inr (Or.inr rfl))(hd:(x==("__debug__":Str))=false:=by decide)(hcd:(x==("__classdict__":Str))=false:=by decide):
  E X (.Name x pos) (ax4 i):=⟨aqO hN hv hd hcd⟩
theorem eI{i j}:E X (.Constant (.int i) j pos) (tC (.int i)):=⟨akB⟩
theorem eB{k j}:E X (.Constant (.bool k) j pos) (tC (.bl k)):=⟨axB⟩
theorem eN{j}:E X (.Constant .none j pos) (tC .non):=⟨arB⟩
theorem eGl{v:V}{w':Value}(hm:X.mg x=some w')(q:RelV v w')(hg:Gl X x:=by rfl)(hd:(x==("__debug__":Str))=false:=by decide):E X (.Name x pos) (tC v):=⟨amM hg hm q hd⟩
theorem eTy{n:String}(hm:X.mg x=none)(hv:bootBuiltins x=some (.type n))(hg:Gl X x:=by rfl)(hn:x≠"__name__":=by decide)(hd:(x==("__debug__":Str))=false:=by decide):E X (.Name x pos) (tC (.ty n)):=⟨amJ hg hm hv rfl hn hd⟩
theorem eOp{o:Operator}(ho:Op2 X (binaryOp o) r)(ha:E X a ta)(hb:E X b tb):E X (.BinOp a o b pos) (tOp r ta tb):=⟨ayS ho.h ha.h hb.h⟩
theorem eUn{o:UnaryOp}{r1:V->Hp->VK->Prop}(ho:Op1 X (unaryOp o) r1)(ha:E X a ta):E X (.UnaryOp o a pos) (tUn r1 ta):=⟨auJ ho.h ha.h⟩
theorem acX(ho:Op2 X (compareOp op) r)(ha:E X a ta)(hb:E X b tb)(hm:behindInMarks op b=false:=by first | exact ak5 _ | rfl):E X (.Compare a [op] [b] pos) (tOp r ta tb):=⟨alY ho.h ha.h hb.h hm⟩
theorem tCh(ho:Op2 X (compareOp op) r)(ho':Op2 X (compareOp op') r')(ha:E X a ta)(hb:E X b tb)(hc:E X c tc)(hm:lastMarks [op,op'] [b,c]=false:=by with_unfolding_all rfl):T X (.Compare a [op,op'] [b,c] pos) (aiZ (akX r r' ta tb tc)):=⟨akF ho.h ho'.h ha.h hb.h hc.h hm⟩
theorem ahN{o}(ha:E X a ta):E X (.BoolOp o [a] pos) ta:=⟨aqH ha.h⟩
theorem ak8(ha:E X a ta)(hb:E X (.BoolOp .And (b::rest) pos) tb):E X (.BoolOp .And (a::b::rest) pos) (anL ta tb):=⟨aoF ha.h hb.h⟩
theorem eOr(ha:E X a ta)(hb:E X (.BoolOp .Or (b::rest) pos) tb):E X (.BoolOp .Or (a::b::rest) pos) (awU ta tb):=⟨ax9 ha.h hb.h⟩
theorem eNot(ha:E X a ta):E X (.UnaryOp .Not a pos) (anC ta):=⟨arN ha.h⟩
theorem eIf(hc:T X c t)(ha:E X a ta)(hb:E X b tb):E X (.IfExp c a b pos) (tIf t ta tb):=⟨akW hc.h ha.h hb.h⟩
theorem tCm(ho:Op2 X (compareOp op) r)(ha:E X a ta)(hb:E X b tb)(hm:behindInMarks op b=false:=by first | exact ak5 _ | rfl):T X (.Compare a [op] [b] pos) (aiZ (tOp r ta tb)):=⟨alM ho.h ha.h hb.h hm⟩
theorem tNo(ha:T X a t):T X (.UnaryOp .Not a pos) (avM t):=⟨ao5 ha.h⟩
theorem tVa(ha:E X e te)(he:∀whole,isTrue e X.env whole=(do let v ←whole;standAt e.pos;holding [v] (truthy v)):=by intro _;rfl):T X e (L2.tB te):=⟨aqJ ha.h he⟩
theorem aj8(ha:T X a t):TW X (.BoolOp .And [a] pos) t:=⟨amK ha.h⟩
theorem afC(ha:T X a t):TW X (.BoolOp .Or [a] pos) t:=⟨arC ha.h⟩
theorem asV(ha:T X a t)(hb:TW X (.BoolOp .And (b::rest) pos) u):TW X (.BoolOp .And (a::b::rest) pos) (atK t u):=⟨ao6 ha.h hb.h⟩
theorem wOr(ha:T X a t)(hb:TW X (.BoolOp .Or (b::rest) pos) u):TW X (.BoolOp .Or (a::b::rest) pos) (tOr t u):=⟨atG ha.h hb.h⟩
theorem tW(ha:TW X e t):T X e t:=⟨ha.h.pt⟩
theorem aN:As X [] afL:=⟨abW⟩
theorem aC(ha:E X e te)(hr:As X es tA)(hs:starEach (e::es) X.env=(false,eval e X.env)::starEach es X.env:=by rfl):As X (e::es) (ad0 te tA):=⟨abF ha.h hr.h hs⟩
theorem avP(is:List Int)(h:es.map ahX=is.map some:=by rfl):As X es (anK is):=⟨aiR is h⟩
theorem aa0(ha:As X es tA):E X (.List es pos) (au1 tA):=⟨an7 ha.h⟩
theorem aeW{k}(ha:As X es tA):E X (.Tuple es k pos) (ax0 tA):=⟨aoP ha.h⟩
theorem eIx(hr:Ixs X r)(ha:E X a ta)(hb:E X b tb)(hs:aiV b:=by intro _ _;rfl):E X (.Subscript a b pos) (tOp r ta tb):=⟨axW hr.h ha.h hb.h hs⟩
theorem eD{k k':Nat}{ps:List Str}{sp:Sp}(D:Df X.prog X.w X.K X.mg X.base x k ps sp)(hr:Room k' X.A)(ha:As X (e::es) tA)(hk:k<=k':=by decide)(hg:Gl X x:=by rfl)
  (hdb:(x==("__debug__":Str))=false:=by decide) (he:starEach (e::es) X.env=(false,eval e X.env)::starEach es X.env:=by rfl) (hpl:(backTo pos (starEach es X.env)).any (·.1)=false:=by rfl):
  E X (.Call (.Name x p) (e::es) [] pos) (af5 sp [] E0 tA):=⟨alE D hr ha.h hk hg hdb he hpl⟩
theorem eCB{id:String}{rc:List V->Hp->VK->Prop}(hc:Cl1 X (.builtin id) rc)(hm:X.mg x=none)(hv:bootBuiltins x=some (.builtin id))(ha:As X (e::es) tA)(hg:Gl X x:=by rfl)(hn:x≠"__name__":=by decide)(hdb:(x==("__debug__":Str))=false:=by decide)
  (he:starEach (e::es) X.env=(false,eval e X.env)::starEach es X.env:=by rfl) (hpl:(backTo pos (starEach es X.env)).any (·.1)=false:=by rfl):E X (.Call (.Name x p) (e::es) [] pos) (tCB rc tA):=⟨alC hc.h hg hm hv ha.h hn hdb he hpl⟩
theorem eCT{n:String}{rc:List V->Hp->VK->Prop}(hc:Cl1 X (.type n) rc)(hm:X.mg x=none)(hv:bootBuiltins x=some (.type n))(ha:As X (e::es) tA)(hg:Gl X x:=by rfl)(hn:x≠"__name__":=by decide)(hdb:(x==("__debug__":Str))=false:=by decide)
  (he:starEach (e::es) X.env=(false,eval e X.env)::starEach es X.env:=by rfl) (hpl:(backTo pos (starEach es X.env)).any (·.1)=false:=by rfl):E X (.Call (.Name x p) (e::es) [] pos) (tCB rc tA):=⟨ajR hc.h hg hm hv ha.h hn hdb he hpl⟩
end
section
variable{X:Cx}
theorem aeE:Op2 X (binaryOp .Add) (rI0 fun i j=>.int (i+j)):=⟨aq2⟩
theorem akN:Op2 X (binaryOp .Mult) (rI CMul fun i j=>.int (i*j)):=⟨arJ⟩
theorem alW:Op2 X (binaryOp .FloorDiv) (rI ayM fun i j=>.int (i / j)):=⟨alN⟩
theorem ab0:Op2 X (binaryOp .Mod) (rI (fun _ j=>0<j) fun i j=>.int (i%j)):=⟨ao2⟩
theorem asP:Op2 X (binaryOp .Pow) (rI amA fun i j=>.int (i^j.toNat)):=⟨apO⟩
theorem oShl:Op2 X (binaryOp .LShift) (rI amA fun i j=>.int (i*2^j.toNat)):=⟨aoC⟩
theorem oShr:Op2 X (binaryOp .RShift) (rI (fun _ j=>0<=j) fun i j=>.int (i / 2^j.toNat)):=⟨aoL⟩
theorem oAnd:Op2 X (binaryOp .BitAnd) (rI0 fun i j=>.int (Builtin.bitAnd i j)):=⟨asO⟩
theorem oOr:Op2 X (binaryOp .BitOr) (rI0 fun i j=>.int (Builtin.bitOr i j)):=⟨auB⟩
theorem agY:Op2 X (binaryOp .Add) au2:=⟨aqE⟩
theorem oEq:Op2 X (compareOp .Eq) rEq:=⟨atT⟩
theorem oNe:Op2 X (compareOp .NotEq) rNe:=⟨auP⟩
theorem oLt:Op2 X (compareOp .Lt) (rI0 fun i j=>.bl (decide (i<j))):=⟨auK⟩
theorem oLe:Op2 X (compareOp .LtE) (rI0 fun i j=>.bl (decide (i<=j))):=⟨aw4⟩
theorem oGt:Op2 X (compareOp .Gt) (rI0 fun i j=>.bl (decide (j<i))):=⟨axR⟩
theorem xL:Ixs X (axU X.K):=⟨amQ⟩
theorem xT:Ixs X (ayB X.K):=⟨as5⟩
theorem ahQ:Cl1 X (.builtin "len") (fun xs H Q=>∃p ys,xs=[.ref p]/\(SqL X.K H p ys∨SqT X.K H p ys)/\Q (.int ys.length) H):=⟨agW⟩
theorem cAbs:Cl1 X (.builtin "abs") (fun xs H Q=>∃i,xs=[.int i]/\Q (.int (if i<0 then -i else i)) H):=⟨akY⟩
theorem cMin(hc:X.calm=true:=by rfl):Cl1 X (.builtin "min") (fun xs H Q=>∃i j,xs=[.int i,.int j]/\Q (.int (if j<i then j else i)) H):=⟨ajZ hc⟩
theorem amE:Cl1 X (.type "int") (fun xs H Q=>(∃i,xs=[.int i]/\Q (.int i) H)∨∃k,xs=[.bl k]/\Q (.int (if k then 1 else 0)) H):=⟨ajJ⟩
end
section
variable{X:Cx}{e c iter tg:Expr}{te:TE}{tt:TT}{tA:TA}{wi:TI}{g:TG}{t u tb:TS}{st:Stmt}{rest body ba bb:List Stmt}{pos pos' p:Pos}{x:Str}{a1 a2:Expr}
theorem ssN:Ss X [] anM:=⟨alQ⟩
theorem ssC(h1:S X st t)(h2:Ss X rest u):Ss X (st::rest) (aw9 t u):=⟨alH h1.h h2.h⟩
theorem ss1(h1:S X st t):Ss X [st] t:=⟨al3 h1.h⟩
theorem aaI(he:E X e te):S X (.Return (some e) pos) (axT te):=⟨ar9 he.h⟩
theorem sIf(hc:T X c tt)(ha:Ss X ba t)(hb:Ss X bb u):S X (.If c ba bb pos) (awL tt t u):=⟨avN hc.h ha.h hb.h⟩
theorem alZ(he:E X e te)(hs:swapsWith e none pos.line X.env=pure false:=by rfl):S X (.Expr e pos) (am8 te):=⟨amN he.h hs⟩
theorem aaM(i:Nat)(he:E X e te)(hN:X.N.Nodup)(hi:X.N[i]? =some x:=by rfl)(hx:Loc X.env.scope x:=by first | exact Or.inl rfl | exact Or.inr rfl)(hs:swapsWith e (some (.Name x pos')) pos.line X.env=pure false:=by rfl)
  (hf:X.fn x=true∨X.env.scope.names.lookup x=some .local:=by first | exact .inl rfl | exact .inr rfl):S X (.Assign [.Name x pos'] e pos) (alF te (acT i)):=⟨ao9 hN hi hx he.h hs hf⟩
theorem gN(i:Nat)(hN:X.N.Nodup)(hi:X.N[i]? =some x:=by rfl)(hx:Loc X.env.scope x:=by first | exact Or.inl rfl | exact Or.inr rfl)(hf:X.fn x=true∨X.env.scope.names.lookup x=some .local:=by first | exact .inl rfl | exact .inr rfl):Gt X (.Name x pos) (acT i):=⟨amC hN hi hx hf⟩
theorem aiE(hi:Il X tg iter wi)(hg:Gt X tg g)(hb:Ss X body tb)(hp:PassesOwn (model X.prog X.w) X.A X.env X.xe)(hc:X.calm=true:=by rfl)(hs:∀x,foldedSetIterable iter X.env x=pure x:=by intro _;rfl):S X (.For tg iter body [] pos) (awP wi g tb):=⟨arS hp hc hi.h hg.h hb.h hs⟩
theorem iL(hl:E X e te):Il X tg e (am7 X.K te):=⟨al7 hl.h⟩
theorem iT(hl:E X e te):Il X tg e (ax8 X.K te):=⟨apE hl.h⟩
theorem iR1(hm:X.mg "range"=none)(ha:As X [a1] tA)(hg:Gl X "range":=by rfl)(hs:starEach [a1] X.env=[(false,eval a1 X.env)]:=by rfl):Il X tg (.Call (.Name "range" p) [a1] [] pos) (anG tA):=⟨ajY hg hm ha.h hs⟩
end
section
variable{P:Program}{w:World}{K:PySem.W.Frag}{mg:Str->Option Value}{base:Heap}{x:Str}{st:Stmt}{ps N:List Str}{k:Nat}{sp:Sp}
theorem Fn.dfs(F:Fn K mg x st ps)(S':FnScope N ps (aaC st))(len:∀vs H Q E,sp vs H Q E->vs.length=ps.length)
  (hbody:∀(f:Addr) (cdv:Value) (A:Around) (outer:List Env) (s:Shared) (H:Hp) (vs:List V) (Q:VK) (E:XK),Room k (A.deeper (envOfC x (aaC st) s.heap.objs.size f cdv))->sp vs H Q E->
   ∃t,Ss (abM CX0 P w K mg base N x (aaC st) f cdv A outer s H E).nox (aaJ st) t/\t {nx:=fun _ H'=>Q .non H',rt:=Q} (aa6 N vs) H):Df P w K mg base x (k+1) ps sp:=
 F.df S' len fun f cdv A outer s H vs Q E hr h=>by
  obtain⟨t,h1,h2⟩:=hbody f cdv A outer s H vs Q E hr h
  exact⟨t,h1.h,h2⟩
theorem Fun.oks{f:Addr}{fd:FuncData}(F:Fun K x x st f fd)(S':FnScope N ps (aaC st))(len:∀vs H Q E,sp vs H Q E->vs.length=ps.length)
  (hbody:∀(cdv:Value) (A:Around) (outer:List Env) (s:Shared) (H:Hp) (vs:List V) (Q:VK) (E:XK),Room k (A.deeper (envOfC x (aaC st) s.heap.objs.size f cdv))->sp vs H Q E->
   ∃t,Ss (abM CX0 P w K mg base N x (aaC st) f cdv A outer s H E).nox (aaJ st) t/\t {nx:=fun _ H'=>Q .non H',rt:=Q} (aa6 N vs) H):FnOk P w K mg base CX0 (k+1) f fd ps sp:=
 F.ok S' len fun cdv A outer s H vs Q E hr h=>by
  obtain⟨t,h1,h2⟩:=hbody cdv A outer s H vs Q E hr h
  exact⟨t,h1.h,h2⟩
end
end L2
namespace L2
open PySem PySem.Spec PyProof.Rows PySem.SeqAt
section
variable{X:Cx}
end
section
variable{X:Cx}{elt iter:Expr}{x y:Str}{px py pos spos:Pos}{ifs:List Expr}{scope:Scope}{wi:TI}{tt:TT}{te:TE}
theorem auV(N':List Str)(js:List Nat)(hi:Il X (.Name x px) iter wi)
  (ht:∀(cl:List (Str×Addr)) (C:Addr) (ex:List Addr) (pins:List (Addr×Obj)) (s:Shared) (H:Hp),Fs (aaF X (x::N') scope cl C ex pins s H) ifs tt)
  (he:∀(cl:List (Str×Addr)) (C:Addr) (ex:List Addr) (pins:List (Addr×Obj)) (s:Shared) (H:Hp),E (aaF X (x::N') scope cl C ex pins s H) elt te)
  (hcl:∃cl,Clos X scope cl:=by exact agZ rfl rfl rfl rfl) (hx:scope.names.lookup x=some .local:=by rfl) (hnd:(x::N').Nodup:=by decide +kernel) (hN:js.map (fun j=>X.N[j]?)=N'.map some:=by rfl)
  (hk:N'.all (fun y=>(X.env.kindOf y==some .cell)||(X.env.kindOf y==some .free))=true:=by rfl) (hf:N'.all (fun y=>scope.names.lookup y==some .free)=true:=by rfl) (hc:X.calm=true:=by rfl)
  (hs:∀x,foldedSetIterable iter X.env x=pure x:=by intro _;rfl):E X (.ListComp elt [⟨.Name x px,iter,ifs,0⟩] scope pos) (akS wi js tt te):=by
 obtain⟨cl,hcl⟩:=hcl
 exact⟨amY hcl hx hnd hN hk hf hc hi.h (fun C ex pins s H=>(ht cl C ex pins s H).h) (fun C ex pins s H=>(he cl C ex pins s H).h) hs⟩
theorem atU(i:Nat)(N':List Str)(js:List Nat)(hi:Il X (.Name x px) iter wi)
  (ht:∀(cl:List (Str×Addr)) (C:Addr) (ex:List Addr) (pins:List (Addr×Obj)) (s:Shared) (H:Hp),Fs (aaF X (x::N') scope cl C ex pins s H) ifs tt)
  (he:∀(cl:List (Str×Addr)) (C:Addr) (ex:List Addr) (pins:List (Addr×Obj)) (s:Shared) (H:Hp),E (aaF X (x::N') scope cl C ex pins s H) elt te)
  (hXN:X.N.Nodup) (hsw:swapsWith (.ListComp elt [⟨.Name x px,iter,ifs,0⟩] scope pos) (some (.Name y py)) spos.line X.env=pure true:=by rfl)
  (hiN:X.N[i]? =some y:=by rfl) (hy:X.env.scope.names.lookup y=some .local:=by rfl)
  (hcl:∃cl,Clos X scope cl:=by exact agZ rfl rfl rfl rfl) (hx:scope.names.lookup x=some .local:=by rfl) (hnd:(x::N').Nodup:=by decide +kernel) (hN:js.map (fun j=>X.N[j]?)=N'.map some:=by rfl)
  (hk:N'.all (fun y=>(X.env.kindOf y==some .cell)||(X.env.kindOf y==some .free))=true:=by rfl) (hf:N'.all (fun y=>scope.names.lookup y==some .free)=true:=by rfl) (hc:X.calm=true:=by rfl)
  (hs:∀x,foldedSetIterable iter X.env x=pure x:=by intro _;rfl):S X (.Assign [.Name y py] (.ListComp elt [⟨.Name x px,iter,ifs,0⟩] scope pos) spos) (alF (akS wi js tt te) (acT i)):=by
 obtain⟨cl,hcl⟩:=hcl
 refine⟨fun pins s σ H D I h=>?_⟩
 rw[exec_Assign_Name_used _ _ _ _ hsw]
 refine wpAny_bind (wpAny_standAt (wpAny_bind ?_))
 show wpAny _ X.A (do let _ ←comprehension (.ListComp elt [⟨.Name x px,iter,ifs,0⟩] scope pos) scope X.env _ (newList []) false (eval iter X.env) (some (assign (.Name y py) X.env))) _ _ s
 refine wpAny_bind (wpAny_mono (wpAny_comprehension_free (use:=some (assign (.Name y py) X.env)) (Q:=fun _ s'=>SP X pins D .next s') rfl hs hcl.is hcl.kind hcl.names ?_) (fun _ s' hq=>wpAny_pure (wpAny_pure hq)) fun _ _ z=>z)
 refine thn (hi.h pins s σ H _ I h) fun xv s₁ h₁=>thn h₁ fun itv s₂ h₂=>?_
 obtain⟨it,fp,tn,J,H2,rfl,I2,T,st,hfp,q⟩:=h₂
 refine aeY (Q:=fun v H'=>D.nx (σ.set i (some v)) H') (RR:=fun acc C=>compPost (model X.prog X.w) X.A X.xe (some (assign (.Name y py) X.env)) (fun _ s'=>SP X pins D .next s') acc C) hcl hx hnd hN hk hf hc (fun C ex pins s H=>(ht cl C ex pins s H).h) (fun C ex pins s H=>(he cl C ex pins s H).h) I2 T st hfp q ?_
 intro D' C s' H' m I' hC0 hCL hCs hCc hCp hn hq
 show wpAny _ _ (assign (.Name y py) X.env (.ref D')) _ _ s'
 refine wpAny_assign_Name (afU I' hXN hiN (.inl hy) (v:=.ref D') rfl (fun s3 I3 sb3=>?_) (.inr hy))
 obtain⟨a3,sb3,e3⟩:=sb3
 have hCa:C≠a3:=by
  rcases e3 with e3 | e3
  ·rw[e3];exact hCL
  ·exact fun z=>hCc y a3 e3 z.symm
 refine⟨m,hn.sameBut sb3 hCa,fun h' sb=>⟨σ.set i (some (.ref D')),H',?_,hq⟩⟩
 exact I3.turned (t':=s3.toks) (fun b o hb e=>(sb.2 b hb).trans e) hC0 hCL (.inr hCs) hCc hCp
theorem fsN:Fs X [] at7:=⟨arM⟩
theorem gTu{es:List Expr}{k n:Nat}{t:TGs}(h:Gts X es t)(hc:X.calm=true:=by rfl)(hn:(assignEach es X.env).length=n:=by rfl)(hst:(assignEach es X.env).findIdx? (·.1)=none:=by rfl):Gt X (.Tuple es k pos) (al6 X.K n t):=⟨arF hc h.h hn hst⟩
theorem gsN:Gts X [] aoK:=⟨am4⟩
theorem gsC{e:Expr}{es:List Expr}{t:TG}{u:TGs}(h1:Gt X e t)(h2:Gts X es u)(hs:(assignEach (e::es) X.env).map (·.2)=assign e X.env::(assignEach es X.env).map (·.2):=by rfl):Gts X (e::es) (ai9 t u):=⟨akC h1.h h2.h hs⟩
theorem awV{tg e:Expr}{g:TG}(he:E X e te)(hg:Gt X tg g)(hs:swapsWithSole [tg] e pos.line X.env=pure false:=by rfl)(hw:swappedStores [tg] e X.env=pure none:=by rfl)
  (h1:(assignEach [tg] X.env).map (·.2)=[assign tg X.env]:=by rfl):S X (.Assign [tg] e pos) (alF te g):=⟨aqF he.h hg.h hs hw h1⟩
end
section
variable{js:List Nat}{σ:St}{tt:TT}{te:TE}{Q:VK}{H1:Hp}
theorem ajE{K:PySem.W.Frag}{a:Addr}{xs:List V}(R:Nat->List V->Prop)(hn:xs.length<=sizeLine)(h0:R 0 [])(hq:SqL K H1 a xs)
  (hs:∀(i:Nat) (v:V) (l:List V) (D:Addr) (H2:Hp) (E:V->Hp->Prop) (F:Hp->Prop),xs[i]? =some v->R i l->H1 D=none->Same H1 H2->H2 D=some (.lst l)->(∀y H5,Same H2 H5->R (i+1) (l++[y])->E y H5)->(∀H4,Same H2 H4->R (i+1) l->F H4)->
   tt (some v::aaR js σ) H2 fun b H4=>if b=true then te (some v::aaR js σ) H4 E else F H4)
  (hd:∀(D:Addr) (H2:Hp) (l:List V),R xs.length l->H1 D=none->Same H1 H2->H2 D=some (.lst l)->Q (.ref D) H2):aj1 (Itl K a) js σ tt te Q H1:=by
 intro D hD
 refine⟨fun i m H2=>m=xs.length-i/\i<=xs.length/\Same H1 H2/\∃l,H2 D=some (.lst l)/\l.length<=i/\R i l,⟨xs.length,by simp,Nat.zero_le _,aaB hD _,[],aaA,Nat.le_refl _,h0⟩,?_⟩
 rintro i m H2 ⟨rfl,hi,s2,l,h2,hll,hR⟩
 by_cases hlt:i<xs.length
 ·refine .inr ⟨⟨xs,xs[i],s2.seq hq,by simp[hlt]⟩,fun v H3 y=>?_⟩
  obtain⟨e,ev⟩:=y
  subst e
  have hv:=ev xs (s2.seq hq)
  refine hs i v l D _ _ _ hv hR hD s2 h2 (fun z H5 s5 r5=>?_) (fun H4 s4 r4=>?_)
  ·refine⟨l,s5 _ _ h2,Nat.lt_of_le_of_lt hll (Nat.lt_of_lt_of_le hlt hn),xs.length-(i+1),by omega,rfl,hlt,fun b o hb=>?_,l++[z],aaA,by rw[List.length_append,List.length_singleton];omega,r5⟩
   rw[aaD (aaE hb hD)]
   exact s5 _ _ (s2 _ _ hb)
  ·exact⟨xs.length-(i+1),by omega,rfl,hlt,s2.trans s4,l,s4 _ _ h2,by omega,r4⟩
 ·have e:i=xs.length:=by omega
  subst e
  exact .inl ⟨⟨xs,s2.seq hq,Nat.le_refl _⟩,hd D H2 l hR hD s2 h2⟩
def IntsR(i:Nat)(l:List V):Prop:=∃zs:List Int,l=zs.map V.int/\zs.length<=i
theorem IntsR.nil:IntsR 0 []:=⟨[],rfl,Nat.le_refl _⟩
theorem IntsR.one{i:Nat}{l:List V}(h:IntsR i l)(z:Int):IntsR (i+1) (l++[.int z]):=by
 obtain⟨zs,rfl,hl⟩:=h
 exact⟨zs++[z],by rw[List.map_append];rfl,by rw[List.length_append,List.length_singleton];omega⟩
theorem Same.tup{K:PySem.W.Frag}{H H':Hp}{a:Addr}{xs:List V}(e:Same H H')(h:SqT K H a xs):SqT K H' a xs:=by
 rcases h with (h | ⟨o,h⟩) | h
 ·exact .inl (.inl (e _ _ h))
 ·exact .inl (.inr ⟨o,e _ _ h⟩)
 ·exact .inr h
theorem am0{X:Cx}:Op1 X (unaryOp .USub) (rU fun i=>.int (-i)):=⟨anO⟩
end
section
variable{prog:Program}{w:World}{A:Around}{E:Value->Shared->Prop}{s:Shared}
end
section
variable{X:Cx}{pos:Pos}
theorem am3{o e:Expr}{to te:TE}{apos cpos:Pos}(ho:E X o to)(he:E X e te)(hbase:attributeBase o "append" X.env (eval o X.env)=eval o X.env:=by rfl)
  (hfew:((backTo cpos (starEach [e] X.env)).all (fun x=> !x.1)&&(backToKw cpos (keywordEach [] X.env)).all (fun x=>x.1.isSome)&&decide (([e]:List Expr).length+([]:List Keyword).length+(if ([]:List Keyword).isEmpty then 0 else 1)<30))=true:=by rfl)
  (hline:(apos.endLine==cpos.line)=true:=by rfl) (hs:starEach [e] X.env=(false,eval e X.env)::starEach [] X.env:=by rfl) (hplain:(backTo cpos (starEach [] X.env)).any (·.1)=false:=by rfl):
  E X (.Call (.Attribute o "append" apos) [e] [] cpos) (tBM X.K "list" aiS to (ad0 te afL)):=
 ⟨ahK PySem.F.plainAttrs_list PySem.F.slot_list_append PySem.F.type_list_append adP ho.h (abF he.h abW hs) hbase hfew hline hs hplain⟩
end
section
variable{js:List Nat}{σ:St}{tt:TT}{te:TE}{Q:VK}{H1:Hp}
end
def Digs(ds ss:List Int):Prop:=Paired (fun d z:Int=>0<=d/\d<z) ds ss
theorem Digs.snoc{ds ss:List Int}{d z:Int}(h:Digs ds ss)(h0:0<=d)(h1:d<z):Digs (ds++[d]) (ss++[z]):=Paired.snoc h ⟨h0,h1⟩
theorem Digs.len{ds ss:List Int}(h:Digs ds ss):ds.length=ss.length:=Paired.length h
theorem Digs.two{ds:List Int}{a b:Int}(h:Digs ds [a,b]):∃x y:Int,ds=[x,y]/\(0<=x/\x<a)/\0<=y/\y<b:=by
 cases h with
 |cons h1 r=>cases r with | cons h2 r=>cases r;exact⟨_,_,rfl,h1,h2⟩
theorem abL{H H2:Hp}{p:Addr}{o:HO}(hn:H p=none)(s:Same H H2):Same H (upd H2 p o):=fun b u h=>by
 rw[aaD (aaE h hn)]
 exact s b u h
theorem at3{a m b:Int}(h0:0<m)(h1:m<=18446744073709551616):CMul (a%m) b:=.inl ⟨Int.lt_of_lt_of_le (by decide) (Int.emod_nonneg a (Int.ne_of_gt h0)),Int.lt_of_lt_of_le (Int.emod_lt_of_pos a h0) h1⟩
theorem au8:(10:Int)^(18:Int).toNat=1000000000000000000:=by decide +kernel
structure FnM(K:PySem.W.Frag)(C:Addr)(m qual:Str)(st:Stmt)(ps:List Str):Prop where
 ex:∃(f:Addr) (fd:FuncData),Fun K m qual st f fd/\Binds K fd ps []/\Meth K C m f
structure DfM(P:Program)(w:World)(K:PySem.W.Frag)(mg:Str->Option Value)(base:Heap)(C:Addr)(m:Str)(k:Nat)(ps:List Str)(sp:Sp):Prop where
 ex:∃(f:Addr) (fd:FuncData),FnOk P w K mg base CX0 k f fd ps sp/\Binds K fd ps []/\Meth K C m f
structure Cd(K:PySem.W.Frag)(mg:Str->Option Value)(x:Str)(C:Addr):Prop where
 at_:mg x=some (.ref C)
 cl:Cls K C
 makes:PySem.W.makesIn K C=true
 kp:PySem.W.keepIn K (.ref C)=true
section
variable{P:Program}{w:World}{K:PySem.W.Frag}{mg:Str->Option Value}{base:Heap}{m qual:Str}{st:Stmt}{ps N:List Str}{k:Nat}{sp:Sp}{C:Addr}
theorem FnM.dfs(F:FnM K C m qual st ps)(S':FnScope N ps (aaC st))(len:∀vs H Q E,sp vs H Q E->vs.length=ps.length)
  (hbody:∀(f:Addr) (cdv:Value) (A:Around) (outer:List Env) (s:Shared) (H:Hp) (vs:List V) (Q:VK) (E:XK),Room k (A.deeper (envOfC qual (aaC st) s.heap.objs.size f cdv))->sp vs H Q E->
   ∃t,Ss (abM CX0 P w K mg base N qual (aaC st) f cdv A outer s H E).nox (aaJ st) t/\t {nx:=fun _ H'=>Q .non H',rt:=Q} (aa6 N vs) H):DfM P w K mg base C m (k+1) ps sp:=by
 obtain⟨f,fd,F1,hb,hm⟩:=F.ex
 refine⟨⟨f,fd,F1.ok S' len fun cdv A outer s H vs Q E hr h=>?_,hb,hm⟩⟩
 obtain⟨t,h1,h2⟩:=hbody f cdv A outer s H vs Q E hr h
 exact⟨t,h1.h,h2⟩
theorem adL{f:Addr}{oc:Value}{od an:Option Addr}{osl:Array (Option Value)}{kV doc pm cdv ct:Value}
  (a:PySem.W.findIn K (.ref C) m=some (some (.ref f))) (i:PySem.W.isFn K (.ref f)=true) (l:K.lookup f=some ⟨oc,od,.func (PySem.W.fnOf m qual (aaW st) (aaJ st) (aaC st) .none kV doc pm an cdv ct),osl⟩)
  (c:PySem.W.codeIn K cdv qual=true) (k:PySem.W.keepIn K (.ref f)=true)
  (hb:∀(kV doc pm:Value) (an:Option Addr) (cdv ct:Value) (us:List Value),us.length=ps.length->bindArgs (PySem.W.fnOf m qual (aaW st) (aaJ st) (aaC st) .none kV doc pm an cdv ct) ⟨us,[]⟩=pure (ps.zip us)):FnM K C m qual st ps:=by
 have F:=ah6 (st:=st) l c k
 exact⟨⟨f,_,F,F.binds (ps:=ps) hb,⟨a,i,k⟩⟩⟩
end
section
variable{X:Cx}{x m:Str}{C:Addr}{k k':Nat}{ps:List Str}{sp:Sp}{e o value:Expr}{es:List Expr}{ta tv:TE}{t:TA}{p pos apos pos':Pos}{f:Str}
theorem eMk(c:Cd X.K X.mg x C)(D:DfM X.prog X.w X.K X.mg X.base C "__init__" k ps sp)(hr:Room k' X.A)(ha:As X (e::es) t)(hk:k+1<=k':=by decide)(hg:Gl X x:=by rfl)(hdb:(x==("__debug__":Str))=false:=by decide)
  (he:starEach (e::es) X.env=(false,eval e X.env)::starEach es X.env:=by rfl) (hpl:(backTo pos (starEach es X.env)).any (·.1)=false:=by rfl):E X (.Call (.Name x p) (e::es) [] pos) (aiT C sp [] E0 t):=by
 obtain⟨f,fd,F,hb,hm⟩:=D.ex
 exact⟨alT ⟨c.makes,hm.at_,hm.fn,c.kp⟩ F (hr.mono hk) hg c.at_ hb .nil aiW ha.h hdb he hpl⟩
theorem sFl(ha:E X o ta)(hv:E X value tv)(hs:swapsWith value (some (.Attribute o f pos')) pos.line X.env=pure false:=by rfl):S X (.Assign [.Attribute o f pos'] value pos) (awF X.K ta tv f):=⟨aq6 ha.h hv.h hs⟩
def tMkN(C:Addr):TE:=fun _ H Q=>∀x dx,H x=none->H dx=none->dx≠x->Q (.ref x) (upd (upd H dx (.own x)) x (.ins C dx []))
theorem eMkN(c:Cd X.K X.mg x C)(hi:PySem.W.findIn X.K (.ref C) "__init__"=some (some (.builtin "object.__init__")))(hg:Gl X x:=by rfl)(hdb:(x==("__debug__":Str))=false:=by decide):E X (.Call (.Name x p) [] [] pos) (tMkN C):=by
 refine⟨fun pins s σ H Q I h=>?_⟩
 refine wpAny_Call_Name_kw (abG I hg c.at_ ?_ hdb)
 refine PySem.W.callWith_K0 I.kIn c.kp (wpAny_call ?_)
 have hq:=h (s.heap.objs.size+1) s.heap.objs.size (I.hok.fresh (Nat.le_succ _)) (I.hok.fresh (Nat.le_refl _)) (Nat.ne_of_lt (Nat.lt_succ_self _))
 have I2:=Inv.made (C:=C) I
 have e2:((s.heap.push PySem.W.emptyDict).push (PySem.W.instObj C s.heap.objs.size)).get? (s.heap.objs.size+1)=some (PySem.W.instObj C s.heap.objs.size):=by
  have:=Heap.get?_push_size (s.heap.push PySem.W.emptyDict) (o:=PySem.W.instObj C s.heap.objs.size) rfl
  rwa [Heap.size_push] at this
 have Y:=PySem.W.makes_of (M:=model X.prog X.w) I.kIn c.makes
 refine ajN I.kIn c.makes hi (fun self=>PySem.W.Looks.of_pure (PySem.W.oi_bind self)) ?_
 have t1:PySem.W.Looks (model X.prog X.w) ((s.heap.push PySem.W.emptyDict).push (PySem.W.instObj C s.heap.objs.size)) (typeOf (.ref (s.heap.objs.size+1))) (.ref C):=(PySem.W.Looks.ld e2).andThen .now
 have t2:PySem.W.Looks (model X.prog X.w) ((s.heap.push PySem.W.emptyDict).push (PySem.W.instObj C s.heap.objs.size)) (isInstance (.ref (s.heap.objs.size+1)) (.type "object")) true:=t1.andThen (Y.top.keeps fun b o q=>Heap.get?_push_of_some _ (Heap.get?_push_of_some _ q))
 refine codeAny_call_builtin PySem.W.oi_plain PySem.W.entry_oi (@PySem.W.check_slot (model X.prog X.w) _ _ _ "object.__init__" "object" "__init__" (.ref (s.heap.objs.size+1)) [] [] _ PySem.W.oi_kind PySem.W.oi_split t2 (PySem.W.oi_args (.ref (s.heap.objs.size+1))) ?_)
 rw[PySem.W.oi_run]
 exact wpAny_pure (And.intro rfl ⟨V.ref (s.heap.objs.size+1),_,I2,rfl,hq⟩)
end
structure Po(X:Cx)(o:Option Expr)(t:TO):Prop where
 h:PO X o t
structure Sls(X:Cx)(r:V->Option Int->Option Int->Hp->VK->Prop):Prop where
 h:SlR X r
section
variable{X:Cx}{e:Expr}{te:TE}{lo hi:Option Expr}{tl th:TO}{pos p2:Pos}
theorem poN:Po X none aiQ:=⟨amH⟩
theorem poS(h:E X e te):Po X (some e) (anH te):=⟨amV h.h⟩
theorem slL:Sls X (awW X.K):=⟨alS⟩
theorem eSl{r:V->Option Int->Option Int->Hp->VK->Prop}(hr:Sls X r)(he:E X e te)(hl:Po X lo tl)(hu:Po X hi th):E X (.Subscript e (.Slice lo hi none p2) pos) (tSl r te tl th):=⟨akP hr.h he.h hl.h hu.h⟩
end
structure FunD(K:PySem.W.Frag)(x qual:Str)(st:Stmt)(f:Addr)(fd:FuncData):Prop where
 ex:∃(oc:Value) (od:Option Addr) (dV kV doc pm:Value) (an:Option Addr) (cdv ct:Value) (osl:Array (Option Value)),
  fd=PySem.W.fnOf x qual (aaW st) (aaJ st) (aaC st) dV kV doc pm an cdv ct/\K.lookup f=some ⟨oc,od,.func fd,osl⟩/\PySem.W.codeIn K cdv qual=true
 kp:PySem.W.keepIn K (.ref f)=true
structure FnMD(K:PySem.W.Frag)(C:Addr)(m qual:Str)(st:Stmt)(ps:List Str)(dvs:List V):Prop where
 ex:∃(f:Addr) (fd:FuncData) (ds:List Value),FunD K m qual st f fd/\Binds K fd ps []/\Vals dvs ds/\Binds K fd ps ds/\Meth K C m f
structure DfMD(P:Program)(w:World)(K:PySem.W.Frag)(mg:Str->Option Value)(base:Heap)(C:Addr)(m:Str)(k:Nat)(ps:List Str)(sp:Sp)(dvs:List V):Prop where
 ex:∃(f:Addr) (fd:FuncData) (ds:List Value),FnOk P w K mg base CX0 k f fd ps sp/\Binds K fd ps []/\Vals dvs ds/\Binds K fd ps ds/\Meth K C m f
section
variable{P:Program}{w:World}{K:PySem.W.Frag}{mg:Str->Option Value}{base:Heap}{m qual:Str}{st:Stmt}{ps N:List Str}{k:Nat}{sp:Sp}{C:Addr}{dvs:List V}
theorem DfMD.dfm(D:DfMD P w K mg base C m k ps sp dvs):DfM P w K mg base C m k ps sp:=by
 obtain⟨f,fd,ds,a,b,_,_,e⟩:=D.ex
 exact⟨⟨f,fd,a,b,e⟩⟩
theorem FnMD.dfs(F:FnMD K C m qual st ps dvs)(S':FnScope N ps (aaC st))(len:∀vs H Q E,sp vs H Q E->vs.length=ps.length)
  (hbody:∀(f:Addr) (cdv:Value) (A:Around) (outer:List Env) (s:Shared) (H:Hp) (vs:List V) (Q:VK) (E:XK),Room k (A.deeper (envOfC qual (aaC st) s.heap.objs.size f cdv))->sp vs H Q E->
   ∃t,Ss (abM CX0 P w K mg base N qual (aaC st) f cdv A outer s H E).nox (aaJ st) t/\t {nx:=fun _ H'=>Q .non H',rt:=Q} (aa6 N vs) H):DfMD P w K mg base C m (k+1) ps sp dvs:=by
 obtain⟨f,fd,ds,F1,hb,hv,hbd,hm⟩:=F.ex
 refine⟨⟨f,fd,ds,?_,hb,hv,hbd,hm⟩⟩
 obtain⟨oc,od,dV,kV,doc,pm,an,cdv,ct,osl,rfl,lk,hcd⟩:=F1.ex
 refine alA lk hcd S' len fun A outer s H vs Q E hr hsp=>?_
 obtain⟨t,h,q⟩:=hbody f cdv A outer s H vs Q E hr hsp
 exact⟨t,h.h.nox,q⟩
theorem al2{f:Addr}{oc:Value}{od an:Option Addr}{osl:Array (Option Value)}{dV kV doc pm cdv ct:Value}{ds:List Value}
  (a:PySem.W.findIn K (.ref C) m=some (some (.ref f))) (i:PySem.W.isFn K (.ref f)=true) (l:K.lookup f=some ⟨oc,od,.func (PySem.W.fnOf m qual (aaW st) (aaJ st) (aaC st) dV kV doc pm an cdv ct),osl⟩)
  (c:PySem.W.codeIn K cdv qual=true) (k:PySem.W.keepIn K (.ref f)=true)
  (hb:Binds K (PySem.W.fnOf m qual (aaW st) (aaJ st) (aaC st) dV kV doc pm an cdv ct) ps []) (hv:Vals dvs ds) (hd:Binds K (PySem.W.fnOf m qual (aaW st) (aaJ st) (aaC st) dV kV doc pm an cdv ct) ps ds):FnMD K C m qual st ps dvs:=
 ⟨⟨f,_,ds,⟨⟨oc,od,dV,kV,doc,pm,an,cdv,ct,osl,rfl,l,c⟩,k⟩,hb,hv,hd,⟨a,i,k⟩⟩⟩
end
section
variable{X:Cx}{x:Str}{C:Addr}{k k':Nat}{ps:List Str}{sp:Sp}{p pos:Pos}{dvs:List V}
theorem eMkD(c:Cd X.K X.mg x C)(D:DfMD X.prog X.w X.K X.mg X.base C "__init__" k ps sp dvs)(hr:Room k' X.A)(hk:k+1<=k':=by decide)(hg:Gl X x:=by rfl)(hdb:(x==("__debug__":Str))=false:=by decide):
  E X (.Call (.Name x p) [] [] pos) (aiT C sp dvs E0 afL):=by
 obtain⟨f,fd,ds,F,_,hv,hb,hm⟩:=D.ex
 exact⟨ak9 ⟨c.makes,hm.at_,hm.fn,c.kp⟩ F (hr.mono hk) hg c.at_ hb hv aiW hdb⟩
end
theorem ahS{H:Hp}{xo dx:Addr}{a b:HO}(nx:H xo=none)(ndx:H dx=none):Same H (upd (upd H dx a) xo b):=fun z u hb=>by
 rw[aaD (aaE hb nx),aaD (aaE hb ndx)]
 exact hb
theorem abA{H:Hp}{xo dx:Addr}{a b c:HO}(nx:H xo=none)(ndx:H dx=none):Same H (upd (upd (upd H dx a) xo b) xo c):=fun z u hb=>by
 rw[aaD (aaE hb nx)]
 exact ahS nx ndx z u hb
theorem akI{H:Hp}{xo dx:Addr}{a b c d:HO}(nx:H xo=none)(ndx:H dx=none):Same H (upd (upd (upd (upd H dx a) xo b) xo c) xo d):=fun z u hb=>by
 rw[aaD (aaE hb nx)]
 exact abA nx ndx z u hb
end L2
namespace L2
open PySem PyProof.Rows
def tb(m:Int)(i:Nat):Bool:=m.toNat.testBit i
def axG(p:Nat->Bool)(lo:Int):Nat->List Int
 |0=>[]
 |n+1=>axG p lo n++(if p n=true then [lo+(n:Int)] else [])
@[irreducible] def flt(p:Nat->Bool)(lo:Int)(n:Nat):List Int:=axG p lo n
def ac8(zs:List Int):Int:=zs.foldl (fun a z=>Builtin.bitOr a (1*2^z.toNat)) 0
theorem ah8(zs:List Int)(z:Int):ac8 (zs++[z])=Builtin.bitOr (ac8 zs) (1*2^z.toNat):=by unfold ac8;rw[List.foldl_append];rfl
end L2
namespace L2
open PySem PyProof.Rows
def Its(lo st:Int)(n:Nat):It:=⟨fun i _=>i<n,fun i H x H'=>H'=H/\x=.int (lo+i*st),fun i _=>n<=i⟩
section
variable{X:Cx}{tg:Expr}
theorem ajA{a b c:Int}(hc:0<c):0<=Builtin.Range.rangeSize a b c:=by
 unfold Builtin.Range.rangeSize
 rw[if_pos hc]
 split
 ·have:0<=(b-a-1) / c:=Int.ediv_nonneg (by omega) (by omega)
  omega
 ·exact Int.le_refl 0
end
def al1(a:Addr)(lo hi st:Int):HO:=.ext fun h=>∃t u v,h.get? a=some {cls:=.type "range",data:=.fields #[.int lo t,.int hi u,.int st v]}
section
variable{X:Cx}
theorem akL{pins:List (Addr×Obj)}{σ:St}{H:Hp}{s:Shared}{Q:VK}{lo hi st:Int}{t u v:Tok}{tk:Nat}(I:Inv X pins σ H s)(q:∀p,H p=none->Q (.ref p) (upd H p (al1 p lo hi st))):
  EP X pins σ Q (.ref s.heap.objs.size) {s with heap:=s.heap.push {cls:=.type "range",data:=.fields #[.int lo t,.int hi u,.int st v]},toks:=tk}:=by
 refine⟨.ref s.heap.objs.size,upd H s.heap.objs.size (al1 s.heap.objs.size lo hi st),I.laid (t':=tk) (fun b u e=>Heap.get?_push_of_some _ e) (Nat.le_refl _) ?_,rfl,q _ (I.hok.fresh (Nat.le_refl _))⟩
 have e:=Heap.get?_push_size s.heap (o:={cls:=.type "range",data:=.fields #[.int lo t,.int hi u,.int st v]}) rfl
 exact⟨⟨t,u,v,e⟩,⟨_,e⟩,fun h1 h2 ⟨t,u,v,z⟩ k=>⟨t,u,v,k _ z⟩⟩
theorem cRg3:Cl1 X (.type "range") (fun xs H Q=>∃i j c,xs=[.int i,.int j,.int c]/\(0<c/\c<1073741824)/\∀p,H p=none->Q (.ref p) (upd H p (al1 p i j c))):=by
 refine⟨fun pins s σ H xs us Q I r h=>?_⟩
 obtain⟨i,j,c,rfl,⟨c0,c1⟩,q⟩:=h
 cases r with
 |cons r rr=>
  cases rr with
  |cons r' rr=>
   cases rr with
   |cons r'' rr=>
    cases rr
    obtain⟨t,rfl⟩:=r
    obtain⟨t',rfl⟩:=r'
    obtain⟨t'',rfl⟩:=r''
    exact call_range_3 (Int.ne_of_gt c0) (akL I q) (.inl (PyProof.noPylong_small (by omega)))
theorem aiO{lo st:Int}:∀{n:Nat} {acc:Array Value},ItemsOf (fun i v=>∃t,v=.int (lo+i*st) t) acc n->Vals ((List.range n).map fun i:Nat=>V.int (lo+i*st)) acc.toList:=by
 intro n acc h
 obtain⟨hz,hi⟩:=h
 have key:∀(m:Nat),m<=n->Vals ((List.range m).map fun i:Nat=>V.int (lo+i*st)) (acc.toList.take m):=by
  intro m
  induction m with
  |zero=>intro _;exact .nil
  |succ m ih=>
   intro hm
   have hlt:m<acc.toList.length:=by rw[Array.length_toList];omega
   obtain⟨t,e⟩:=hi m acc.toList[m] (by rw[←Array.getElem?_toList];exact List.getElem?_eq_getElem hlt)
   rw[List.range_succ,List.map_append,List.take_succ,List.getElem?_eq_getElem hlt]
   exact (ih (by omega)).append (.cons ⟨t,e⟩ .nil)
 have:=key n (Nat.le_refl _)
 rwa [List.take_of_length_le (by rw[Array.length_toList];omega)] at this
theorem cLR(hc:X.calm=true:=by rfl):Cl1 X (.type "list") (fun xs H Q=>∃(p:Addr) (lo hi st:Int) (n:Nat),xs=[.ref p]/\H p=some (al1 p lo hi st)/\Builtin.Range.small lo hi st=true/\Builtin.Range.rangeSize lo hi st=(n:Int)/\n<=100000/\
  ∀l,H l=none->Q (.ref l) (upd H l (.lst ((List.range n).map fun i:Nat=>V.int (lo+i*st))))):=by
 refine⟨fun pins s σ H xs us Q I r h=>?_⟩
 obtain⟨p,lo,hi,st,n,rfl,hp,hs,hn,hl,q⟩:=h
 obtain⟨u,rfl,rx⟩:=abI r
 cases rx
 obtain⟨⟨t,u,v,e⟩,_,_⟩:=I.hok p _ hp
 refine call_list_range (I.ok.hd hc) e hs hn (Nat.le_trans hl (by decide)) fun h' tk acc c' kp hS hI=>?_
 have hz:((List.range n).map fun i:Nat=>V.int (lo+i*st)).length<=sizeLine:=by
  rw[List.length_map,List.length_range,sizeLine_eq]
  omega
 exact⟨.ref s.heap.objs.size,_,I.laid (t':=tk) kp (Nat.le_refl _) (show ObjOk X.prog X.w _ h' _ (.lst _) from ⟨hz,acc.toList,c',aiO hI,by simpa using hS⟩),rfl,q _ (I.hok.fresh (Nat.le_refl _))⟩
theorem aeA:Op2 X (compareOp .Is) (fun x y H Q=>y=.non/\Q (.bl (decide (x=.non))) H):=⟨aqK⟩
theorem au4:Op2 X (compareOp .IsNot) (fun x y H Q=>y=.non/\Q (.bl (!decide (x=.non))) H):=⟨al8⟩
theorem oIn:Op2 X (compareOp .In) (rIn X.K false):=⟨ajQ⟩
end
theorem Same.none{H H':Hp}{D:Addr}(s:Same H H')(h:H' D=none):H D=none:=by
 cases e:H D with
 |none=>rfl
 |some o=>exact absurd (h.symm.trans (s _ _ e)) (by simp)
def Keep(H H':Hp):Prop:=∀b o,(∀xs,o≠ .lst xs)->H b=some o->H' b=some o
theorem Same.keep{H H':Hp}(s:Same H H'):Keep H H':=fun b o _ h=>s b o h
theorem Keep.trans{H H1 H2:Hp}(a:Keep H H1)(b:Keep H1 H2):Keep H H2:=fun c o n h=>b c o n (a c o n h)
theorem ag6{H:Hp}{D:Addr}{l l':List V}(h:H D=some (.lst l)):Keep H (upd H D (.lst l')):=fun b o n hb=>by
 by_cases e:b=D
 ·subst e
  rw[h] at hb
  cases hb
  exact absurd rfl (n l)
 ·rw[aaD e]
  exact hb
theorem Keep.tup{H H':Hp}(k:Keep H H'){b:Addr}{xs:List V}(h:H b=some (.tup xs)):H' b=some (.tup xs):=k b _ (fun _ z=>nomatch z) h
theorem Keep.ins{H H':Hp}(k:Keep H H'){b C dx:Addr}{fs:List (Str×V)}(h:H b=some (.ins C dx fs)):H' b=some (.ins C dx fs):=k b _ (fun _ z=>nomatch z) h
section
variable{js:List Nat}{σ:St}{tt:TT}{te:TE}{Q:VK}{H1:Hp}
end
section
variable{X:Cx}{K:PySem.W.Frag}
end
inductive Kd where
 |int | bool | str | non | list | tuple | dict
def Kd.nm:Kd->String
 |.int=>"int" | .bool=>"bool" | .str=>"str" | .non=>"NoneType" | .list=>"list" | .tuple=>"tuple" | .dict=>"dict"
def Kd.isa:Kd->Kd->Bool
 |.int,.int=>true | .bool,.int=>true | .bool,.bool=>true | .str,.str=>true | .list,.list=>true | .tuple,.tuple=>true | .dict,.dict=>true | _,_=>false
def KindV(K:PySem.W.Frag)(H:Hp):V->Kd->Prop
 |.int _,k=>k=.int
 |.bl _,k=>k=.bool
 |.str _,k=>k=.str
 |.non,k=>k=.non
 |.ref a,k=>(k=.list/\∃xs,SqL K H a xs)∨(k=.tuple/\∃xs,SqT K H a xs)∨(k=.dict/\∃kvs,H a=some (.dK kvs))
 |_,_=>False
theorem cIs{X:Cx}:Cl1 X (.builtin "isinstance") (fun xs H Q=>∃(v:V) (n k:Kd),xs=[v,.ty n.nm]/\n.nm≠"NoneType"/\KindV X.K H v k/\Q (.bl (Kd.isa k n)) H):=by
 refine⟨fun pins s σ H xs us Q I r h=>?_⟩
 obtain⟨v,n,k,rfl,hn,hk,q⟩:=h
 obtain⟨u,w',rfl,r1,r2⟩:=ahO r
 cases r2
 have fin:∀tk,EP X pins σ Q (.bool (Kd.isa k n)) {s with toks:=tk}:=fun tk=>⟨.bl _,H,I.tok _,rfl,q⟩
 have fin0:EP X pins σ Q (.bool (Kd.isa k n)) s:=⟨.bl _,H,I,rfl,q⟩
 cases v with
 |int i=>
  obtain⟨t,rfl⟩:=r1
  cases (show k=Kd.int from hk)
  cases n with
  |int=>exact PySem.IsiPair.int_int fin0
  |bool=>exact PySem.IsiPair.int_bool (fin _)
  |str=>exact PySem.IsiPair.int_str (fin _)
  |list=>exact PySem.IsiPair.int_list (fin _)
  |tuple=>exact PySem.IsiPair.int_tuple (fin _)
  |dict=>exact PySem.IsiPair.int_dict (fin _)
  |non=>exact absurd rfl hn
 |bl b=>
  cases r1
  cases (show k=Kd.bool from hk)
  cases n with
  |int=>exact PySem.IsiPair.bool_int fin0
  |bool=>exact PySem.IsiPair.bool_bool fin0
  |str=>exact PySem.IsiPair.bool_str (fin _)
  |list=>exact PySem.IsiPair.bool_list (fin _)
  |tuple=>exact PySem.IsiPair.bool_tuple (fin _)
  |dict=>exact PySem.IsiPair.bool_dict (fin _)
  |non=>exact absurd rfl hn
 |str x=>
  obtain⟨t,rfl⟩:=r1
  cases (show k=Kd.str from hk)
  cases n with
  |int=>exact PySem.IsiPair.str_int (fin _)
  |bool=>exact PySem.IsiPair.str_bool (fin _)
  |str=>exact PySem.IsiPair.str_str fin0
  |list=>exact PySem.IsiPair.str_list (fin _)
  |tuple=>exact PySem.IsiPair.str_tuple (fin _)
  |dict=>exact PySem.IsiPair.str_dict (fin _)
  |non=>exact absurd rfl hn
 |non=>
  cases r1
  cases (show k=Kd.non from hk)
  cases n with
  |int=>exact PySem.IsiPair.NoneType_int (fin _)
  |bool=>exact PySem.IsiPair.NoneType_bool (fin _)
  |str=>exact PySem.IsiPair.NoneType_str (fin _)
  |list=>exact PySem.IsiPair.NoneType_list (fin _)
  |tuple=>exact PySem.IsiPair.NoneType_tuple (fin _)
  |dict=>exact PySem.IsiPair.NoneType_dict (fin _)
  |non=>exact absurd rfl hn
 |ref a=>
  cases r1
  rcases hk with ⟨rfl,ys,hq⟩ | ⟨rfl,ys,hq⟩ | ⟨rfl,kvs,hq⟩
  ·obtain⟨its,rv,pl,_⟩:=I.list hq
   obtain⟨o,ho,hc,_⟩:=pl.isList
   cases n with
   |int=>exact PySem.IsiPair.list_int ho hc (fin _)
   |bool=>exact PySem.IsiPair.list_bool ho hc (fin _)
   |str=>exact PySem.IsiPair.list_str ho hc (fin _)
   |list=>exact PySem.IsiPair.list_list ho hc fin0
   |tuple=>exact PySem.IsiPair.list_tuple ho hc (fin _)
   |dict=>exact PySem.IsiPair.list_dict ho hc (fin _)
   |non=>exact absurd rfl hn
  ·obtain⟨its,rv,⟨o,ho,hc,_⟩,_⟩:=I.tuple hq
   cases n with
   |int=>exact PySem.IsiPair.tuple_int ho hc (fin _)
   |bool=>exact PySem.IsiPair.tuple_bool ho hc (fin _)
   |str=>exact PySem.IsiPair.tuple_str ho hc (fin _)
   |list=>exact PySem.IsiPair.tuple_list ho hc (fin _)
   |tuple=>exact PySem.IsiPair.tuple_tuple ho hc fin0
   |dict=>exact PySem.IsiPair.tuple_dict ho hc (fin _)
   |non=>exact absurd rfl hn
  ·obtain⟨_,_,_,_,o,_,_,ho,ex,_⟩:=I.hok a _ hq
   cases n with
   |int=>exact PySem.IsiPair.dict_int ho ex.1 (fin _)
   |bool=>exact PySem.IsiPair.dict_bool ho ex.1 (fin _)
   |str=>exact PySem.IsiPair.dict_str ho ex.1 (fin _)
   |list=>exact PySem.IsiPair.dict_list ho ex.1 (fin _)
   |tuple=>exact PySem.IsiPair.dict_tuple ho ex.1 (fin _)
   |dict=>exact PySem.IsiPair.dict_dict ho ex.1 fin0
   |non=>exact absurd rfl hn
 |byt b=>exact False.elim hk
 |flt b=>exact False.elim hk
 |ty n=>exact False.elim hk
end L2
namespace L2
open PySem PySem.Spec PyProof.Rows PySem.Builtin PySem.Builtin.Str
abbrev Tx(l:List Nat):Str:=⟨l.toArray⟩
theorem Tx_inj{a b:List Nat}:Tx a=Tx b↔a=b:=⟨fun h=>by
 have:(Tx a).cps.toList=(Tx b).cps.toList:=by rw[h]
 simpa using this,fun h=>by rw[h]⟩
theorem ayH(x:Str):Tx x.cps.toList=x:=by cases x;simp
theorem aaT(a:List Nat):(Tx a).length=a.length:=by simp[Str.length]
def Itx(x:Str):It:=⟨fun i _=>i<x.cps.size,fun i H v H'=>H'=H/\∃c,x.cps[i]? =some c/\v=.str ⟨#[c]⟩,fun i _=>i=x.cps.size⟩
theorem ajH{P:Program}{w:World}{K:PySem.W.Frag}{tg:Expr}(x:Str)(t:Tok)(it:Addr):Turn P w K tg (Itx x) [it] it (fun i h=>h.IsStrIter it "str_ascii_iterator" x t i) where
 mem:=by simp
 obj:=fun i h st b hb=>by
  have e:b=it:=by simpa using hb
  subst e
  obtain⟨o,e,c,d⟩:=st
  exact⟨o,e,fun v z=>by rw[d] at z;cases z⟩
 keep:=fun i h h' st k=>by
  obtain⟨o,e,r⟩:=st
  exact⟨o,k it (by simp) o e,r⟩
 item:=by
  intro X hP hw hK hc i pins s σ H E I hf st hg
  subst hP hw hK
  obtain⟨f0,f1,f2,f3,f4,f5⟩:=hf it (by simp)
  have hg:i<x.cps.size:=hg
  refine wpAny_pyNext_ascii_item st (c:=x.cps[i]) (by simp[hg]) fun h' st' sb=>?_
  have I1:Inv X pins σ H {s with heap:=h',toks:=s.toks+1}:=I.turned (fun b o hb e=>sb.extBut b o hb e) f0 f1 f3 f4 f5
  obtain⟨o,e,c,d⟩:=id st'
  exact⟨_,rfl,ahA (s:={s with heap:=h',toks:=s.toks+1}) e c d (by decide) ⟨.str ⟨#[x.cps[i]]⟩,H,I1,⟨_,rfl⟩,⟨rfl,x.cps[i],by simp[hg],rfl⟩,st',fun b hb=>(hf b hb).1⟩⟩
 done:=by
  intro X hP hw hK hc i pins s σ H E I hf st hg
  subst hP hw hK
  obtain⟨f0,f1,f2,f3,f4,f5⟩:=hf it (by simp)
  have hg:i=x.cps.size:=hg
  exact wpAny_pyNext_ascii_end (I.ok.hd hc) st (by simp[hg]) fun h' eb=>⟨rfl,I.turned (t':=s.toks) (fun b o hb e=>eb b o hb e) f0 f1 f3 f4 f5⟩
 self:=fun _ _ _ _ _ st h=>wpAny_pyIter_striter_ascii st h
theorem ajS{P:Program}{w:World}{K:PySem.W.Frag}{tg:Expr}(x:Str)(t:Tok)(it:Addr):Turn P w K tg (Itx x) [it] it (fun i h=>h.IsStrIter it "str_iterator" x t i) where
 mem:=by simp
 obj:=fun i h st b hb=>by
  have e:b=it:=by simpa using hb
  subst e
  obtain⟨o,e,c,d⟩:=st
  exact⟨o,e,fun v z=>by rw[d] at z;cases z⟩
 keep:=fun i h h' st k=>by
  obtain⟨o,e,r⟩:=st
  exact⟨o,k it (by simp) o e,r⟩
 item:=by
  intro X hP hw hK hc i pins s σ H E I hf st hg
  subst hP hw hK
  obtain⟨f0,f1,f2,f3,f4,f5⟩:=hf it (by simp)
  have hg:i<x.cps.size:=hg
  refine wpAny_pyNext_wide_item st (c:=x.cps[i]) (by simp[hg]) fun h' st' sb=>?_
  have I1:Inv X pins σ H {s with heap:=h',toks:=s.toks+1}:=I.turned (fun b o hb e=>sb.extBut b o hb e) f0 f1 f3 f4 f5
  obtain⟨o,e,c,d⟩:=id st'
  exact⟨_,rfl,ahA (s:={s with heap:=h',toks:=s.toks+1}) e c d (by decide) ⟨.str ⟨#[x.cps[i]]⟩,H,I1,⟨_,rfl⟩,⟨rfl,x.cps[i],by simp[hg],rfl⟩,st',fun b hb=>(hf b hb).1⟩⟩
 done:=by
  intro X hP hw hK hc i pins s σ H E I hf st hg
  subst hP hw hK
  obtain⟨f0,f1,f2,f3,f4,f5⟩:=hf it (by simp)
  have hg:i=x.cps.size:=hg
  exact wpAny_pyNext_wide_end (I.ok.hd hc) st (by simp[hg]) fun h' eb=>⟨rfl,I.turned (t':=s.toks) (fun b o hb e=>eb b o hb e) f0 f1 f3 f4 f5⟩
 self:=fun _ _ _ _ _ st h=>wpAny_pyIter_striter_wide st h
section
variable{X:Cx}{tg:Expr}
def iTxt(tl:TE):TI:=fun σ H R=>tl σ H fun x H1=>∃z,x=.str z/\R (Itx z) H1
theorem iX{l:Expr}{tl:TE}(hl:E X l tl):Il X tg l (iTxt tl):=by
 refine⟨fun pins s σ H R I h=>?_⟩
 refine thn (hl.h pins s σ H _ I h) fun u s1 ⟨x,H1,I1,r1,q1⟩=>?_
 obtain⟨z,rfl,q⟩:=q1
 obtain⟨t,rfl⟩:=r1
 have fp:∀b∈[s1.heap.objs.size],abP X pins H1 b:=fun b hb=>by
  have e:b=s1.heap.objs.size:=by simpa using hb
  subst e
  exact I1.fpOk (Nat.le_refl _) (I1.hok.fresh (Nat.le_refl _))
 cases ha:z.cps.all (·<128)
 ·exact wpAny_pyIter_wide ha ⟨s1.heap.objs.size,[s1.heap.objs.size],_,_,H1,rfl,I1.kept (t':=s1.toks) fun b o e=>Heap.get?_push_of_some _ e,ajS z t _,⟨_,Heap.get?_push_size _ rfl,rfl,rfl⟩,fp,q⟩
 ·exact wpAny_pyIter_ascii ha ⟨s1.heap.objs.size,[s1.heap.objs.size],_,_,H1,rfl,I1.kept (t':=s1.toks) fun b o e=>Heap.get?_push_of_some _ e,ajH z t _,⟨_,Heap.get?_push_size _ rfl,rfl,rfl⟩,fp,q⟩
end
section
variable{js:List Nat}{σ:St}{tt:TT}{te:TE}{Q:VK}{H1:Hp}
theorem akH{xs:List Nat}(R:Nat->List V->Prop)(hn:xs.length<=sizeLine)(h0:R 0 [])
  (hs:∀(i:Nat) (c:Nat) (l:List V) (D:Addr) (H2:Hp) (E:V->Hp->Prop) (F:Hp->Prop),xs[i]? =some c->R i l->H1 D=none->Same H1 H2->H2 D=some (.lst l)->(∀y H5,Same H2 H5->R (i+1) (l++[y])->E y H5)->(∀H4,Same H2 H4->R (i+1) l->F H4)->
   tt (some (.str (Tx [c]))::aaR js σ) H2 fun b H4=>if b=true then te (some (.str (Tx [c]))::aaR js σ) H4 E else F H4)
  (hd:∀(D:Addr) (H2:Hp) (l:List V),R xs.length l->H1 D=none->Same H1 H2->H2 D=some (.lst l)->Q (.ref D) H2):aj1 (Itx (Tx xs)) js σ tt te Q H1:=by
 intro D hD
 have hz:(Tx xs).cps.size=xs.length:=by simp
 refine⟨fun i m H2=>m=xs.length-i/\i<=xs.length/\Same H1 H2/\∃l,H2 D=some (.lst l)/\l.length<=i/\R i l,⟨xs.length,by simp,Nat.zero_le _,aaB hD _,[],aaA,Nat.le_refl _,h0⟩,?_⟩
 rintro i m H2 ⟨rfl,hi,s2,l,h2,hll,hR⟩
 by_cases hlt:i<xs.length
 ·refine .inr ⟨show i<(Tx xs).cps.size by rw[hz];exact hlt,fun v H3 y=>?_⟩
  obtain⟨e,c,ec,ev⟩:=y
  subst e ev
  refine hs i c l D _ _ _ (by simpa using ec) hR hD s2 h2 (fun z H5 s5 r5=>?_) (fun H4 s4 r4=>?_)
  ·refine⟨l,s5 _ _ h2,Nat.lt_of_le_of_lt hll (Nat.lt_of_lt_of_le hlt hn),xs.length-(i+1),by omega,rfl,hlt,fun b o hb=>?_,l++[z],aaA,by rw[List.length_append,List.length_singleton];omega,r5⟩
   rw[aaD (aaE hb hD)]
   exact s5 _ _ (s2 _ _ hb)
  ·exact⟨xs.length-(i+1),by omega,rfl,hlt,s2.trans s4,l,s4 _ _ h2,by omega,r4⟩
 ·have e:i=xs.length:=by omega
  subst e
  exact .inl ⟨show xs.length=(Tx xs).cps.size by rw[hz],hd D H2 l hR hD s2 h2⟩
end
section
variable{X:Cx}
theorem ahZ{prog:Program}{w:World}{A:Around}{its:Array Value}{bs:List Bool}(r:Vals (bs.map V.bl) its.toList):TruthOf prog w A (fun i v=>its[i]? =some v) (fun i=>bs.getD i false):=by
 intro i v s Q E hv hq
 have hv':its.toList[i]? =some v:=by rw[Array.getElem?_toList];exact hv
 have hi:i<bs.length:=by
  have h1:=r.length
  rw[List.length_map] at h1
  rcases Nat.lt_or_ge i its.toList.length with z | z
  ·omega
  ·rw[List.getElem?_eq_none z] at hv';cases hv'
 obtain⟨u,hu,ru⟩:=r.get (i:=i) (x:=V.bl bs[i]) (by rw[List.getElem?_map,List.getElem?_eq_getElem hi];rfl)
 rw[hv'] at hu
 cases hu
 cases ru
 have e:bs.getD i false=bs[i]:=by simp[List.getD,List.getElem?_eq_getElem hi]
 have hq:Q (bs.getD i false) s:=hq
 rw[e] at hq
 exact wpAny_truthy_bool hq
theorem ajU(bs:List Bool):(List.range bs.length).all (fun i=>bs.getD i false)=bs.all id:=by
 rw[Bool.eq_iff_iff,List.all_eq_true,List.all_eq_true]
 refine⟨fun h b hb=>?_,fun h i hi=>?_⟩
 ·obtain⟨i,hi,e⟩:=List.getElem_of_mem hb
  have:=h i (List.mem_range.mpr hi)
  rw[show bs.getD i false=bs[i] by simp[List.getD,List.getElem?_eq_getElem hi],e] at this
  exact this
 ·have hi:=List.mem_range.mp hi
  rw[show bs.getD i false=bs[i] by simp[List.getD,List.getElem?_eq_getElem hi]]
  exact h _ (List.getElem_mem hi)
theorem cAll(hc:X.calm=true:=by rfl):Cl1 X (.builtin "all") (fun xs H Q=>∃(p:Addr) (bs:List Bool),xs=[.ref p]/\SqL X.K H p (bs.map V.bl)/\Q (.bl (bs.all id)) H):=by
 refine⟨fun pins s σ H xs us Q I r h=>?_⟩
 obtain⟨p,bs,rfl,hq,q⟩:=h
 obtain⟨u,rfl,r1⟩:=abI r
 cases r1
 obtain⟨its,rv,pl,hz⟩:=I.list hq
 have hne:p≠s.heap.objs.size:=by
  obtain⟨o,ho,_⟩:=pl.isList
  exact Nat.ne_of_lt (Heap.lt_size ho)
 refine call_all_walk (wpAny_pyIter_list pl.isList ⟨s.heap.objs.size,[s.heap.objs.size,p],[s.heap.objs.size],its.toArray.size,(fun i v=>its.toArray[i]? =some v),(fun i h=>h.IsListIter s.heap.objs.size p i/\h.IsList p its.toArray),(fun i=>bs.getD i false),rfl,Walks.list (prog:=X.prog) (w:=X.w) (A:=X.A.in1) (I.ok.hd hc) _ p hne its.toArray,⟨⟨_,Heap.get?_push_size _ rfl,rfl,rfl⟩,pl.isList.push _⟩,ahZ (by simpa using rv),fun h' tk hk=>?_⟩)
 have hl:=rv.length
 rw[List.length_map] at hl
 have e:its.toArray.size=bs.length:=by rw[List.size_toArray];omega
 rw[e,ajU]
 exact⟨.bl _,H,I.kept fun b o eb=>hk b o (by simpa using Nat.ne_of_lt (Heap.lt_size eb)) (Heap.get?_push_of_some _ eb),rfl,q⟩
end
end L2
namespace L2
open PySem PySem.Spec PyProof.Rows PySem.Builtin PySem.Builtin.Str
def spl(c:Nat):List Nat->List (List Nat)
 |[]=>[[]]
 |x::r=>if x=c then []::spl c r else match spl c r with
  |h::t=>(x::h)::t
  |[]=>[[x]]
def aaN(c:Nat):List (List Nat)->List Nat
 |[]=>[]
 |[p]=>p
 |p::r=>p++c::aaN c r
theorem aqV(c:Nat):∀l,spl c l≠[]
 |[]=>by simp[spl]
 |x::r=>by
  unfold spl
  split
  ·simp
  ·split<;>simp
theorem ab2(c:Nat):∀(p:List Nat),c∉p->spl c p=[p]
 |[],_=>rfl
 |x::r,h=>by
  have h1:¬x=c:=fun e=>h (by simp[e])
  have h2:=ab2 c r fun e=>h (by simp[e])
  unfold spl
  rw[if_neg h1,h2]
theorem agF(c:Nat):∀(p r:List Nat),c∉p->spl c (p++c::r)=p::spl c r
 |[],r,_=>by
  show spl c (c::r)=_
  unfold spl
  rw[if_pos rfl]
  cases r<;>rfl
 |x::q,r,h=>by
  have h1:¬x=c:=fun e=>h (by simp[e])
  have h2:=agF c q r fun e=>h (by simp[e])
  show spl c (x::(q++c::r))=_
  rw[spl,if_neg h1,h2]
theorem aeT(c:Nat):∀(ps:List (List Nat)),ps≠[]->(∀p∈ps,c∉p)->spl c (aaN c ps)=ps
 |[],h,_=>absurd rfl h
 |[p],_,h=>ab2 c p (h p (by simp))
 |p::q::r,_,h=>by
  show spl c (p++c::aaN c (q::r))=_
  rw[agF c p _ (h p (by simp)),aeT c (q::r) (by simp) fun z hz=>h z (List.mem_cons_of_mem _ hz)]
theorem ag3(c:Nat):∀ps:List Str,(Str.join (Tx [c]) ps).cps.toList=aaN c (ps.map (·.cps.toList))
 |[]=>rfl
 |[p]=>rfl
 |p::q::r=>by
  have ih:=ag3 c (q::r)
  show (p++Tx [c]++Str.join (Tx [c]) (q::r)).cps.toList=p.cps.toList++c::aaN c ((q::r).map (·.cps.toList))
  rw[←ih]
  show ((p.cps++ #[c])++(Str.join (Tx [c]) (q::r)).cps).toList=_
  simp
theorem akV(x y:Str)(h:Txt.split x y=[]):False:=by
 unfold Txt.split at h
 split at h
 ·cases h
 ·split at h
  ·cases h
  ·have e:=congrArg List.length h
   rw[length_partsBetween] at e
   simp at e
theorem akM(l:List Nat)(c:Nat):(Txt.split (Tx l) (Tx [c])).map (·.cps.toList)=spl c l:=by
 have h1:=StrLaws.join_split (Tx l) (Tx [c])
 have h2:=StrLaws.split_free (Tx l) c
 have h3:=ag3 c (Txt.split (Tx l) (Tx [c]))
 rw[h1] at h3
 have e:aaN c ((Txt.split (Tx l) (Tx [c])).map (·.cps.toList))=l:=by rw[←h3]
 rw[←aeT c ((Txt.split (Tx l) (Tx [c])).map (·.cps.toList)) (fun z=>akV _ _ (List.map_eq_nil_iff.mp z)) ?_,e]
 intro p hp
 obtain⟨z,hz,rfl⟩:=List.mem_map.mp hp
 exact h2 z hz
theorem ajX(l:List Nat)(c:Nat):Txt.split (Tx l) (Tx [c])=(spl c l).map Tx:=by
 rw[←akM,List.map_map]
 have:∀ps:List Str,ps=ps.map ((fun w:List Nat=>Tx w) ∘ fun x=>x.cps.toList):=fun ps=>by
  induction ps with
  |nil=>rfl
  |cons a r ih=>rw[List.map_cons,←ih];simp
 exact this _
theorem af2:∀l:List (Str×Tok),Vals (l.map fun p=>V.str p.1) (strValues l)
 |[]=>.nil
 |p::r=>.cons ⟨p.2,rfl⟩ (af2 r)
section
variable{prog:Program}{w:World}{A:Around}{E:Value->Shared->Prop}{s:Shared}{x y:Str}{t u:Tok}{Q:Value->Shared->Prop}
theorem ah9(hy:(y.length==0)=false)(hsz:x.length+2<=sizeLine)
  (h:∀l k,l.map (·.1)=Txt.split x y->Q (.ref s.heap.objs.size) {s with heap:=s.heap.push {cls:=.type "list",data:=.seq (strValues l).toArray},toks:=k}):
  wpAny (model prog w) A (call (.builtin "str.split") [.str x t,.str y u]) Q E s:=by
 have hn:(partsBetween x (occurrences x y 0 x.length (x.length+1)) y.length).length<=sizeLine:=by
  have e1:=StrLaws.occ_length_le x y 0 x.length (x.length+1)
  rw[length_partsBetween];omega
 cases h1:(decide (x.length<y.length)||decide (strKind x<strKind y))
 ·cases hf:(occurrences x y 0 x.length (x.length+1)).isEmpty
  ·refine call_meets F.slot_str_split (typeIs_str _ _ _) F.entry_str_split (F.args_str_split_2 _ _) (meets_str_split_sep x y t u h1 hy hf (by omega) hn) ?_
   show wants Q E _ {s with toks:=_,heap:=s.heap.push {cls:=.type "list",data:=.seq (strsFrom s.toks (partsBetween x (occurrences x y 0 x.length (x.length+1)) y.length)).toArray} }
   rw[strsFrom_eq]
   exact h (numbered s.toks _) _ ((numbered_texts _ _).trans ((if_neg (ne_true_of_eq_false h1)).trans (if_neg (ne_true_of_eq_false hf))).symm)
  ·exact call_meets F.slot_str_split (typeIs_str _ _ _) F.entry_str_split (F.args_str_split_2 _ _) (meets_str_split_not_found x y t u h1 hy hf)
    (h [(x,t)] s.toks ((if_neg (ne_true_of_eq_false h1)).trans (if_pos hf)).symm)
 ·exact call_meets F.slot_str_split (typeIs_str _ _ _) F.entry_str_split (F.args_str_split_2 _ _) (meets_str_split_cannot_occur x y t u h1)
   (h [(x,t)] s.toks (if_pos h1).symm)
end
theorem ac9(c:Nat):∀l,(spl c l).length<=l.length+1
 |[]=>by simp[spl]
 |x::r=>by
  have ih:=ac9 c r
  unfold spl
  split
  ·simp;omega
  ·split
   ·rename_i e;rw[e] at ih;simp at ih ⊢;omega
   ·simp
section
variable{X:Cx}
def aj9:V->List V->Hp->VK->Prop:=fun x vs H Q=>∃(l:List Nat) (c:Nat),x=.str (Tx l)/\vs=[.str (Tx [c])]/\l.length+2<=sizeLine/\∀p,H p=none->Q (.ref p) (upd H p (.lst ((spl c l).map fun q=>V.str (Tx q))))
theorem akO:MtR X "str.split" aj9:=by
 intro pins s σ H x xs v us Q I rx rv h
 obtain⟨l,c,rfl,rfl,hz,q⟩:=h
 obtain⟨u,rfl,t',rfl⟩:=abI rv
 obtain⟨t,rfl⟩:=rx
 refine ah9 (by rfl) (by rw[aaT];exact hz) fun ps k e=>?_
 have e2:ps.map (fun p=>V.str p.1)=(spl c l).map fun q=>V.str (Tx q):=by
  have:=congrArg (List.map V.str) e
  rw[ajX,List.map_map,List.map_map] at this
  exact this
 have hl:((spl c l).map fun q=>V.str (Tx q)).length<=sizeLine:=by
  have:=ac9 c l
  rw[List.length_map]
  omega
 refine⟨.ref s.heap.objs.size,upd H s.heap.objs.size (.lst ((spl c l).map fun q=>V.str (Tx q))),I.laid (t':=k) (fun b u e=>Heap.get?_push_of_some _ e) (Nat.le_refl _) ?_,rfl,q _ (I.hok.fresh (Nat.le_refl _))⟩
 exact⟨hl,strValues ps,0,by rw[←e2];exact af2 ps,Heap.get?_push_size _ rfl⟩
theorem al0{o e:Expr}{to te:TE}{apos cpos:Pos}(ho:E X o to)(he:E X e te)(hbase:attributeBase o "split" X.env (eval o X.env)=eval o X.env:=by rfl)
  (hfew:((backTo cpos (starEach [e] X.env)).all (fun x=> !x.1)&&(backToKw cpos (keywordEach [] X.env)).all (fun x=>x.1.isSome)&&decide (([e]:List Expr).length+([]:List Keyword).length+(if ([]:List Keyword).isEmpty then 0 else 1)<30))=true:=by rfl)
  (hline:(apos.endLine==cpos.line)=true:=by rfl) (hs:starEach [e] X.env=(false,eval e X.env)::starEach [] X.env:=by rfl) (hplain:(backTo cpos (starEach [] X.env)).any (·.1)=false:=by rfl):
  E X (.Call (.Attribute o "split" apos) [e] [] cpos) (tBM X.K "str" aj9 to (ad0 te afL)):=
 ⟨ahK PySem.F.plainAttrs_str PySem.F.slot_str_split PySem.F.type_str_split akO ho.h (abF he.h abW hs) hbase hfew hline hs hplain⟩
theorem am1:Op2 X (compareOp .In) (fun x y H Q=>∃(c:Nat) (l:List Nat),x=.str (Tx [c])/\y=.str (Tx l)/\Q (.bl (decide (c∈l))) H):=by
 refine⟨fun pins s σ H x y v u Q I rx ry h=>?_⟩
 obtain⟨c,l,rfl,rfl,q⟩:=h
 refine ajI pins s σ H _ _ v u Q I rx ry ⟨_,_,rfl,rfl,?_⟩
 rw[show (!(occurrences (Tx l) (Tx [c]) 0 (Tx l).length 1).isEmpty)=decide (c∈(Tx l).cps.toList) from StrLaws.found_one (Tx l) c]
 exact q
theorem anB:Cl1 X (.builtin "len") (fun xs H Q=>∃l:List Nat,xs=[.str (Tx l)]/\l.length<=sizeLine/\Q (.int l.length) H):=by
 refine⟨fun pins s σ H xs us Q I r h=>?_⟩
 obtain⟨l,rfl,hz,q⟩:=h
 refine agN pins s σ H _ us Q I r ⟨Tx l,rfl,by rw[aaT];exact hz,?_⟩
 rw[aaT]
 exact q
theorem awK:Op2 X (binaryOp .Add) (fun x y H Q=>∃a b:List Nat,x=.str (Tx a)/\y=.str (Tx b)/\a.length+b.length<=sizeLine/\Q (.str (Tx (a++b))) H):=by
 refine⟨fun pins s σ H x y v u Q I rx ry h=>?_⟩
 obtain⟨a,b,rfl,rfl,hz,q⟩:=h
 refine aiK pins s σ H _ _ v u Q I rx ry ⟨_,_,rfl,rfl,by rw[aaT,aaT];exact hz,?_⟩
 have e:Tx a++Tx b=Tx (a++b):=by show Str.mk _=Str.mk _;simp
 rw[e]
 exact q
theorem xX:Ixs X (fun x y H Q=>∃(l:List Nat) (i:Int) (c:Nat),x=.str (Tx l)/\y=.int i/\l.length<=sizeLine/\atI l i=some c/\Q (.str (Tx [c])) H):=by
 refine⟨fun value slice pins s σ H x y v u Q I rx ry h hs=>?_⟩
 obtain⟨l,i,c,rfl,rfl,hz,ha,q⟩:=h
 exact apX value slice pins s σ H _ _ v u Q I rx ry ⟨Tx l,i,c,rfl,rfl,by rw[aaT];exact hz,by simpa using ha,q⟩ hs
end
end L2
namespace L2
open PySem PySem.Spec PyProof.Rows PySem.Builtin PySem.Builtin.Str
section
variable{X:Cx}{pins:List (Addr×Obj)}{σ:St}{H:Hp}{s:Shared}{h':Heap}
theorem Inv.turnT{ch:List Addr}{T:Addr}{o:HO}{t':Nat}(I:Inv X pins σ H s)(k:∀b u,b∉ch->s.heap.get? b=some u->h'.get? b=some u)(hch:∀b∈ch,abP X pins H b)(hT:s.heap.objs.size<=T)(new:ObjOk X.prog X.w (upd H T o) h' T o):
  Inv X pins σ (upd H T o) {s with heap:=h',toks:=t'}:=by
 have hn:=I.hok.fresh hT
 have nit:∀b u,H b=some u->b∉ch:=fun b u e z=>by rw[(hch b z).1] at e;cases e
 refine I.step (g':=s.gens) (d':=s.drawn) (ch:=ch) (fun b hb=>?_) (fun b u _ _ hc e _=>k b u hc e) (fun b u _ _ hc e _=>⟨u.slots,k b u hc e⟩) (fun b u _ e n=>?_)
  (fun b u hc e=>⟨u,k b u hc e⟩) (fun b xs e=>by rw[aaD (aaE e hn)];exact e) (fun b u xs e=>by rw[aaD (aaE e hn)];exact e) (fun b ps e=>⟨#[],by rw[aaD (aaE e hn),e];simp⟩) (fun m hm=>?_) (fun b u e=>?_) I.bare
 ·obtain⟨f0,f1,f2,f3,f4,f5⟩:=hch b hb
  exact⟨f3,f1,f4,f5⟩
 ·rw[aaD (Nat.ne_of_lt (Nat.lt_of_lt_of_le (Heap.lt_size e) hT))]
  exact n
 ·obtain⟨ob,es,ep,ho,r⟩:=hm
  exact⟨ob,es,ep,k _ ob (fun z=>(hch _ z).2.1 rfl) ho,r⟩
 ·by_cases hb:b=T
  ·subst hb;rw[aaA] at e;cases e;exact new
  ·rw[aaD hb] at e
   refine (I.hok b u e).stay (fun c v hc q=>k c v ?_ q) (fun c q=>by rw[aaD (aaE q hn)];exact q) fun c xs q=>by rw[aaD (aaE q hn)];exact q
   rcases hc with z | z
   ·rw[z];exact nit b u e
   ·exact nit c _ z
theorem Inv.turnN{ch:List Addr}{t':Nat}(I:Inv X pins σ H s)(k:∀b u,b∉ch->s.heap.get? b=some u->h'.get? b=some u)(hch:∀b∈ch,abP X pins H b):Inv X pins σ H {s with heap:=h',toks:=t'}:=by
 have nit:∀b u,H b=some u->b∉ch:=fun b u e z=>by rw[(hch b z).1] at e;cases e
 refine I.step (g':=s.gens) (d':=s.drawn) (ch:=ch) (fun b hb=>?_) (fun b u _ _ hc e _=>k b u hc e) (fun b u _ _ hc e _=>⟨u.slots,k b u hc e⟩) (fun b u _ e n=>n)
  (fun b u hc e=>⟨u,k b u hc e⟩) (fun b xs e=>e) (fun b u xs e=>e) (fun b ps e=>⟨#[],by rw[e];simp⟩) (fun m hm=>?_) (fun b u e=>?_) I.bare
 ·obtain⟨f0,f1,f2,f3,f4,f5⟩:=hch b hb
  exact⟨f3,f1,f4,f5⟩
 ·obtain⟨ob,es,ep,ho,r⟩:=hm
  exact⟨ob,es,ep,k _ ob (fun z=>(hch _ z).2.1 rfl) ho,r⟩
 ·refine (I.hok b u e).stay (fun c v hc q=>k c v ?_ q) (fun c q=>q) fun c xs q=>q
  rcases hc with z | z
  ·rw[z];exact nit b u e
  ·exact nit c _ z
end
def Ite(K:PySem.W.Frag)(a:Addr):It:=
 ⟨fun i H=>∃xs x,SqL K H a xs/\xs[i]? =some x,fun i H v H'=>∃T,v=.ref T/\H T=none/\∀xs,SqL K H a xs->∃x,xs[i]? =some x/\H'=upd H T (.tup [.int i,x]),fun i H=>∃xs,SqL K H a xs/\xs.length=i⟩
theorem ajL{P:Program}{w:World}{K:PySem.W.Frag}{es:List Expr}{kk:Nat}{pos:Pos}(a e it:Addr)(hne:e≠it):Turn P w K (.Tuple es kk pos) (Ite K a) [e,it] e (fun i h=>(∃old,IsEnum h e it i old)/\h.IsListIter it a i) where
 mem:=by simp
 obj:=fun i h st b hb=>by
  obtain⟨⟨old,he⟩,o,e1,c,d⟩:=st
  rcases List.mem_cons.mp hb with z | z
  ·subst z
   exact⟨_,he,fun v q=>by
    have q':Data.fields _=Data.cell v:=q
    cases q'⟩
  ·have z:b=it:=by simpa using z
   subst z
   exact⟨o,e1,fun v q=>by rw[d] at q;cases q⟩
 keep:=fun i h h' st k=>by
  obtain⟨⟨old,he⟩,hit⟩:=st
  exact⟨⟨old,k e (by simp) _ he⟩,hit.at fun o q=>k it (by simp) o q⟩
 item:=by
  intro X hP hw hK hc i pins s σ H E I hf st hg
  subst hP hw hK
  obtain⟨xs,x,hq,hx⟩:=hg
  obtain⟨⟨old,he⟩,hit⟩:=st
  obtain⟨its,rv,p,hz⟩:=I.list hq
  obtain⟨u,hu,ru⟩:=rv.get hx
  refine wpAny_pyNext_enum_item he hit p.isList (x:=u) (by simpa using hu) hne fun h1 ho hit1 hT hsz hk=>?_
  refine⟨_,rfl,wpAny_letOwnedTupleGo_enum ho fun h2 he2 sb=>?_⟩
  have ele:e<s.heap.objs.size:=Heap.lt_size he
  have k2:∀b ob,b∉[e,it]->s.heap.get? b=some ob->h2.get? b=some ob:=fun b ob hb q=>by
   have n1:b≠e:=fun z=>hb (by simp[z])
   have n2:b≠it:=fun z=>hb (by simp[z])
   exact (sb.2 b n1).trans (hk b ob n1 n2 q)
  have hTn:s.heap.objs.size≠e:=Nat.ne_of_gt ele
  have hT2:h2.get? s.heap.objs.size=some {cls:=.type "tuple",data:=.seq #[.int i s.toks,u]}:=(sb.2 _ hTn).trans hT
  have hn:=I.hok.fresh (Nat.le_refl s.heap.objs.size)
  have I2:Inv X pins σ (upd H s.heap.objs.size (.tup [.int i,x])) {s with heap:=h2,toks:=s.toks+1}:=I.turnT k2 hf (Nat.le_refl _) ⟨by show 2<=sizeLine;decide,[.int i s.toks,u],.cons ⟨_,rfl⟩ (.cons ru .nil),⟨_,hT2,rfl,_,rfl⟩⟩
  refine⟨.ref s.heap.objs.size,_,I2,rfl,⟨s.heap.objs.size,rfl,hn,fun ys hy=>⟨x,by rw[I.list_inj hy hq];exact hx,rfl⟩⟩,⟨⟨_,by simpa using he2⟩,hit1.at fun o q=>(sb.2 it (Ne.symm hne)).trans q⟩,fun b hb=>?_⟩
  have hblt:b<s.heap.objs.size:=by
   rcases List.mem_cons.mp hb with z | z
   ·rw[z];exact ele
   ·have z:b=it:=by simpa using z
    obtain⟨o,q,_⟩:=hit
    rw[z];exact Heap.lt_size q
  rw[aaD (Nat.ne_of_lt hblt)]
  exact (hf b hb).1
 done:=by
  intro X hP hw hK hc i pins s σ H E I hf st hg
  subst hP hw hK
  obtain⟨xs,hq,hx⟩:=hg
  obtain⟨⟨old,he⟩,hit⟩:=st
  obtain⟨its,rv,p,hz⟩:=I.list hq
  have hl:=rv.length
  refine wpAny_pyNext_enum_end (I.ok.hd hc) he hit p.isList (by simp;omega) fun h' hk=>⟨rfl,?_⟩
  exact I.turnN (ch:=[e,it]) (t':=s.toks) (fun b ob hb q=>hk b ob (fun z=>hb (by simp[z])) q) hf
 self:=fun _ _ _ _ _ st h=>by
  obtain⟨⟨old,he⟩,_⟩:=st
  exact wpAny_pyIter_enum he h
section
variable{X:Cx}{es:List Expr}{kk:Nat}{tpos:Pos}
def iEnu(K:PySem.W.Frag)(tl:TE):TI:=fun σ H R=>tl σ H fun x H1=>∃a,x=.ref a/\(∃xs,SqL K H1 a xs)/\R (Ite K a) H1
theorem ajO:bootBuiltins "enumerate"=some (.type "enumerate"):=by decide +kernel
theorem iE{l:Expr}{tl:TE}{p pos:Pos}(hm:X.mg "enumerate"=none)(hl:E X l tl)(hg:Gl X "enumerate":=by rfl)(hs:starEach [l] X.env=[(false,eval l X.env)]:=by rfl):
  Il X (.Tuple es kk tpos) (.Call (.Name "enumerate" p) [l] [] pos) (iEnu X.K tl):=by
 refine⟨fun pins s σ H R I h=>?_⟩
 have hA:PA X [l] (ad0 tl afL):=abF hl.h abW hs
 refine Call_ (ae5 I hg hm ajO (PyProof.Rows.callWith_type1 (thn (hA pos pins s σ H (fun vs H1=>match vs with | [x]=>∃a,x=.ref a/\(∃xs,SqL X.K H1 a xs)/\R (Ite X.K a) H1 | _=>False) I ?_) fun us s1 ⟨vs,H1,I1,r1,q1⟩=>?_) hs rfl))
 ·exact h
 match vs,q1,r1 with
 |[x],q1,r1=>?_
 obtain⟨a,rfl,⟨xs,hq⟩,q⟩:=q1
 obtain⟨u,rfl,rx⟩:=abI r1
 cases rx
 obtain⟨its,rv,pl,hz⟩:=I1.list hq
 refine call_enumerate_list pl.isList fun h' he hit hsz hk=>?_
 refine wpAny_pyIter_enum he ?_
 have I2:Inv X pins σ H1 {s1 with heap:=h'}:=I1.kept (t':=s1.toks) hk
 have hne:s1.heap.objs.size+1≠s1.heap.objs.size:=Nat.ne_of_gt (Nat.lt_succ_self _)
 refine⟨s1.heap.objs.size+1,[s1.heap.objs.size+1,s1.heap.objs.size],_,_,H1,rfl,I2,ajL a _ _ hne,⟨⟨_,he⟩,hit⟩,fun b hb=>?_,q⟩
 have hb2:s1.heap.objs.size<=b:=by
  rcases List.mem_cons.mp hb with z | z
  ·rw[z];exact Nat.le_succ _
  ·have z:b=s1.heap.objs.size:=by simpa using z
   rw[z];exact Nat.le_refl _
 exact I1.fpOk hb2 (I1.hok.fresh hb2)
end
theorem ahP{K:PySem.W.Frag}{a:Addr}{xs:List V}{g:TG}{tb:TS}{D:Ends}{σ:St}{H:Hp}(Pv:Nat->St->Hp->Prop)(h0:Pv 0 σ H)(hl:∀i σ H,i<=xs.length->Pv i σ H->SqL K H a xs)
  (hs:∀i x σ H T,xs[i]? =some x->Pv i σ H->H T=none->g (.ref T) σ (upd H T (.tup [.int i,x])) fun σ2 H2=>tb {D with nx:=Pv (i+1),ct:=Pv (i+1),bk:=D.nx} σ2 H2) (hd:∀σ H,Pv xs.length σ H->D.nx σ H):
  ∃W:Nat->Nat->St->Hp->Prop,(∃m,W 0 m σ H)/\∀i m σ H,W i m σ H->
   ((Ite K a).stop i H/\D.nx σ H)∨((Ite K a).go i H/\∃N:St->Hp->Prop,(∀σ' H',N σ' H'->∃m',m'<m/\W (i+1) m' σ' H')/\∀x H',(Ite K a).yld i H x H'->g x σ H' fun σ2 H2=>tb {D with nx:=N,ct:=N,bk:=D.nx} σ2 H2):=by
 refine⟨fun i m σ H=>m=xs.length-i/\i<=xs.length/\Pv i σ H,⟨xs.length,by simp,Nat.zero_le _,h0⟩,?_⟩
 rintro i m σ H ⟨rfl,hi,p⟩
 have hq:=hl i σ H hi p
 by_cases hlt:i<xs.length
 ·refine .inr ⟨⟨xs,xs[i],hq,by simp[hlt]⟩,Pv (i+1),fun σ' H' p'=>⟨xs.length-(i+1),by omega,rfl,hlt,p'⟩,fun x H' y=>?_⟩
  obtain⟨T,rfl,hT,hy⟩:=y
  obtain⟨x,hx,rfl⟩:=hy xs hq
  exact hs i x σ H T hx p hT
 ·have e:i=xs.length:=by omega
  subst e
  exact .inl ⟨⟨xs,hq,rfl⟩,hd σ H p⟩
def num(m:Nat):List Nat:=(Nat.toDigits 10 m).map Char.toNat
section
variable{X:Cx}
theorem at8:Cl1 X (.type "int") (fun xs H Q=>∃l:List Nat,xs=[.str (Tx l)]/\PySem.NumText.AllDigits l/\l≠[]/\l.length<=640/\Q (.int ((PySem.NumText.digitsVal l:Nat):Int)) H):=by
 refine⟨fun pins s σ H xs us Q I r h=>?_⟩
 obtain⟨l,rfl,h1,h2,h3,q⟩:=h
 obtain⟨u,rfl,t,rfl⟩:=abI r
 refine PySem.W.KIN.call_text (PySem.intText_digits (x:=Tx l) (by simpa using h1) (by simpa using h2) (by rw[aaT];omega)) (by rw[aaT];exact h3) ?_
 exact⟨.int _,H,I.tok _,⟨_,rfl⟩,by simpa using q⟩
end
end L2
namespace L2
open PySem PySem.Spec PyProof.Rows PySem.Builtin PySem.Builtin.Str
theorem ifT{b:Bool}{A B:Prop}(e:b=true)(h:A):if b=true then A else B:=by rw[if_pos e];exact h
theorem ifF{b:Bool}{A B:Prop}(e:b=false)(h:B):if b=true then A else B:=by rw[if_neg (by rw[e];exact Bool.false_ne_true)];exact h
theorem if2{b:Bool}{A B:Prop}(h1:b=true->A)(h2:b=false->B):if b=true then A else B:=by
 cases b
 ·exact ifF rfl (h2 rfl)
 ·exact ifT rfl (h1 rfl)
theorem aj4(a b:List Nat):decide (V.str (Tx a)=V.str (Tx b))=decide (a=b):=decide_eq_decide.mpr ⟨fun h=>Tx_inj.mp (V.str.inj h),fun h=>by rw[h]⟩
section
variable{X:Cx}{pos:Pos}
theorem eSx{z:Str}{j}(l:List Nat)(h:z=Tx l:=by decide +kernel):E X (.Constant (.str z) j pos) (tC (.str (Tx l))):=by
 subst h
 exact⟨aqZ⟩
end
def ac6(c:Nat):Bool:=decide (48<=c)&&decide (c<=57)
def as7:List Nat:=[48,49,50,51,52,53,54,55,56,57]
theorem alJ(c:Nat):decide (c∈as7)=ac6 c:=by
 unfold as7 ac6
 rw[Bool.eq_iff_iff,decide_eq_true_eq,Bool.and_eq_true,decide_eq_true_eq,decide_eq_true_eq]
 simp
 omega
def ahM(l:List Nat):Bool:= !decide (l=[])&&l.all ac6
def isW(l:List Nat):Bool:=ahM l&&(decide (l=[48])|| !decide (l.headD 0=48))
def dv(l:List Nat):Int:=((PySem.NumText.digitsVal l:Nat):Int)
def aaK(lo hi:Int)(l:List Nat):Option Int:=if isW l=true then (if lo<=dv l/\dv l<=hi then some (dv l) else none) else none
def oV:Option Int->V
 |none=>.non
 |some n=>.int n
def adY(es:List (Option Int)):Option (Int×Int):=match es with
 |[some a]=>some (a,a)
 |[some a,some b]=>if b<a then none else some (a,b)
 |_=>none
def aaQ(lo hi:Int)(l:List Nat):Option (Int×Int):=if l=[42] then some (lo,hi) else adY ((spl 45 l).map (aaK lo hi))
@[irreducible] def aeG(a b s:Int):List Int:=(List.range (Builtin.Range.rangeSize a (b+1) s).toNat).map fun i:Nat=>a+(i:Int)*s
theorem aeO(a b s:Int):aeG a b s=(List.range (Builtin.Range.rangeSize a (b+1) s).toNat).map fun i:Nat=>a+(i:Int)*s:=by rw[aeG]
def ae2(a b s:Int):Int:=ac8 (aeG a b s)
def aa2(lo hi:Int)(r s:List Nat):Option Int:=
 match aaQ lo hi r,aaK 1 99 s with
 |some (a,b),some st=>some (ae2 a (if isW r=true then hi else b) st)
 |_,_=>none
def aaH(lo hi:Int)(l:List Nat):Option Int:=
 match spl 47 l with
 |[r,s]=>aa2 lo hi r s
 |_=>match aaQ lo hi l with
  |some (a,b)=>some (ae2 a b 1)
  |none=>none
theorem ah5{l:List Nat}(h:isW l=true):PySem.NumText.AllDigits l/\l≠[]:=by
 unfold isW ahM at h
 rw[Bool.and_eq_true,Bool.and_eq_true] at h
 refine⟨fun c hc=>?_,fun e=>?_⟩
 ·have:=List.all_eq_true.mp h.1.2 c hc
  unfold ac6 at this
  rw[Bool.and_eq_true] at this
  exact⟨of_decide_eq_true this.1,of_decide_eq_true this.2⟩
 ·rw[decide_eq_true e] at h
  exact absurd h.1.1 (by decide)
theorem aeN{a b s:Int}(hs:0<s):Builtin.Range.rangeSize a (b+1) s=if a<=b then (b-a) / s+1 else 0:=by
 unfold Builtin.Range.rangeSize
 rw[if_pos hs]
 by_cases c:a<=b
 ·rw[if_pos c,if_pos (by omega),show b+1-a-1=b-a by omega]
 ·rw[if_neg c,if_neg (by omega)]
theorem agX{a b s z:Int}(hs:0<s):z∈aeG a b s↔a<=z/\z<=b/\(z-a)%s=0:=by
 rw[aeO,List.mem_map,aeN hs]
 refine⟨fun ⟨i,hi,e⟩=>?_,fun ⟨h1,h2,h3⟩=>?_⟩
 ·subst e
  by_cases c:a<=b
  ·rw[if_pos c,List.mem_range] at hi
   have hq:(i:Int)<=(b-a) / s:=by
    have:0<=(b-a) / s:=Int.ediv_nonneg (by omega) (by omega)
    omega
   have hm:(i:Int)*s<=(b-a) / s*s:=Int.mul_le_mul_of_nonneg_right hq (by omega)
   have hd:(b-a) / s*s<=b-a:=Int.ediv_mul_le _ (by omega)
   have h0:0<=(i:Int)*s:=Int.mul_nonneg (by omega) (by omega)
   refine⟨by omega,by omega,?_⟩
   rw[show a+(i:Int)*s-a=(i:Int)*s by omega]
   exact Int.mul_emod_left _ _
  ·rw[if_neg c,List.mem_range] at hi
   exact absurd hi (by simp)
 ·rw[if_pos (by omega)]
  have hd:s*((z-a) / s)+(z-a)%s=z-a:=Int.mul_ediv_add_emod _ _
  rw[h3,Int.add_zero] at hd
  have h0:0<=(z-a) / s:=Int.ediv_nonneg (by omega) (by omega)
  have hle:(z-a) / s<=(b-a) / s:=Int.ediv_le_ediv hs (by omega)
  refine⟨((z-a) / s).toNat,List.mem_range.mpr (by omega),?_⟩
  rw[Int.toNat_of_nonneg h0,Int.mul_comm]
  omega
theorem ai3{a b s:Int}(h0:0<=a)(h1:b<=1000)(hs:0<s):(Builtin.Range.rangeSize a (b+1) s).toNat<=1001/\Builtin.Range.rangeSize a (b+1) s=((Builtin.Range.rangeSize a (b+1) s).toNat:Int):=by
 have hz:=ajA (a:=a) (b:=b+1) hs
 refine⟨?_,by omega⟩
 rw[aeN hs]
 split
 ·have:(b-a) / s<=b-a:=Int.ediv_le_self _ (by omega)
  omega
 ·decide
theorem akE{a b s:Int}(h0:0<=a)(ha:a<=1000)(h1: -1<=b)(hb:b<=1000)(hs:0<s)(hs2:s<=1000):Builtin.Range.small a (b+1) s=true:=by
 have hl:=ai3 h0 hb hs
 have hz:=ajA (a:=a) (b:=b+1) hs
 unfold Builtin.Range.small
 simp only[Builtin.Range.rangeFitsLong,Bool.and_eq_true,Bool.or_eq_true,decide_eq_true_eq,beq_iff_eq]
 refine⟨⟨⟨⟨?_,?_⟩,?_⟩,?_⟩,.inr ?_⟩
 ·exact⟨by omega,by omega⟩
 ·exact⟨by omega,by omega⟩
 ·exact⟨by omega,by omega⟩
 ·exact⟨by omega,by omega⟩
 ·rw[if_pos hs]
  simp only[Bool.and_eq_true,decide_eq_true_eq]
  exact⟨by omega,by omega⟩
end L2
namespace L2
open PySem PySem.Spec PyProof.Rows PySem.Builtin PySem.Builtin.Str
theorem ahV{lo hi a:Int}{l:List Nat}(h:aaK lo hi l=some a):lo<=a/\a<=hi:=by
 unfold aaK at h
 split at h
 ·split at h
  ·rename_i c
   have:=Option.some.inj h
   omega
  ·cases h
 ·cases h
theorem aeU{lo hi a b:Int}{l:List Nat}(hle:lo<=hi)(h:aaQ lo hi l=some (a,b)):(lo<=a/\a<=hi)/\lo<=b/\b<=hi:=by
 unfold aaQ at h
 split at h
 ·cases h;omega
 ·have key:∀es:List (Option Int),(∀e∈es,∀x,e=some x->lo<=x/\x<=hi)->adY es=some (a,b)->(lo<=a/\a<=hi)/\lo<=b/\b<=hi:=by
   intro es hb h
   match es,hb,h with
   |[some x],hb,h=>
    have h:some (x,x)=some (a,b):=h
    cases h
    have:=hb _ (by simp) a rfl
    exact⟨this,this⟩
   |[some x,some y],hb,h=>
    have h:(if y<x then none else some (x,y))=some (a,b):=h
    split at h
    ·cases h
    ·cases h
     exact⟨hb (some a) (by simp) a rfl,hb (some b) (by simp) b rfl⟩
   |[],_,h=>cases h
   |[none],_,h=>cases h
   |[none,y],_,h=>cases h
   |[some x,none],_,h=>cases h
   |x::y::u::r,_,h=>cases x<;>cases y<;>cases h
  refine key _ (fun e he x hx=>?_) h
  obtain⟨w,_,rfl⟩:=List.mem_map.mp he
  exact ahV hx
theorem aiA:∀n:Nat,n<100->isW (num n)=true/\dv (num n)=(n:Int)/\((num n).all fun c=>ac6 c)=true/\(num n).length<=2:=by decide +kernel
theorem aa1{n c:Nat}(h:n<100)(hc:ac6 c=false):c∉num n:=fun hm=>by
 have:=List.all_eq_true.mp (aiA n h).2.2.1 c hm
 rw[hc] at this
 cases this
theorem ar8{n:Nat}(h:n<100):num n≠[42]:=fun e=>by
 have:=aa1 h (c:=42) (by decide)
 rw[e] at this
 exact this (by simp)
theorem adG{n:Nat}{lo hi:Int}(h:n<100)(h1:lo<=n)(h2:(n:Int)<=hi):aaK lo hi (num n)=some (n:Int):=by
 obtain⟨a,b,_⟩:=aiA n h
 unfold aaK
 rw[if_pos a,b,if_pos ⟨h1,h2⟩]
theorem amB{n:Nat}{lo hi:Int}(h:n<100)(h1:lo<=n)(h2:(n:Int)<=hi):aaQ lo hi (num n)=some ((n:Int),(n:Int)):=by
 unfold aaQ
 rw[if_neg (ar8 h),ab2 45 _ (aa1 h (by decide))]
 show adY [aaK lo hi (num n)]=_
 rw[adG h h1 h2]
 rfl
theorem alP{n m:Nat}{lo hi:Int}(h:n<100)(h':m<100)(h1:lo<=n)(h2:n<=m)(h3:(m:Int)<=hi):aaQ lo hi (num n++45::num m)=some ((n:Int),(m:Int)):=by
 unfold aaQ
 rw[if_neg (fun e=>by (have:45∈num n++45::num m:=(by simp));rw[e] at this;simp at this),agF 45 _ _ (aa1 h (by decide)),ab2 45 _ (aa1 h' (by decide))]
 show adY [aaK lo hi (num n),aaK lo hi (num m)]=_
 rw[adG h h1 (by omega),adG h' (by omega) h3]
 show (if (m:Int)<n then none else some ((n:Int),(m:Int)))=_
 rw[if_neg (by omega)]
theorem ahI{lo hi a b:Int}{r:List Nat}(hf:47∉r)(h:aaQ lo hi r=some (a,b)):aaH lo hi r=some (ae2 a b 1):=by
 unfold aaH
 rw[ab2 47 r hf,h]
end L2
namespace L2
open PySem PySem.Spec PyProof.Rows PySem.Builtin PySem.Builtin.Str
theorem ahB:∀{ws:List (List Nat)} {vs:List Value},Vals (ws.map fun q=>V.str (Tx q)) vs->StrsAre vs (ws.map Tx)
 |[],[],_=>.nil
 |[],_::_,h=>nomatch h
 |_::_,[],h=>nomatch h
 |w::r,v::vs,.cons h t=>by
  obtain⟨k,rfl⟩:=h
  exact .cons (Tx w) k (ahB t)
theorem amD(c:Nat)(ws:List (List Nat)):Txt.join (Tx [c]) (ws.map Tx)=Tx (aaN c ws):=by
 have e1:Txt.join (Tx [c]) (ws.map Tx)=Str.join (Tx [c]) (ws.map Tx):=StrLaws.glued_eq_join _ _
 have e2:=ag3 c (ws.map Tx)
 rw[List.map_map] at e2
 have e3:ws.map ((fun x:Str=>x.cps.toList) ∘ Tx)=ws:=by
  have:∀l:List (List Nat),l.map ((fun x:Str=>x.cps.toList) ∘ Tx)=l:=fun l=>by
   induction l with
   |nil=>rfl
   |cons a r ih=>rw[List.map_cons,ih];simp
  exact this ws
 rw[e3] at e2
 rw[e1,←ayH (Str.join (Tx [c]) (ws.map Tx)),e2]
theorem af0(c:Nat):∀ws:List (List Nat),(ws.map (·.length)).sum+ws.length=(aaN c ws).length+(if ws=[] then 0 else 1)
 |[]=>rfl
 |[p]=>by simp[aaN]
 |p::q::r=>by
  have ih:=af0 c (q::r)
  rw[if_neg (by simp)] at ih ⊢
  simp only[List.map_cons,List.sum_cons,List.length_cons,aaN,List.length_append] at ih ⊢
  omega
section
variable{X:Cx}
def am6(K:PySem.W.Frag):V->List V->Hp->VK->Prop:=fun x vs H Q=>∃(c:Nat) (p:Addr) (ws:List (List Nat)),x=.str (Tx [c])/\vs=[.ref p]/\SqL K H p (ws.map fun q=>V.str (Tx q))/\(aaN c ws).length<=1000000/\Q (.str (Tx (aaN c ws))) H
theorem alV:MtR X "str.join" (am6 X.K):=by
 intro pins s σ H x xs v us Q I rx rv h
 obtain⟨c,p,ws,rfl,rfl,hq,hz,q⟩:=h
 obtain⟨u,rfl,r1⟩:=abI rv
 cases r1
 obtain⟨t,rfl⟩:=rx
 obtain⟨its,rv2,pl,hz2⟩:=I.list hq
 have hj:=af0 c ws
 have hw:((ws.map Tx).map (·.length)).sum+(ws.map Tx).length<=1048576:=by
  rw[List.map_map,List.length_map]
  have e:ws.map ((fun x:Str=>x.length) ∘ Tx)=ws.map (·.length):=List.map_congr_left fun a _=>aaT a
  rw[e]
  split at hj<;>omega
 refine join_listW pl.isList (ys:=ws.map Tx) (by simpa using ahB rv2) (by rw[aaT];show 1<=16;decide) hw fun t' k=>?_
 refine⟨.str (Tx (aaN c ws)),H,I.kept (t':=k) fun _ _ e=>e,⟨t',by rw[amD]⟩,q⟩
theorem ag8{o e:Expr}{to te:TE}{apos cpos:Pos}(ho:E X o to)(he:E X e te)(hbase:attributeBase o "join" X.env (eval o X.env)=eval o X.env:=by rfl)
  (hfew:((backTo cpos (starEach [e] X.env)).all (fun x=> !x.1)&&(backToKw cpos (keywordEach [] X.env)).all (fun x=>x.1.isSome)&&decide (([e]:List Expr).length+([]:List Keyword).length+(if ([]:List Keyword).isEmpty then 0 else 1)<30))=true:=by rfl)
  (hline:(apos.endLine==cpos.line)=true:=by rfl) (hs:starEach [e] X.env=(false,eval e X.env)::starEach [] X.env:=by rfl) (hplain:(backTo cpos (starEach [] X.env)).any (·.1)=false:=by rfl):
  E X (.Call (.Attribute o "join" apos) [e] [] cpos) (tBM X.K "str" (am6 X.K) to (ad0 te afL)):=
 ⟨ahK PySem.F.plainAttrs_str PySem.F.slot_str_join PySem.F.type_str_join alV ho.h (abF he.h abW hs) hbase hfew hline hs hplain⟩
end
def ak6(J:It)(k:Nat)(js:List Nat)(g:TG)(σ:St)(tt:TT)(te:TE)(Q:VK)(H1:Hp):Prop:=∀D,H1 D=none->∃W:Nat->Nat->Hp->Prop,(∃m,W 0 m (upd H1 D (.lst [])))/\∀i m H2,W i m H2->
 (J.stop i H2/\Q (.ref D) H2)∨(J.go i H2/\∀v H3,J.yld i H2 v H3->∀τ:St,τ.length=k->g v (τ++aaR js σ) H3 fun σ2 H3'=>(∃τ':St,τ'.length=k/\σ2=τ'++aaR js σ)/\tt σ2 H3' fun b H4=>if b=true then
  te σ2 H4 fun y H5=>∃ys,H5 D=some (.lst ys)/\ys.length<sizeLine/\∃m',m'<m/\W (i+1) m' (upd H5 D (.lst (ys++[y])))
  else ∃m',m'<m/\W (i+1) m' H4)
def ak0(wi:TI)(k:Nat)(js:List Nat)(g:TG)(tt:TT)(te:TE):TE:=fun σ H Q=>wi σ H fun J H1=>ak6 J k js g σ tt te Q H1
section
variable{X:Cx}{elt iter tg:Expr}{xs:List Str}{y:Str}{py pos spos:Pos}{ifs:List Expr}{scope:Scope}{cl:List (Str×Addr)}{N':List Str}{js:List Nat}{tt:TT}{te:TE}{g:TG}{wi:TI}
theorem ahL{pins:List (Addr×Obj)}{σ:St}{H:Hp}{s s4:Shared}{fp:List Addr}{C:Addr}{m4:Str->Option Value}(hcl:Clos X scope cl)(hN:js.map (fun j=>X.N[j]?)=N'.map some)
  (hk:N'.all (fun y=>(X.env.kindOf y==some .cell)||(X.env.kindOf y==some .free))=true) (hf:N'.all (fun y=>scope.names.lookup y==some .free)=true)
  (I:Inv X pins σ H s) (hfp:∀b∈fp,abP X pins H b/\b<s.heap.objs.size) (hC:C=s.heap.objs.size) (ho:s4.os=s.os) (hg:s4.gens=s.gens) (hkeep:∀b o,s.heap.get? b=some o->s4.heap.get? b=some o) (hn:s4.heap.Ns C m4):
  Inv (aaF X (xs++N') scope cl C fp pins s H) [] (List.replicate xs.length none++aaR js σ) H s4:=by
 have hne:∀b o,s.heap.get? b=some o->b≠C:=fun b o e=>by rw[hC];exact Nat.ne_of_lt (Heap.lt_size e)
 refine⟨⟨I.ok.mod,hcl.kind,I.ok.glob,I.ok.blt,Nat.le_of_eq hC.symm,fun y z c h1 h2=>I.ok.inj y z c (hcl.sub y c h1) (hcl.sub z c h2),fun y hy=>hcl.has y (agB (fun z=>hcl.nocell _ (PySem.mem_of_lookup z) rfl) (by rw[←abQ];exact hy)),fun y c h _=>(nomatch h),I.ok.hd,I.ok.frames,.inl rfl,fun b hb=>⟨?_,fun y c e=>(hfp b hb).1.2.2.2.2.1 y c (hcl.sub y c e)⟩,
  I.bs,Nat.le_trans I.ok.bsz I.sz,fun b o e hb=>?_,fun b hb hz=>?_,I.stack,I.stkFree⟩,ho,by rw[hg];exact I.bare,Un.kept hkeep,⟨m4,hn,fun i y v h1 h2 h3=>?_⟩,fun y c e=>?_,?_,fun y c e=>I.freeC y c (hcl.sub y c e),fun p hp=>?_,I.hok.kept hkeep,?_⟩
 ·rw[hC];exact Nat.ne_of_lt (hfp b hb).2
 ·rcases (hfp b hb).1.2.2.2.1 with z | z
  ·exact I.ok.noex b o e z
  ·exact absurd (Nat.lt_of_lt_of_le (Heap.lt_size e) (Nat.le_trans I.ok.bsz z)) (Nat.lt_irrefl _)
 ·rcases List.mem_cons.mp (I.stkSub b hz) with z | z
  ·exact (hfp b hb).1.2.1 z
  ·exact (hfp b hb).1.2.2.1 z
 ·by_cases hi:i<xs.length
  ·rw[List.getElem?_append_left (by rw[List.length_replicate];exact hi),List.getElem?_replicate,if_pos hi] at h2
   exact nomatch h2
  ·obtain⟨j0,rfl⟩:∃j0,i=xs.length+j0:=⟨i-xs.length,by omega⟩
   have h1:N'[j0]? =some y:=by
    have h1:(xs++N')[xs.length+j0]? =some y:=h1
    rw[List.getElem?_append_right (Nat.le_add_right _ _),Nat.add_sub_cancel_left] at h1
    exact h1
   have h2:(aaR js σ)[j0]? =some (some v):=by rw[List.getElem?_append_right (by rw[List.length_replicate];exact Nat.le_add_right _ _),List.length_replicate,Nat.add_sub_cancel_left] at h2;exact h2
   generalize j0=i at h1 h2
   have hy:y∈N':=List.mem_of_getElem? h1
   have q:(js.map (fun j=>X.N[j]?))[i]? =some (some y):=by rw[hN,List.getElem?_map,h1];rfl
   rw[List.getElem?_map] at q
   cases ej:js[i]? with
   |none=>rw[ej] at q;cases q
   |some j=>
    rw[ej] at q
    have q:X.N[j]? =some y:=Option.some.inj q
    unfold aaR at h2
    rw[List.getElem?_map,ej] at h2
    have h2:(σ[j]?).getD none=some v:=Option.some.inj h2
    have h2:σ[j]? =some (some v):=by
     cases e:σ[j]? with
     |none=>rw[e] at h2;cases h2
     |some o=>rw[e] at h2;exact congrArg some h2
    have kk:=List.all_eq_true.mp hk y hy
    have kk:X.env.kindOf y=some .cell∨X.env.kindOf y=some .free:=by simpa using kk
    have ff:=List.all_eq_true.mp hf y hy
    have ff:scope.names.lookup y=some .free:=by simpa using ff
    obtain⟨m,_,hl⟩:=I.loc
    obtain⟨u,r,l⟩:=hl j y v q h2 (by rcases kk with z | z;exact .inr (.inl z);exact .inr (.inr z))
    refine⟨u,r,.inr ⟨ac2 ff,?_⟩⟩
    obtain⟨c,hc⟩:=hcl.has y ff
    rcases l with ⟨z,_⟩ | ⟨_,c',e',cell⟩
    ·rcases kk with k | k<;>(rw[k] at z;cases z)
    ·rw[hcl.sub y c hc] at e'
     cases e'
     exact⟨c,hc,cell.keeps hkeep⟩
 ·obtain⟨v,q⟩:=I.cell y c (hcl.sub y c e)
  exact⟨v,q.keeps hkeep⟩
 ·show H C=none
  rw[hC]
  exact I.hok.fresh (Nat.le_refl _)
 ·have hp:p∈X.pn++pins:=by
   have hp:p∈(X.pn++pins)++[]:=hp
   rwa [List.append_nil] at hp
  obtain⟨e,n,ne,nf,d⟩:=I.pin p hp
  refine⟨hkeep _ _ e,n,hne _ _ e,fun z=>?_,d⟩
  rcases List.mem_cons.mp (I.stkSub p.1 z) with z | z
  ·exact ne z
  ·exact nf z
 ·show (List.replicate xs.length none++aaR js σ).length=(xs++N').length
  rw[List.length_append,List.length_append,List.length_replicate]
  have q:=congrArg List.length hN
  rw[List.length_map,List.length_map] at q
  unfold aaR
  rw[List.length_map,q]
theorem ajD{pins:List (Addr×Obj)}{σ σ':St}{H H':Hp}{s s':Shared}{fp:List Addr}{C:Addr}(I:Inv X pins σ H s)(hfp:∀b∈fp,abP X pins H b)(J:Inv (aaF X (xs++N') scope cl C fp pins s H) [] σ' H' s'):Inv X pins σ H' s':=
 I.call' (ch:=fp) J.os J.base J.hok J.bare fun b hb=>⟨(hfp b hb).2.2.2.1,(hfp b hb).2.1,(hfp b hb).2.2.2.2.1,(hfp b hb).2.2.2.2.2⟩
theorem ahE{pins:List (Addr×Obj)}{σ:St}{H:Hp}{s:Shared}{Q:VK}{RR:Value->Addr->Result->Shared->Prop}{J:It}{fp:List Addr}{it:Addr}{tn:Nat->Heap->Prop}
  (hcl:Clos X scope cl) (hnd:(xs++N').Nodup) (hN:js.map (fun j=>X.N[j]?)=N'.map some)
  (hk:N'.all (fun y=>(X.env.kindOf y==some .cell)||(X.env.kindOf y==some .free))=true) (hf:N'.all (fun y=>scope.names.lookup y==some .free)=true) (hc:X.calm=true)
  (hg:∀(C:Addr) (ex:List Addr) (pins:List (Addr×Obj)) (s:Shared) (H:Hp),PG (aaF X (xs++N') scope cl C ex pins s H) tg g)
  (ht:∀(C:Addr) (ex:List Addr) (pins:List (Addr×Obj)) (s:Shared) (H:Hp),PF (aaF X (xs++N') scope cl C ex pins s H) ifs tt)
  (he:∀(C:Addr) (ex:List Addr) (pins:List (Addr×Obj)) (s:Shared) (H:Hp),PE (aaF X (xs++N') scope cl C ex pins s H) elt te)
  (I:Inv X pins σ H s) (T:Turn X.prog X.w X.K (tg) J fp it tn) (st:tn 0 s.heap) (hfp:∀b∈fp,abP X pins H b)
  (q:∀D,H D=none->∃W:Nat->Nat->Hp->Prop,(∃m,W 0 m (upd H D (.lst [])))/\∀i m H2,W i m H2->
   (J.stop i H2/\Q (.ref D) H2)∨(J.go i H2/\∀v H3,J.yld i H2 v H3->∀τ:St,τ.length=xs.length->g v (τ++aaR js σ) H3 fun σ2 H3'=>(∃τ':St,τ'.length=xs.length/\σ2=τ'++aaR js σ)/\tt σ2 H3' fun b H4=>if b=true then
    te σ2 H4 fun y H5=>∃ys,H5 D=some (.lst ys)/\ys.length<sizeLine/\∃m',m'<m/\W (i+1) m' (upd H5 D (.lst (ys++[y])))
    else ∃m',m'<m/\W (i+1) m' H4))
  (hRR:∀(D C:Addr) (s':Shared) (H':Hp) (m:Str->Option Value),Inv X pins σ H' s'->H' C=none->C≠X.env.locals->X.s₀.heap.objs.size<=C->(∀y c,X.env.cells.lookup y=some c->c≠C)->(∀p∈X.pn++pins,p.1≠C)->s'.heap.Ns C m->Q (.ref D) H'->RR (.ref D) C (.ok .next) s'):
  wpAny (model X.prog X.w) X.A (newList []) (fun acc s₃=>wpAny (model X.prog X.w) X.A (newFunctionEnv scope X.env.globals cl [] X.env.qual none .none (some X.env)) (fun cenv s₄=>
   codeAny (model X.prog X.w) X.A (.compStart (.ListComp elt [⟨tg,iter,ifs,0⟩] scope pos) 0 (.ref it) acc {cenv with scope:=relabel scope X.env}) (RR acc cenv.locals) s₄) X.xe s₃) X.xe s:=by
 refine wpAny_newObj_type ?_
 have hD:H s.heap.objs.size=none:=I.hok.fresh (Nat.le_refl _)
 have I3:Inv X pins σ (upd H s.heap.objs.size (.lst [])) {s with heap:=s.heap.push {cls:=.type "list",dict:=none,data:=.seq ([]:List Value).toArray} }:=I.lnew (its:=[]) (t':=s.toks) .nil (Nat.zero_le _)
 have hfp3:∀b∈fp,abP X pins (upd H s.heap.objs.size (.lst [])) b/\b<(s.heap.push {cls:=.type "list",dict:=none,data:=.seq ([]:List Value).toArray}).objs.size:=fun b hb=>by
  obtain⟨o,ho,_⟩:=T.obj 0 _ st b hb
  have hlt:=Heap.lt_size ho
  obtain⟨f0,f1⟩:=hfp b hb
  exact⟨⟨by rw[aaD (Nat.ne_of_lt hlt)];exact f0,f1⟩,by rw[Heap.size_push];exact Nat.lt_succ_of_lt hlt⟩
 have st3:tn 0 (s.heap.push {cls:=.type "list",dict:=none,data:=.seq ([]:List Value).toArray}):=T.keep _ _ _ st fun b _ o e=>Heap.get?_push_of_some _ e
 obtain⟨W,⟨m0,w0⟩,turn⟩:=q s.heap.objs.size hD
 generalize hs3:({s with heap:=s.heap.push {cls:=.type "list",dict:=none,data:=.seq ([]:List Value).toArray} }:Shared)=s3 at I3 ⊢
 have hh3:s.heap.push {cls:=.type "list",dict:=none,data:=.seq ([]:List Value).toArray}=s3.heap:=by rw[←hs3]
 rw[hh3] at hfp3 st3
 generalize s.heap.objs.size=D at I3 hfp3 w0 turn hD ⊢
 generalize upd H D (.lst [])=H3 at I3 hfp3 w0
 refine wpAny_newFunctionEnv hcl.nocell (by intro y hy;simp at hy) (fun h₁ hns₁ hsb₁=>?_) hcl.kind
 have hkeep:∀b o,s3.heap.get? b=some o->h₁.get? b=some o:=fun b o e=>hsb₁.extBut b o (Nat.ne_of_lt (Heap.lt_size e)) (Heap.get?_push_of_some _ e)
 have J4:Inv (aaF X (xs++N') scope cl s3.heap.objs.size fp pins s3 H3) [] (List.replicate xs.length none++aaR js σ) H3 {s3 with heap:=h₁,toks:=s3.toks+([]:List (Str×Value)).length}:=
  ahL hcl hN hk hf I3 hfp3 rfl rfl rfl hkeep hns₁
 have st4:tn 0 h₁:=T.keep _ _ _ st3 fun b _ o e=>hkeep b o e
 have cell':∀{s':Shared} {σ':St} {H':Hp},Inv (aaF X (xs++N') scope cl s3.heap.objs.size fp pins s3 H3) [] σ' H' s'->Q (.ref D) H'->RR (.ref D) s3.heap.objs.size (.ok .next) s':=fun {s' σ' H'} J hq=>by
  obtain⟨m,hn,_⟩:=J.loc
  refine hRR D _ s' H' m (ajD I3 (fun b hb=>(hfp3 b hb).1) J) J.free (Nat.ne_of_gt I3.lt) I3.sz (fun y c e z=>?_) (fun p hp z=>?_) hn hq
  ·obtain⟨v,k⟩:=I3.cell y c e
   exact absurd k.lt (by rw[z];exact Nat.lt_irrefl _)
  ·exact absurd (Heap.lt_size (I3.pin p hp).1) (by rw[z];exact Nat.lt_irrefl _)
 have fpX:∀{H':Hp},(∀b∈fp,H' b=none)->∀b∈fp,abP (aaF X (xs++N') scope cl s3.heap.objs.size fp pins s3 H3) [] H' b:=fun {H'} hn b hb=>by
  obtain⟨⟨f0,f1,f2,f3,f4,f5⟩,flt⟩:=hfp3 b hb
  refine⟨hn b hb,Nat.ne_of_lt flt,fun z=>?_,.inl hb,fun y c e=>f4 y c (hcl.sub y c e),fun p hp=>?_⟩
  ·rcases List.mem_cons.mp (I3.stkSub b z) with z | z
   ·exact f1 z
   ·exact f2 z
  ·have hp:p∈(X.pn++pins)++[]:=hp
   rw[List.append_nil] at hp
   exact f5 p hp
 have loop:∀s₄:Shared,s₄={s3 with heap:=h₁,toks:=s3.toks+([]:List (Str×Value)).length}->
   codeAny (model X.prog X.w) X.A (.compLoop (.ListComp elt [⟨tg,iter,ifs,0⟩] scope pos) 0 (.ref it) (.ref D) (compEnvC scope cl s3.heap.objs.size X.env)) (RR (.ref D) s3.heap.objs.size) s₄:=by
  rintro s₄ rfl
  refine aeR rfl (fun n s'=>∃i τ H',τ.length=xs.length/\Inv (aaF X (xs++N') scope cl s3.heap.objs.size fp pins s3 H3) [] (τ++aaR js σ) H' s'/\tn i s'.heap/\(∀b∈fp,H' b=none)/\W i n H') ?_ m0 ⟨0,List.replicate xs.length none,H3,List.length_replicate,J4,st4,fun b hb=>(hfp3 b hb).1.1,w0⟩
  rintro n s5 ⟨i,τ,H5,hτ,J5,st5,fr5,w5⟩
  rcases turn i n H5 w5 with ⟨stop,qn⟩ | ⟨go,step⟩
  ·refine wpAny_mono (T.done (aaF X (xs++N') scope cl s3.heap.objs.size fp pins s3 H3) rfl rfl rfl hc i [] s5 _ H5 (fun _ _=>False) J5 (fpX fr5) st5 stop) (fun r s6 ⟨hr,J6⟩=>?_) fun _ _ z=>z.elim
   subst hr
   exact cell' J6 qn
  ·refine wpAny_mono (T.item (aaF X (xs++N') scope cl s3.heap.objs.size fp pins s3 H3) rfl rfl rfl hc i [] s5 _ H5 (fun _ _=>False) J5 (fpX fr5) st5 go) (fun r s6 ⟨u,hr,h6⟩=>?_) fun _ _ z=>z.elim
   subst hr
   refine wpAny_mono h6 (fun _ s6' h6'=>?_) fun _ _ z=>z.elim
   obtain⟨v,H6,J6,r6,y6,st6,fr6⟩:=h6'
   clear h6
   have J6':=J6.pinned (fpX fr6) (T.obj _ _ st6)
   show wpAny _ _ (assign tg _ u) _ _ _
   refine wpAny_mono (hg _ _ _ _ _ _ s6' _ H6 v u _ J6' r6 (step v H6 y6 τ hτ)) (fun _ s7 h7=>?_) fun _ _ z=>z.elim
   obtain⟨_,H7,J7,⟨τ',hτ',rfl⟩,q7⟩:=h7
   have again:∀{σ8:St} {H8:Hp} {s8:Shared},Inv (aaF X (xs++N') scope cl s3.heap.objs.size fp pins s3 H3) ([]++acY fp s6'.heap) σ8 H8 s8->tn (i+1) s8.heap/\∀b∈fp,H8 b=none:=fun {σ8 H8 s8} J8=>by
    refine⟨T.keep _ _ _ st6 fun b hb o e=>(J8.pin (b,o) (List.mem_append_right _ (List.mem_append_right _ (aa4 hb e)))).1,fun b hb=>?_⟩
    obtain⟨o,e,d⟩:=T.obj _ _ st6 b hb
    exact (J8.pin (b,o) (List.mem_append_right _ (List.mem_append_right _ (aa4 hb e)))).2.1
   refine wpAny_mono (ht _ _ _ _ _ _ s7 _ H7 _ J7 q7) (fun ok s8 ⟨H8,J8,q8⟩=>?_) fun _ _ z=>z.elim
   cases ok with
   |false=>
    obtain⟨m',hm,w8⟩:=(show ∃m',m'<n/\W (i+1) m' H8 from q8)
    obtain⟨a1,a2⟩:=again J8
    exact⟨m',hm,i+1,τ',H8,hτ',J8.unpinned,a1,a2,w8⟩
   |true=>
    refine wpAny_mono (he _ _ _ _ _ _ s8 _ H8 _ J8 q8) (fun y s9 ⟨z,H9,J9,r9,ys,hys,hlen,m',hm,w9⟩=>?_) fun _ _ z=>z.elim
    refine wpAny_mono (adP (X:=aaF X (xs++N') scope cl s3.heap.objs.size fp pins s3 H3) _ s9 _ H9 (.ref D) [z] (.ref D) [y] (fun _ H10=>H10=upd H9 D (.lst (ys++[z]))) J9 rfl (.cons r9 .nil) ⟨D,ys,z,rfl,rfl,hys,hlen,rfl⟩) (fun _ s10 ⟨_,H10,J10,_,e10⟩=>?_) fun _ _ z=>z.elim
    subst e10
    obtain⟨a1,a2⟩:=again J10
    exact⟨m',hm,i+1,τ',_,hτ',J10.unpinned,a1,a2,w9⟩
 exact codeAny_compStart_list (loop _ rfl) (T.self _ 0 _ _ _ st4 (loop _ rfl))
theorem alI(hcl:Clos X scope cl)(hnd:(xs++N').Nodup)(hN:js.map (fun j=>X.N[j]?)=N'.map some)
  (hk:N'.all (fun y=>(X.env.kindOf y==some .cell)||(X.env.kindOf y==some .free))=true) (hf:N'.all (fun y=>scope.names.lookup y==some .free)=true) (hc:X.calm=true)
  (hi:PI X (tg) iter wi)
  (hg:∀(C:Addr) (ex:List Addr) (pins:List (Addr×Obj)) (s:Shared) (H:Hp),PG (aaF X (xs++N') scope cl C ex pins s H) tg g)
  (ht:∀(C:Addr) (ex:List Addr) (pins:List (Addr×Obj)) (s:Shared) (H:Hp),PF (aaF X (xs++N') scope cl C ex pins s H) ifs tt)
  (he:∀(C:Addr) (ex:List Addr) (pins:List (Addr×Obj)) (s:Shared) (H:Hp),PE (aaF X (xs++N') scope cl C ex pins s H) elt te)
  (hs:∀x,foldedSetIterable iter X.env x=pure x:=by intro _;rfl):
  PE X (.ListComp elt [⟨tg,iter,ifs,0⟩] scope pos) (ak0 wi xs.length js g tt te):=by
 intro pins s σ H Q I h
 rw[eval_ListComp]
 refine wpAny_comprehension_free (use:=none) rfl hs hcl.is hcl.kind hcl.names (thn (hi pins s σ H _ I h) fun xv s₁ h₁=>thn h₁ fun itv s₂ h₂=>?_)
 obtain⟨it,fp,tn,J,H2,rfl,I2,T,st,hfp,q⟩:=h₂
 refine ahE (RR:=fun acc C=>compPost (model X.prog X.w) X.A X.xe none (EP X pins σ Q) acc C) hcl hnd hN hk hf hc hg ht he I2 T st hfp q ?_
 intro D C s' H' m I' hC0 hCL hCs hCc hCp hn hq
 refine⟨m,hn,fun h' sb=>⟨.ref D,H',?_,rfl,hq⟩⟩
 exact I'.turned (t':=s'.toks) (fun b o hb e=>(sb.2 b hb).trans e) hC0 hCL (.inr hCs) hCc hCp
theorem aj6(xs N':List Str)(js:List Nat)(hi:Il X (tg) iter wi)
  (hg:∀(cl:List (Str×Addr)) (C:Addr) (ex:List Addr) (pins:List (Addr×Obj)) (s:Shared) (H:Hp),Gt (aaF X (xs++N') scope cl C ex pins s H) tg g)
  (ht:∀(cl:List (Str×Addr)) (C:Addr) (ex:List Addr) (pins:List (Addr×Obj)) (s:Shared) (H:Hp),Fs (aaF X (xs++N') scope cl C ex pins s H) ifs tt)
  (he:∀(cl:List (Str×Addr)) (C:Addr) (ex:List Addr) (pins:List (Addr×Obj)) (s:Shared) (H:Hp),E (aaF X (xs++N') scope cl C ex pins s H) elt te)
  (hcl:∃cl,Clos X scope cl:=by exact agZ rfl rfl rfl rfl) (hnd:(xs++N').Nodup:=by decide +kernel) (hN:js.map (fun j=>X.N[j]?)=N'.map some:=by rfl)
  (hk:N'.all (fun y=>(X.env.kindOf y==some .cell)||(X.env.kindOf y==some .free))=true:=by rfl) (hf:N'.all (fun y=>scope.names.lookup y==some .free)=true:=by rfl) (hc:X.calm=true:=by rfl)
  (hs:∀x,foldedSetIterable iter X.env x=pure x:=by intro _;rfl):E X (.ListComp elt [⟨tg,iter,ifs,0⟩] scope pos) (ak0 wi xs.length js g tt te):=by
 obtain⟨cl,hcl⟩:=hcl
 exact⟨alI hcl hnd hN hk hf hc hi.h (fun C ex pins s H=>(hg cl C ex pins s H).h) (fun C ex pins s H=>(ht cl C ex pins s H).h) (fun C ex pins s H=>(he cl C ex pins s H).h) hs⟩
end
section
variable{js:List Nat}{σ:St}{tt:TT}{te:TE}{Q:VK}{H1:Hp}
theorem ae0{K K':PySem.W.Frag}{a:Addr}{xs:List V}(R:Nat->List V->Prop)(hn:xs.length<=sizeLine)(h0:R 0 [])(hq:SqL K H1 a xs)
  (hs:∀(i:Nat) (v:V) (l:List V) (D:Addr) (H2:Hp) (E:V->Hp->Prop) (F:Hp->Prop),xs[i]? =some v->R i l->H1 D=none->Same H1 H2->H2 D=some (.lst l)->(∀y H5,Same H2 H5->R (i+1) (l++[y])->E y H5)->(∀H4,Same H2 H4->R (i+1) l->F H4)->
   ∃(p:Addr) (x y:V),v=.ref p/\SqT K' H2 p [x,y]/\tt (some x::some y::aaR js σ) H2 fun b H4=>if b=true then te (some x::some y::aaR js σ) H4 E else F H4)
  (hd:∀(D:Addr) (H2:Hp) (l:List V),R xs.length l->H1 D=none->Same H1 H2->H2 D=some (.lst l)->Q (.ref D) H2):
  ak6 (Itl K a) 2 js (al6 K' 2 (ai9 (acT 0) (ai9 (acT 1) aoK))) σ tt te Q H1:=by
 intro D hD
 refine⟨fun i m H2=>m=xs.length-i/\i<=xs.length/\Same H1 H2/\∃l,H2 D=some (.lst l)/\l.length<=i/\R i l,⟨xs.length,by simp,Nat.zero_le _,aaB hD _,[],aaA,Nat.le_refl _,h0⟩,?_⟩
 rintro i m H2 ⟨rfl,hi,s2,l,h2,hll,hR⟩
 by_cases hlt:i<xs.length
 ·refine .inr ⟨⟨xs,xs[i],s2.seq hq,by simp[hlt]⟩,fun v H3 y τ hτ=>?_⟩
  obtain⟨e,ev⟩:=y
  subst e
  have hv:=ev xs (s2.seq hq)
  obtain⟨t0,t1,rfl⟩:∃t0 t1,τ=[t0,t1]:=by
   match τ,hτ with
   |[a,b],_=>exact⟨a,b,rfl⟩
  have aux1:∀z H5,Same H3 H5->R (i+1) (l++[z])->(fun y H5=>∃ys,H5 D=some (.lst ys)/\ys.length<sizeLine/\∃m',m'<xs.length-i/\(m'=xs.length-(i+1)/\i+1<=xs.length/\Same H1 (upd H5 D (.lst (ys++[y])))/\∃l,(upd H5 D (.lst (ys++[y]))) D=some (.lst l)/\l.length<=i+1/\R (i+1) l)) z H5:=fun z H5 s5 r5=>by
   refine⟨l,s5 _ _ h2,Nat.lt_of_le_of_lt hll (Nat.lt_of_lt_of_le hlt hn),xs.length-(i+1),by omega,rfl,hlt,fun b o hb=>?_,l++[z],aaA,by rw[List.length_append,List.length_singleton];omega,r5⟩
   rw[aaD (aaE hb hD)]
   exact s5 _ _ (s2 _ _ hb)
  have aux2:∀H4,Same H3 H4->R (i+1) l->(fun H4=>∃m',m'<xs.length-i/\(m'=xs.length-(i+1)/\i+1<=xs.length/\Same H1 H4/\∃l,H4 D=some (.lst l)/\l.length<=i+1/\R (i+1) l)) H4:=fun H4 s4 r4=>⟨xs.length-(i+1),by omega,rfl,hlt,s2.trans s4,l,s4 _ _ h2,by omega,r4⟩
  obtain⟨p,x,y,rfl,hp,h⟩:=hs i v l D _ (fun y H5=>∃ys,H5 D=some (.lst ys)/\ys.length<sizeLine/\∃m',m'<xs.length-i/\(m'=xs.length-(i+1)/\i+1<=xs.length/\Same H1 (upd H5 D (.lst (ys++[y])))/\∃l,(upd H5 D (.lst (ys++[y]))) D=some (.lst l)/\l.length<=i+1/\R (i+1) l)) (fun H4=>∃m',m'<xs.length-i/\(m'=xs.length-(i+1)/\i+1<=xs.length/\Same H1 H4/\∃l,H4 D=some (.lst l)/\l.length<=i+1/\R (i+1) l)) hv hR hD s2 h2 (fun z H5 s5 r5=>aux1 z H5 s5 r5) (fun H4 s4 r4=>aux2 H4 s4 r4)
  exact⟨p,[x,y],rfl,hp,rfl,x,[y],rfl,y,[],rfl,rfl,⟨[some x,some y],rfl,rfl⟩,h⟩
 ·have e:i=xs.length:=by omega
  subst e
  exact .inl ⟨⟨xs,s2.seq hq,Nat.le_refl _⟩,hd D H2 l hR hD s2 h2⟩
end
theorem ayA{X:Cx}{pos:Pos}{K:PySem.W.Frag}{es:List Expr}{k n:Nat}{t:TGs}(h:Gts X es t)(hK:X.K=K:=by rfl)(hc:X.calm=true:=by rfl)(hn:(assignEach es X.env).length=n:=by rfl)(hst:(assignEach es X.env).findIdx? (·.1)=none:=by rfl):Gt X (.Tuple es k pos) (al6 K n t):=by
 subst hK
 exact gTu h hc hn hst
section
variable{X:Cx}
end
section
variable{X:Cx}{elt iter tg:Expr}{xs:List Str}{y:Str}{py pos spos:Pos}{ifs:List Expr}{scope:Scope}{cl:List (Str×Addr)}{N':List Str}{js:List Nat}{tt:TT}{te:TE}{g:TG}{wi:TI}
end
end L2
namespace L2
open PySem PySem.Spec PyProof.Rows PySem.SeqAt
section
variable{X:Cx}
end
def Kn(f:Obj->Prop):Prop:=∀(o:Obj) (vs:Array Value) (x:Value),o.data=.fields vs->f o->f (Obj.mapFields (·.setIfInBounds 1 x) o)
def Trc(f:Obj->Prop)(fl:Value)(B h:Heap)(e:Addr):Prop:=∃(o:Obj) (vs:Array Value) (T:Addr) (oT:Obj) (ts:Array Value),
 (h.get? e=some o/\o.data=.fields vs/\vs[1]? =some (.ref T)/\f o)/\(h.get? T=some oT/\oT.data=.fields ts/\ts[3]? =some fl)/\B.get? T=none/\T≠e
structure Fg(f:Obj->Prop)(fl:Value)(B:Heap)(l:List Env)(e:Addr)(h:Heap):Prop where
 st:B.StaysIn h
 nb:B.get? e=none
 ff:h.FunFrames B l
 tr:Trc f fl B h e
theorem af4{h:Heap}{T:Addr}{oT:Obj}{ts:Array Value}(hT:h.get? T=some oT)(hd:oT.data=.fields ts){b:Addr}{o:Obj}(e:h.get? b=some o)(n:∀vs,o.data≠ .fields vs):b≠T:=fun z=>by
 subst z
 cases hT.symm.trans e
 exact n ts hd
section
variable{M:Model}{A:Around}{E:Value->Shared->Prop}{s:Shared}{f:Obj->Prop}{B:Heap}{env:Env}{outer l:List Env}{L e:Addr}{fl:Value}{Q:Unit->Shared->Prop}
theorem ahW{o:Obj}{vs:Array Value}{head:Value}{had:Bool}(kn:Kn f)(hA:A.frames=some (env::outer))(hL:env.frame=some L)(ff:s.heap.FunFrames B (env::outer))(st:B.StaysIn s.heap)(nb:B.get? e=none)
  (he:s.heap.get? e=some o) (hd:o.data=.fields vs) (sz:1<vs.size) (ho:f o) (k:∀h',Fg f (rawInt L) B (env::outer) e h'->s.heap.UpToSlots h'->Q () {s with heap:=h'}):
  wpAny M A (do let a ←frameOf env;let pl ←entryPlaceOf L had;let b ←EntryCells.newEntry head a .none (rawInt L) .none pl;setField (.ref e) 1 b) Q E s:=by
 have out:e∉(env::outer).filterMap (·.frame):=fun z=>by
  obtain⟨_,o',q,nf⟩:=ff.mem z
  cases he.symm.trans q
  exact nf vs hd
 refine wpAny_bind (wpAny_frameOf_fun hA ff hL fun g sl=>wpAny_bind (wpAny_entryPlaceOf fun pl pok=>?_))
 unfold EntryCells.newEntry newFields
 refine wpAny_bind (wpAny_newObj_type ?_ (pok.sizeOk5 _ _ _ _ _))
 have t3:([head,Value.ref L,.none,rawInt L,.none]++(if pl.isEmpty then List.replicate 6 Value.none else pl)).toArray[3]? =some (rawInt L):=by
  rw[List.getElem?_toArray]
  rfl
 generalize ([head,Value.ref L,.none,rawInt L,.none]++(if pl.isEmpty then List.replicate 6 Value.none else pl)).toArray=ts at t3
 have e1:g.get? e=some o:=(sl.2.1 e out).trans he
 have st1:B.StaysIn g:=fun b ob q=>(sl.2.1 b fun z=>by rw[(ff.mem z).1] at q;cases q).trans (st b ob q)
 have e2:=Heap.get?_push_of_some (h:=g) {cls:=.type "traceback",data:=.fields ts} e1
 have far:g.objs.size≠e:=Nat.ne_of_gt (Heap.lt_size e1)
 have dat:=Obj.data_mapFields hd (·.setIfInBounds 1 (Value.ref g.objs.size))
 have e3:=Heap.get?_update_self (Obj.mapFields (·.setIfInBounds 1 (Value.ref g.objs.size))) e2 (Obj.isFreed_of_fields dat)
 have k1:∀b ob,b≠e->g.get? b=some ob->((g.push {cls:=.type "traceback",data:=.fields ts}).update e (Obj.mapFields (·.setIfInBounds 1 (Value.ref g.objs.size)))).get? b=some ob:=fun b ob n q=>
  (Heap.get?_update_other _ _ (Ne.symm n)).trans (Heap.get?_push_of_some _ q)
 refine wpAny_setField e2 hd sz (k _ ⟨fun b ob q=>k1 b ob (fun z=>by rw[z,nb] at q;cases q) (st1 b ob q),nb,ff.of_keeps fun b ob q n=>?_,?_⟩ fun b ob q n=>?_)
 ·obtain⟨x,q1⟩:=sl.2.2 b ob q
  exact⟨_,k1 b _ (af4 he hd q n) q1,rfl⟩
 ·exact⟨_,_,g.objs.size,_,ts,⟨e3,dat,by simp[sz],kn o vs _ hd ho⟩,⟨(Heap.get?_update_other _ _ (Ne.symm far)).trans (Heap.get?_push_size g rfl),rfl,t3⟩,st1.fresh,far⟩
 ·obtain⟨x,q1⟩:=sl.2.2 b ob q
  exact⟨x,k1 b _ (af4 he hd q n) q1⟩
theorem akT{o:Obj}{vs:Array Value}(kn:Kn f)(hA:A.frames=some (env::outer))(hL:env.frame=some L)(ff:s.heap.FunFrames B (env::outer))(st:B.StaysIn s.heap)(nb:B.get? e=none)
  (he:s.heap.get? e=some o) (hd:o.data=.fields vs) (h1:vs[1]? =some .none) (ho:f o) (k:∀h',Fg f (rawInt L) B (env::outer) e h'->s.heap.UpToSlots h'->Q () {s with heap:=h'}):wpAny M A (noteFrame (.ref e) env) Q E s:=by
 unfold noteFrame
 simp only[hL]
 refine wpAny_bind (wpAny_field he hd h1 ?_)
 rw[if_neg (by decide)]
 exact ahW kn hA hL ff st nb he hd (Array.getElem?_eq_some_iff.mp h1).1 ho k
theorem aeQ(v:Option Addr)(F:Fg f fl B l e s.heap)(k:∀h',Fg f (v.elim .none fun q=>rawInt q) B l e h'->s.heap.UpToSlots h'->Q () {s with heap:=h'}):wpAny M A (setFlight (.ref e) v) Q E s:=by
 obtain⟨o,vs,T,oT,ts,⟨he,hd,h1,ho⟩,⟨hT,dT,h3⟩,nT,ne⟩:=F.tr
 have s3:3<ts.size:=(Array.getElem?_eq_some_iff.mp h3).1
 have oth:∀b,b≠T->(s.heap.update T (Obj.mapFields (·.setIfInBounds 3 (v.elim Value.none fun q=>rawInt q)))).get? b=s.heap.get? b:=fun b n=>Heap.get?_update_other _ _ n.symm
 unfold setFlight
 refine wpAny_bind (wpAny_field he hd h1 ?_)
 rw[if_pos (by simp)]
 refine wpAny_setField hT dT s3 (k _ ⟨fun b ob q=>(oth b fun z=>by rw[z,nT] at q;cases q).trans (F.st b ob q),F.nb,F.ff.of_keeps fun b ob q n=>⟨ob,(oth b (af4 hT dT q n)).trans q,rfl⟩,?_⟩ fun b ob q n=>⟨ob.slots,(oth b (af4 hT dT q n)).trans q⟩)
 exact⟨o,vs,T,_,_,⟨(oth e ne.symm).trans he,hd,h1,ho⟩,⟨Heap.get?_update_self _ hT (Obj.isFreed_of_fields (Obj.data_mapFields dT _)),Obj.data_mapFields dT _,by simp[s3]⟩,nT,ne⟩
theorem ai5(kn:Kn f)(hA:A.frames=some (env::outer))(hL:env.frame=some L)(F:Fg f .none B (env::outer) e s.heap)(k:∀h',Fg f (rawInt L) B (env::outer) e h'->s.heap.UpToSlots h'->Q () {s with heap:=h'}):
  wpAny M A (noteFrame (.ref e) env) Q E s:=by
 obtain⟨o,vs,T,oT,ts,⟨he,hd,h1,ho⟩,⟨hT,dT,h3⟩,nT,ne⟩:=F.tr
 have oth:∀b,b≠T->(s.heap.update T (Obj.mapFields (·.setIfInBounds 3 Value.none))).get? b=s.heap.get? b:=fun b n=>Heap.get?_update_other _ _ n.symm
 unfold noteFrame
 simp only[hL]
 refine wpAny_bind (wpAny_field he hd h1 ?_)
 rw[if_pos (by simp)]
 refine wpAny_bind (wpAny_field hT dT h3 ?_)
 rw[if_neg (by simp[rawInt])]
 refine wpAny_bind (wpAny_setField hT dT (Array.getElem?_eq_some_iff.mp h3).1 ?_)
 refine ahW kn hA hL (F.ff.of_keeps fun b ob q n=>⟨ob,(oth b (af4 hT dT q n)).trans q,rfl⟩) (fun b ob q=>(oth b fun z=>by rw[z,nT] at q;cases q).trans (F.st b ob q)) F.nb ((oth e ne.symm).trans he) hd (Array.getElem?_eq_some_iff.mp h1).1 ho fun h' F' up=>k h' F' fun b ob q n=>up b ob ((oth b (af4 hT dT q n)).trans q) n
theorem Fg.out{h:Heap}(F:Fg f fl B (env::outer) e h):Fg f fl B outer e h:=⟨F.st,F.nb,F.ff.2.2,F.tr⟩
theorem aj0(kn:Kn f)(hA:A.frames=some (env::outer))(hL:env.frame=some L)(F:Fg f .none B (env::outer) e s.heap)(k:∀h',Fg f .none B outer e h'->s.heap.UpToSlots h'->Q () {s with heap:=h'}):wpAny M A (leaving env (.ref e)) Q E s:=
 wpAny_bind (ai5 kn hA hL F fun _ F1 u1=>aeQ none F1 fun h2 F2 u2=>k h2 F2.out (u1.trans u2))
theorem aiB{o:Obj}{vs:Array Value}(kn:Kn f)(hA:A.frames=some (env::outer))(hL:env.frame=some L)(ff:s.heap.FunFrames B (env::outer))(st:B.StaysIn s.heap)(nb:B.get? e=none)
  (he:s.heap.get? e=some o) (hd:o.data=.fields vs) (h1:vs[1]? =some .none) (ho:f o) (k:∀h',Fg f .none B outer e h'->s.heap.UpToSlots h'->Q () {s with heap:=h'}):wpAny M A (leaving env (.ref e)) Q E s:=
 wpAny_bind (akT kn hA hL ff st nb he hd h1 ho fun _ F1 u1=>aeQ none F1 fun h2 F2 u2=>k h2 F2.out (u1.trans u2))
end
theorem ObjOk.at{P:Program}{w:World}{H:Hp}{h:Heap}{a:Addr}{o:HO}(x:ObjOk P w H h a o):∃ob,h.get? a=some ob:=by
 induction o with
 |lst xs=>obtain⟨_,_,_,_,e⟩:=x;exact⟨_,e⟩
 |tup xs=>obtain⟨_,_,_,ob,e,_⟩:=x;exact⟨_,e⟩
 |dK kvs=>obtain⟨_,_,_,_,ob,_,_,e,_⟩:=x;exact⟨_,e⟩
 |dT kvs=>obtain⟨_,_,_,_,ob,_,_,e,_⟩:=x;exact⟨_,e⟩
 |set S n=>obtain⟨ob,_,_,_,e,_⟩:=x;exact⟨_,e⟩
 |ins C dx fs=>obtain⟨_,_,_,e,_⟩:=x;exact⟨_,e⟩
 |own y=>exact x
 |xd fs=>obtain⟨_,⟨ob,_,_,e,_⟩,_⟩:=x;exact⟨_,e⟩
 |rng lo hi=>obtain⟨_,_,_,e⟩:=x;exact⟨_,e⟩
 |frz ob u ih=>exact⟨_,x.1⟩
 |tbl ps=>exact⟨_,x⟩
 |met f y=>exact⟨_,x⟩
 |ext φ=>exact x.2.1
def Ex(C:Addr)(d:Option Addr)(b:Bool)(o:Obj):Prop:=o.cls=.ref C/\o.dict=d/\∃vs,o.data=.fields vs/\(b=true->vs[2]? =some .none)
theorem akA(C:Addr)(d:Option Addr)(b:Bool):Kn (Ex C d b):=fun o vs x hd ⟨h1,h2,ws,h3,h4⟩=>by
 cases hd.symm.trans h3
 refine⟨(Obj.cls_mapFields _ _).trans h1,?_,_,Obj.data_mapFields hd _,fun z=>?_⟩
 ·rw[←h2]
  obtain⟨c,dd,dt,sl⟩:=o
  cases hd
  rfl
 ·rw[Array.getElem?_setIfInBounds_ne (by decide)]
  exact h4 z
def wc(C:Addr):Value:=.int C 0
def cv(C:Addr):Bool->Value
 |true=>.ref C
 |false=>wc C
theorem aqN{C C':Addr}{b:Bool}(h:cv C b=.ref C'):C=C'/\b=true:=by
 cases b with
 |true=>cases h;exact⟨rfl,rfl⟩
 |false=>cases h
def Fly(g h:Heap)(H:Hp)(a C:Addr)(d:Option Addr)(b:Bool):Prop:=
 H a=none/\g.get? a=none/\∃(o:Obj) (vs:Array Value) (T:Addr) (oT:Obj) (ts:Array Value),(h.get? a=some o/\o.data=.fields vs/\vs[1]? =some (.ref T)/\Ex C d b o)/\
  (h.get? T=some oT/\oT.data=.fields ts/\ts[3]? =some .none)/\(H T=none/\g.get? T=none)/\T≠a
def CX1(P:Program)(w:World):CXT:=fun outer H s E e s'=>
 ∃a C d b H',e=.ref a/\s'.os=s.os/\AllBare s'.gens/\Un (frs outer) [] H H' s.heap s'.heap/\HOk P w H' s'.heap/\Fly s.heap s'.heap H' a C d b/\E (cv C b) d H'
theorem agS{P:Program}{w:World}{fs:List Addr}{l:List Env}{H0 H:Hp}{g h1 h2:Heap}{hid:List Addr}{a C:Addr}{d:Option Addr}{b0:Bool}(u:Un fs [] H0 H g h1)(hok:HOk P w H h1)(frf:∀b∈fs,H b=none)
  (ff:∀b∈fs,∃o,h1.get? b=some o/\∀vs,o.data≠ .fields vs) (hh:∀b∈hid,b∈fs∨(H b=none/\g.get? b=none)) (fl:Fg (Ex C d b0) .none (PySem.W.hideAll h1 hid) l a h2) (up:h1.UpToSlots h2)
  (hga:g.get? a=none) (Ha:H a=none):Un fs [] H0 H g h2/\HOk P w H h2/\Fly g h2 H a C d b0:=by
 have keep:∀b o,h1.get? b=some o->b∉hid->h2.get? b=some o:=fun b o e n=>fl.st b o (PySem.W.hideAll_get _ e n)
 have nofr:∀b o vs,b∈fs->h2.get? b=some o->o.data≠ .fields vs:=fun b o vs hb e=>by
  obtain⟨o1,e1,nf⟩:=ff b hb
  obtain⟨sl,e2⟩:=up b o1 e1 nf
  rw[e] at e2
  cases e2
  exact nf vs
 have slots:∀b o,b∈fs->h1.get? b=some o->∃sl,h2.get? b=some {o with slots:=sl}:=fun b o hb e=>by
  obtain⟨o1,e1,nf⟩:=ff b hb
  rw[e] at e1
  cases e1
  exact up b o e nf
 have nhid:∀b o,b∉fs->g.get? b=some o->b∉hid:=fun b o nb e hb=>by
  rcases hh b hb with z | ⟨_,z⟩
  ·exact nb z
  ·rw[e] at z;cases z
 have thid:∀b o,H b=some o->b∉hid:=fun b o e hb=>by
  rcases hh b hb with z | ⟨z,_⟩
  ·rw[frf b z] at e;cases e
  ·rw[e] at z;cases z
 refine⟨⟨fun b o e n hb hx=>keep b o (u.keep b o e n hb hx) (nhid b o hb e),fun b o e n hb hx=>?_,u.free,fun b o e hx=>?_,u.tups,u.frzs,u.tbls⟩,fun b ob e=>?_,Ha,hga,?_⟩
 ·obtain⟨sl,e1⟩:=u.slot b o e n hb hx
  obtain⟨sl',e2⟩:=slots b _ hb e1
  exact⟨sl',e2⟩
 ·obtain⟨o',e1⟩:=u.there b o e hx
  by_cases hb:b∈fs
  ·obtain⟨sl,e2⟩:=slots b _ hb e1
   exact⟨_,e2⟩
  ·exact⟨o',keep b o' e1 (nhid b o hb e)⟩
 ·refine (hok b ob e).stay (fun c v hc q=>keep c v q ?_) (fun _ q=>q) fun _ _ q=>q
  rcases hc with z | z
  ·rw[z];exact thid b ob e
  ·exact thid c _ z
 ·obtain⟨o,vs,T,oT,ts,ho,hT,hnT,hTe⟩:=fl.tr
  have nT:T∉fs:=fun z=>nofr T oT ts z hT.1 hT.2.1
  refine⟨o,vs,T,oT,ts,ho,hT,⟨?_,?_⟩,hTe⟩
  ·cases q:H T with
   |none=>rfl
   |some o=>
    obtain⟨ob,e⟩:=(hok T o q).at
    have:=PySem.W.hideAll_get _ e (thid T o q)
    rw[hnT] at this;cases this
  ·cases q:g.get? T with
   |none=>rfl
   |some o=>
    obtain⟨ob,e⟩:=u.there T o q (by simp)
    have:=PySem.W.hideAll_get _ e (nhid T o nT q)
    rw[hnT] at this;cases this
theorem Fly.flying{bs g h:Heap}{H:Hp}{a C:Addr}{d:Option Addr}{b:Bool}{l:List Env}(f:Fly g h H a C d b)(ff:h.FunFrames bs l):∃T,(H T=none/\g.get? T=none)/\Fg (Ex C d b) .none (PySem.W.hideAll h (frs l++[a,T])) l a h:=by
 obtain⟨_,_,o,vs,T,oT,ts,ho,hT,fT,nT⟩:=f
 exact⟨T,fT,fun b o e=>PySem.W.of_hideAll _ e,PySem.W.hideAll_none _ (by simp),PySem.W.funFrames_hide ff fun env he b hb=>List.mem_append_left _ (List.mem_filterMap.mpr ⟨env,he,hb⟩),o,vs,T,oT,ts,ho,hT,PySem.W.hideAll_none _ (by simp),nT⟩
theorem alO{bs h:Heap}{l:List Env}(ff:h.FunFrames bs l):∀b∈frs l,∃o,h.get? b=some o/\∀vs,o.data≠ .fields vs:=fun b hb=>(ff.mem hb).2
section
variable{P:Program}{w:World}{K:PySem.W.Frag}{mg:Str->Option Value}{base:Heap}{N:List Str}{qual:Str}{scope:Scope}{f:Addr}{cd:Value}{A:Around}{outer:List Env}{s0:Shared}{H0:Hp}{E:XK}
theorem af1{pins:List (Addr×Obj)}{σ:St}{H:Hp}{s:Shared}(I:Inv (abM (CX1 P w) P w K mg base N qual scope f cd A outer s0 H0 E) pins σ H s):∀b∈frs (abM (CX1 P w) P w K mg base N qual scope f cd A outer s0 H0 E).stack,b∈frs outer∨(H b=none/\s0.heap.get? b=none):=fun b hb=>by
 have hb:b∈frs (envOfC qual scope s0.heap.objs.size f cd::outer):=hb
 have q:b=s0.heap.objs.size∨b∈frs outer:=by
  obtain⟨env,he,hf⟩:=List.mem_filterMap.mp hb
  rcases List.mem_cons.mp he with rfl | he
  ·exact .inl (Option.some.inj hf).symm
  ·exact .inr (List.mem_filterMap.mpr ⟨env,he,hf⟩)
 rcases q with rfl | q
 ·exact .inr ⟨I.free,Heap.get?_none_of_le (Nat.le_refl _)⟩
 ·exact .inl q
theorem Inv.gone{X:Cx}{pins:List (Addr×Obj)}{σ:St}{H:Hp}{s:Shared}(I:Inv X pins σ H s)(hx:X.ex=[]){b:Addr}(e:s.heap.get? b=none):X.s₀.heap.get? b=none:=by
 cases q:X.s₀.heap.get? b with
 |none=>rfl
 |some o=>
  obtain⟨o',z⟩:=I.base.there b o q (by rw[hx];simp)
  rw[e] at z;cases z
theorem am9:ab5 (CX1 P w) (abM (CX1 P w) P w K mg base N qual scope f cd A outer s0 H0 E) E:=by
 intro pins σ H s e s' I h
 obtain⟨a,C,d,b,H',rfl,os,bare,un,hok,fly,q⟩:=h
 have I':Inv (abM (CX1 P w) P w K mg base N qual scope f cd A outer s0 H0 E) pins σ H' s':=I.call' os un hok bare (fun _ z=>nomatch z)
 obtain⟨T,hT,fl⟩:=fly.flying I'.stack
 refine aj0 (L:=s0.heap.objs.size) (akA C d b) I.ok.frames rfl fl fun h2 fl2 up=>?_
 obtain⟨u2,hok2,fly2⟩:=agS (fs:=frs outer) I'.base I'.hok (fun b hb=>I'.stkFree b (by
   obtain⟨env,he,hf⟩:=List.mem_filterMap.mp hb
   exact List.mem_filterMap.mpr ⟨env,List.mem_cons_of_mem _ he,hf⟩)) (alO I'.funs) (fun b hb=>by
  rcases List.mem_append.mp hb with z | z
  ·exact af1 I' b z
  ·rcases List.mem_cons.mp z with rfl | z
   ·exact .inr ⟨fly.1,I.gone rfl fly.2.1⟩
   ·obtain rfl:b=T:=by simpa using z
    exact .inr ⟨hT.1,I.gone rfl hT.2⟩) fl2 up (I.gone rfl fly.2.1) fly.1
 exact⟨a,C,d,b,H',rfl,I'.os,I'.bare,u2,hok2,fly2,q⟩
theorem aw0{pins:List (Addr×Obj)}{σ:St}{H:Hp}{s:Shared}{a C:Addr}{d:Option Addr}{b:Bool}{o:Obj}{vs:Array Value}(I:Inv (abM (CX1 P w) P w K mg base N qual scope f cd A outer s0 H0 E) pins σ H s)(Ha:H a=none)(ga:s0.heap.get? a=none)
  (ho:s.heap.get? a=some o) (hd:o.data=.fields vs) (h1:vs[1]? =some .none) (hx:Ex C d b o) (q:E (cv C b) d H):(abM (CX1 P w) P w K mg base N qual scope f cd A outer s0 H0 E).xe (.ref a) s:=by
 refine aiB (B:=PySem.W.hideAll s.heap (frs (envOfC qual scope s0.heap.objs.size f cd::outer)++[a])) (L:=s0.heap.objs.size) (akA C d b) I.ok.frames rfl (PySem.W.funFrames_hide I.stack fun env he b hb=>List.mem_append_left _ (List.mem_filterMap.mpr ⟨env,he,hb⟩)) (fun b o e=>PySem.W.of_hideAll _ e) (PySem.W.hideAll_none _ (by simp)) ho hd h1 hx fun h2 fl2 up=>?_
 obtain⟨u2,hok2,fly2⟩:=agS (fs:=frs outer) I.base I.hok (fun b hb=>I.stkFree b (by
   obtain⟨env,he,hf⟩:=List.mem_filterMap.mp hb
   exact List.mem_filterMap.mpr ⟨env,List.mem_cons_of_mem _ he,hf⟩)) (alO I.funs) (fun b hb=>by
  rcases List.mem_append.mp hb with z | z
  ·exact af1 I b z
  ·obtain rfl:b=a:=by simpa using z
   exact .inr ⟨Ha,ga⟩) fl2 up ga Ha
 exact⟨a,C,d,b,H,rfl,I.os,I.bare,u2,hok2,fly2,q⟩
end
abbrev an8:List Value:=[.type "ValueError",.type "Exception",.type "BaseException",.type "object"]
def av8(X:Cx)(E:XK):Prop:=∀(pins:List (Addr×Obj)) (σ:St) (H:Hp) (s:Shared) (a C:Addr) (d:Option Addr) (b:Bool) (o:Obj) (vs:Array Value),Inv X pins σ H s->H a=none->X.s₀.heap.get? a=none->s.heap.get? a=some o->o.data=.fields vs->vs[1]? =some .none->Ex C d b o->E (cv C b) d H->X.xe (.ref a) s
theorem Inv.newX{X:Cx}{pins:List (Addr×Obj)}{σ:St}{H:Hp}{s:Shared}{a:Addr}(I:Inv X pins σ H s)(hx:X.ex=[])(e:s.heap.get? a=none):H a=none/\X.s₀.heap.get? a=none:=by
 refine⟨?_,I.gone hx e⟩
 cases q:H a with
 |none=>rfl
 |some o=>
  obtain⟨ob,z⟩:=(I.hok a o q).at
  rw[e] at z;cases z
section
variable{X:Cx}{E:XK}{x:Str}{C:Addr}{e:Expr}{es:List Expr}{t:TA}{np cpos pos:Pos}
end
section
variable{P:Program}{w:World}{K:PySem.W.Frag}{mg:Str->Option Value}{base:Heap}{N:List Str}{qual:Str}{scope:Scope}{f:Addr}{cd:Value}{A:Around}{outer:List Env}{s0:Shared}{H0:Hp}{E:XK}
theorem alG:av8 (abM (CX1 P w) P w K mg base N qual scope f cd A outer s0 H0 E) E:=fun _ _ _ _ _ _ _ _ _ _ I h1 h2 h3 h4 h5 h6 q=>aw0 I h1 h2 h3 h4 h5 h6 q
end
structure Df1(P:Program)(w:World)(K:PySem.W.Frag)(mg:Str->Option Value)(base:Heap)(x:Str)(k:Nat)(ps:List Str)(sp:Sp):Prop where
 ex:∃(f:Addr) (fd:FuncData),FnOk P w K mg base (CX1 P w) k f fd ps sp/\Binds K fd ps []/\mg x=some (.ref f)/\PySem.W.keepIn K (.ref f)=true
section
variable{P:Program}{w:World}{K:PySem.W.Frag}{mg:Str->Option Value}{base:Heap}{x:Str}{st:Stmt}{ps N:List Str}{k:Nat}{sp:Sp}
theorem Fn.dfs1(F:Fn K mg x st ps)(S':FnScope N ps (aaC st))(len:∀vs H Q E,sp vs H Q E->vs.length=ps.length)
  (hbody:∀(f:Addr) (cdv:Value) (A:Around) (outer:List Env) (s:Shared) (H:Hp) (vs:List V) (Q:VK) (E:XK),Room k (A.deeper (envOfC x (aaC st) s.heap.objs.size f cdv))->sp vs H Q E->
   ∃t,Ss (abM (CX1 P w) P w K mg base N x (aaC st) f cdv A outer s H E) (aaJ st) t/\t {nx:=fun _ H'=>Q .non H',rt:=Q} (aa6 N vs) H):Df1 P w K mg base x (k+1) ps sp:=by
 obtain⟨f,fd,F1,hb,hm⟩:=F.ex
 have kp:=F1.kp
 obtain⟨oc,od,kV,doc,pm,an,cdv,ct,osl,rfl,lk,hcd⟩:=F1.ex
 refine⟨⟨f,_,alA lk hcd S' len fun A outer s H vs Q E hr hsp=>?_,hb,hm,kp⟩⟩
 obtain⟨t,h,q⟩:=hbody f cdv A outer s H vs Q E hr hsp
 exact⟨t,h.h,q⟩
end
def XP(X:Cx)(pins:List (Addr×Obj))(σ:St)(E:XK)(e:Value)(s':Shared):Prop:=∃s1 H1,Inv X pins σ H1 s1/\CX1 X.prog X.w X.stack H1 s1 E e s'
abbrev TX:=St->Hp->VK->XK->Prop
structure Px(X:Cx)(e:Expr)(t:TX):Prop where
 h:∀(pins:List (Addr×Obj)) (s:Shared) (σ:St) (H:Hp) (Q:VK) (E:XK),Inv X pins σ H s->t σ H Q E->wpAny (model X.prog X.w) X.A (eval e X.env) (EP X pins σ Q) (XP X pins σ E) s
abbrev TB:=Ends->St->Hp->XK->Prop
structure Pb(X:Cx)(body:List Stmt)(t:TB):Prop where
 h:∀(pins:List (Addr×Obj)) (s:Shared) (σ:St) (H:Hp) (D:Ends) (E:XK),Inv X pins σ H s->t D σ H E->wpAny (model X.prog X.w) X.A (execs body X.env) (SP X pins D) (XP X pins σ E) s
section
variable{X:Cx}{k k':Nat}{ps:List Str}{sp:Sp}{x:Str}{e:Expr}{es:List Expr}{tA:TA}{p pos:Pos}{t:TX}
def bAsg(i:Nat)(t:TX):TB:=fun D σ H E=>t σ H (fun v H'=>D.nx (σ.set i (some v)) H') E
theorem bS{y:Str}{pos':Pos}(i:Nat)(h:Px X e t)(hN:X.N.Nodup)(hi:X.N[i]? =some y:=by rfl)(hx:Loc X.env.scope y:=by first | exact Or.inl rfl | exact Or.inr rfl)(hs:swapsWith e (some (.Name y pos')) pos.line X.env=pure false:=by rfl)
  (hf:X.fn y=true∨X.env.scope.names.lookup y=some .local:=by first | exact .inl rfl | exact .inr rfl):Pb X [.Assign [.Name y pos'] e pos] (bAsg i t):=by
 refine⟨fun pins s σ H D E I hw=>?_⟩
 refine wpAny_execs_cons (wpAny_mono (wpAny_Assign_Name (Q:=SP X pins D) (thn (h.h pins s σ H _ E I hw) fun v s1 ⟨y,H1,I1,r1,q1⟩=>ab1 I1 hN hi hx r1 (fun s2 I2=>⟨_,H1,I2,q1⟩) hf) hs) (fun f s1 q=>?_) fun _ _ z=>z)
 cases f with
 |next=>exact wpAny_execs_nil q
 |ret v=>exact q
 |brk=>exact q
 |cont=>exact q
end
abbrev Cx.hnd(X:Cx)(a:Addr):Cx:={X with A:=X.A.mark (some (.ref a)),calm:=false,xe:=fun _ _=>False}
section
variable{X:Cx}{pins:List (Addr×Obj)}{σ:St}{H:Hp}{s:Shared}
theorem Inv.hnd(I:Inv X pins σ H s)(a:Addr):Inv (X.hnd a) pins σ H s:=
 ⟨⟨I.ok.mod,I.ok.kind,I.ok.glob,I.ok.blt,I.ok.above,I.ok.inj,I.ok.has,I.ok.cab,(fun z=>nomatch z),I.ok.frames,I.ok.stk,I.ok.exf,I.ok.bs,I.ok.bsz,I.ok.noex,I.ok.exfs,I.ok.funs,I.ok.frf⟩,I.os,I.bare,I.base,I.loc,I.cell,I.free,I.freeC,I.pin,I.hok,I.len⟩
theorem Inv.unhnd{a:Addr}(I:Inv (X.hnd a) pins σ H s)(ok:X.Ok):Inv X pins σ H s:=⟨ok,I.os,I.bare,I.base,I.loc,I.cell,I.free,I.freeC,I.pin,I.hok,I.len⟩
theorem Inv.lost{h':Heap}{m':Str->Option Value}{t:Nat}(I:Inv X pins σ H s)(hn:h'.Ns X.env.locals m')(hs:Heap.SameBut X.env.locals s.heap h'):Inv X pins (List.replicate X.N.length none) H {s with heap:=h',toks:=t}:=by
 obtain⟨m,⟨oL,_,_,hoL,_⟩,_⟩:=id I.loc
 have nl:∀b o,X.s₀.heap.get? b=some o->b≠X.env.locals:=fun b o e=>Nat.ne_of_lt (Nat.lt_of_lt_of_le (Heap.lt_size e) I.ok.above)
 refine⟨I.ok,I.os,I.bare,⟨fun b o e n hb hx=>(hs.2 b (nl b o e)).trans (I.base.keep b o e n hb hx),fun b o e n hb hx=>?_,I.base.free,fun b o e hx=>?_,I.base.tups,I.base.frzs,I.base.tbls⟩,⟨m',hn,fun j y v' e1 e2 e3=>?_⟩,fun y c e=>?_,I.free,I.freeC,fun p hp=>?_,fun b ob e=>?_,by rw[List.length_replicate]⟩
 ·obtain⟨sl,e1⟩:=I.base.slot b o e n hb hx
  exact⟨sl,(hs.2 b (nl b o e)).trans e1⟩
 ·obtain⟨o',e1⟩:=I.base.there b o e hx
  exact⟨o',(hs.2 b (nl b o e)).trans e1⟩
 ·rw[List.getElem?_replicate] at e2
  split at e2
  ·cases e2
  ·cases e2
 ·obtain⟨w',z⟩:=I.cell y c e
  exact⟨w',z.sameBut hs (I.cne y c e)⟩
 ·obtain⟨e,n,ne,nf,d⟩:=I.pin p hp
  exact⟨(hs.2 p.1 ne).trans e,n,ne,nf,d⟩
 ·refine (I.hok b ob e).stay (fun c w' hc q=>(hs.2 c ?_).trans q) (fun _ q=>q) fun _ _ q=>q
  rintro rfl
  rcases hc with rfl | hc
  ·rw[I.free] at e;cases e
  ·rw[I.free] at hc;cases hc
end
def xo(a C:Addr)(d:Option Addr)(b:Bool):HO:=.ext fun h=>∃o,h.get? a=some o/\Ex C d b o
theorem am2{P:Program}{w:World}{fs:List Addr}{H0 H:Hp}{g h:Heap}{a C:Addr}{d:Option Addr}{b0:Bool}(u:Un fs [] H0 H g h)(hok:HOk P w H h)(f:Fly g h H a C d b0):Un fs [] H0 (upd H a (xo a C d b0)) g h/\HOk P w (upd H a (xo a C d b0)) h:=by
 obtain⟨Ha,ga,oe,vs,T,oT,ts,⟨he,hd,_,hx⟩,_⟩:=f
 have ne:∀b o,H b=some o->b≠a:=fun b o e z=>by rw[z,Ha] at e;cases e
 have same:∀b o,H b=some o->upd H a (xo a C d b0) b=some o:=fun b o e=>by rw[aaD (ne b o e)];exact e
 refine⟨⟨u.keep,u.slot,fun b o e n hx=>?_,u.there,fun b xs e=>same _ _ (u.tups b xs e),fun b o v e=>same _ _ (u.frzs b o v e),fun b ps e=>?_⟩,fun b o e=>?_⟩
 ·rw[aaD (fun z=>by rw[z,ga] at e;cases e)]
  exact u.free b o e n hx
 ·obtain⟨more,z⟩:=u.tbls b ps e
  exact⟨more,same _ _ z⟩
 ·by_cases hb:b=a
  ·subst hb
   rw[aaA] at e
   cases e
   exact⟨⟨oe,he,hx⟩,⟨oe,he⟩,fun h1 h2 ⟨o,e,r⟩ k=>⟨o,k o e,r⟩⟩
  ·rw[aaD hb] at e
   exact (hok b o e).stay (fun _ _ _ q=>q) (fun c q=>same _ _ q) fun c xs q=>same _ _ q
theorem ah0{M:Model}{A:Around}{E:Value->Shared->Prop}{s:Shared}{K:PySem.W.Frag}{C CF a:Addr}{oe:Obj}{b:Bool}{Q:Bool->Shared->Prop}(X:K.In s.heap)(e:PySem.W.kitCls K (.ref C) (.ref CF)=some b)
  (eB:PySem.W.subIn K (.ref CF) (.type "BaseException")=some true) (he:s.heap.get? a=some oe) (hc:oe.cls=.ref C) (hq:Q b s):wpAny M A (excMatches (.ref a) (.ref CF)) Q E s:=by
 obtain⟨h,g,d,t,os⟩:=s
 obtain⟨hty,his,hsub⟩:=PySem.W.kit_cls (M:=M) X e
 have hB:=PySem.W.looks_subIn (M:=M) X eB
 have L0:PySem.W.Looks M h (typeOf (.ref a)) (.ref C):=hc▸(PySem.W.Looks.ld he).andThen .now
 have f:=tc_notTuple
 unfold excMatches isExcClass isInstance
 repeat lk
 cases b<;>repeat lk
 all_goals exact hq
def aj3(ok:Addr->Prop)(i:Nat)(tb:TB)(th:Addr->TS):TS:=fun D σ H=>∃E:XK,tb D σ H E/\∀C d b H',E (cv C b) d H'->ok C/\∀a,H' a=none->th a {nx:=fun _ _=>False,rt:=D.rt} (σ.set i (some (.ref a))) (upd H' a (xo a C d b))
section
variable{X:Cx}{body suite:List Stmt}{b0:Stmt}{tb:TB}{th:Addr->TS}{cx n:Str}{np hpos pos:Pos}{CF:Addr}
theorem alK(i:Nat)(hm:X.mg cx=some (.ref CF))(hB:PySem.W.subIn X.K (.ref CF) (.type "BaseException")=some true)(hb:Pb X body tb)(hs:∀a,Ss (X.hnd a) (b0::suite) (th a))(hN:X.N.Nodup)
  (hi:X.N[i]? =some n:=by rfl) (hl:X.env.kindOf n=some .local:=by rfl) (hst:X.stack=X.env::X.outer:=by rfl) (hfr:X.env.frame=some X.env.locals:=by rfl) (hg:Gl X cx:=by rfl) (hdb:(cx==("__debug__":Str))=false:=by decide):
  PS X (.Try body [.ExceptHandler (some (.Name cx np)) (some n) (b0::suite) hpos] [] [] pos) (aj3 (fun C=>PySem.W.kitCls X.K (.ref C) (.ref CF)=some true) i tb th):=by
 intro pins s σ H D I ⟨E,hw,hh⟩
 refine wpAny_Try_except (wpAny_mono (hb.h pins s σ H D E I hw) (fun f s1 q=>?_) fun e s1 hx=>?_)
 ·cases f with
  |next=>exact wpAny_execs_nil q
  |ret v=>exact q
  |brk=>exact q
  |cont=>exact q
 obtain⟨s0,H0,I0,a,C,d,bb,H',rfl,os,bare,un,hok,fly,qE⟩:=hx
 obtain⟨hC,hh⟩:=hh C d bb H' qE
 have I1:Inv X pins σ H' s1:=I0.call' os un hok bare (fun _ z=>nomatch z)
 obtain⟨T,hT,fl⟩:=fly.flying I1.stack
 have hid:∀b∈frs X.stack++[a,T],b∈frs X.stack∨(H' b=none/\s0.heap.get? b=none):=fun b hb=>by
  rcases List.mem_append.mp hb with z | z
  ·exact .inl z
  ·rcases List.mem_cons.mp z with rfl | z
   ·exact .inr ⟨fly.1,fly.2.1⟩
   ·obtain rfl:b=T:=by simpa using z
    exact .inr hT
 have frames:X.A.frames=some (X.env::X.outer):=by rw[I.ok.frames,hst]
 have fl':=fl
 rw[hst] at fl'
 refine ai5 (akA C d bb) frames hfr (hst▸fl) fun h4 held4 sm4=>?_
 refine aeQ none held4 fun h5 fl5 sm5=>?_
 obtain⟨u5,hok5,fly5⟩:=agS (fs:=frs X.stack) un hok I1.stkFree (alO I1.stack) (by rw[hst] at hid ⊢;exact hid) fl5 (sm4.trans sm5) fly.2.1 fly.1
 have I5:Inv X pins σ H' {s1 with heap:=h5}:=I0.call' os u5 hok5 bare (fun _ z=>nomatch z)
 refine wpAny_handleBy_cons (codeAny_handlers_test ?_) (by intro q;cases q)
 have J5:=I5.hnd a
 refine abG (X:=X.hnd a) J5 hg hm ?_ hdb
 obtain⟨_,_,oe,vs5,_,_,_,⟨he5,_,_,hc5,_⟩,_⟩:=fly5
 refine ah0 J5.kIn hC hB he5 hc5 ?_
 refine codeAny_handlers_suite_as ?_
 refine aeQ none fl5 fun h6 fl6 sm6=>?_
 obtain⟨u6,hok6,fly6⟩:=agS (fs:=frs X.stack) un hok I1.stkFree (alO I1.stack) (by rw[hst] at hid ⊢;exact hid) fl6 ((sm4.trans sm5).trans sm6) fly.2.1 fly.1
 obtain⟨u7,hok7⟩:=am2 u6 hok6 fly6
 have I7:Inv X pins σ (upd H' a (xo a C d bb)) {s1 with heap:=h6}:=I0.call' os u7 hok7 bare (fun _ z=>nomatch z)
 refine ab1 (X:=X.hnd a) (I7.hnd a) hN hi (.inl hl) (show RelV (.ref a) (.ref a) from rfl) (fun s8 I8=>?_) (.inr hl)
 refine wpAny_mono ((hs a).h pins s8 _ _ _ I8 (hh a fly.1)) (fun f s9 q=>?_) fun _ _ z=>False.elim z
 cases f with
 |next=>obtain⟨_,_,_,q⟩:=q;exact False.elim q
 |brk=>obtain⟨_,_,_,q⟩:=q;exact False.elim q
 |cont=>obtain⟨_,_,_,q⟩:=q;exact False.elim q
 |ret u=>
  obtain⟨v,σ',H3,I9,r,q⟩:=q
  have I9':Inv X pins σ' H3 s9:=I9.unhnd I.ok
  obtain⟨m9,hn9,_⟩:=I9'.loc
  refine wpAny_nameGoes hl hn9 (by rw[I.ok.kind];rfl) fun h' m' hn' hs'=>?_
  exact⟨v,_,H3,I9'.lost hn' hs',r,q⟩
theorem ao0(i:Nat)(hm:X.mg cx=some (.ref CF))(hB:PySem.W.subIn X.K (.ref CF) (.type "BaseException")=some true)(hb:Pb X body tb)(hs:∀a,Ss (X.hnd a) (b0::suite) (th a))(hN:X.N.Nodup)
  (hi:X.N[i]? =some n:=by rfl) (hl:X.env.kindOf n=some .local:=by rfl) (hst:X.stack=X.env::X.outer:=by rfl) (hfr:X.env.frame=some X.env.locals:=by rfl) (hg:Gl X cx:=by rfl) (hdb:(cx==("__debug__":Str))=false:=by decide):
  S X (.Try body [.ExceptHandler (some (.Name cx np)) (some n) (b0::suite) hpos] [] [] pos) (aj3 (fun C=>PySem.W.kitCls X.K (.ref C) (.ref CF)=some true) i tb th):=⟨alK i hm hB hb hs hN hi hl hst hfr hg hdb⟩
end
section
variable{X:Cx}{E:XK}{x:Str}{C:Addr}{e:Expr}{es:List Expr}{tA:TA}{np cpos pos p:Pos}{k k':Nat}{ps:List Str}{sp:Sp}
theorem eD1(D:Df1 X.prog X.w X.K X.mg X.base x k ps sp)(hr:Room k' X.A)(hp:ab5 (CX1 X.prog X.w) X E)(ha:As X (e::es) tA)(hk:k<=k':=by decide)(hg:Gl X x:=by rfl)
  (hdb:(x==("__debug__":Str))=false:=by decide) (he:starEach (e::es) X.env=(false,eval e X.env)::starEach es X.env:=by rfl) (hpl:(backTo pos (starEach es X.env)).any (·.1)=false:=by rfl):
  L2.E X (.Call (.Name x p) (e::es) [] pos) (af5 sp [] E tA):=by
 obtain⟨f,fd,F,hb,hm,kp⟩:=D.ex
 exact⟨aiY F (hr.mono hk) hg hm kp hb .nil hp ha.h hdb he hpl⟩
end
structure XF(K:PySem.W.Frag)(C:Addr):Prop where
 cls:(PySem.W.clsIn K C).isSome=true
 ga:PySem.W.findIn K (.ref C) "__getattribute__"=some (some (.builtin "BaseException.__getattribute__"))
 nga:PySem.W.findIn K (.ref C) "__getattr__"=some none
 ca:PySem.W.findIn K (.ref C) "__class__"=some (some (.builtin "object.__class__"))
 cg:PySem.W.specialIn K (.builtin "object.__class__") "__get__"=some (some (.builtin "getset_descriptor.__get__"))
 ct:PySem.W.takesIn K (.builtin "object.__class__")=some true
 mo:PySem.W.mroIn K C (.type "object")=some true
 mb:PySem.W.mroIn K C (.type "BaseException")=some true
def AtC(a C:Addr)(h:Heap):Prop:=∃o vs,h.get? a=some o/\o.cls=.ref C/\o.data=.fields vs
theorem AtC.of{a C:Addr}{d:Option Addr}{b:Bool}{h:Heap}(x:∃o,h.get? a=some o/\Ex C d b o):AtC a C h:=by
 obtain⟨o,e,h1,_,vs,h2,_⟩:=x
 exact⟨o,vs,e,h1,h2⟩
theorem AtC.ty{M:Model}{a C:Addr}{h:Heap}(x:AtC a C h):PySem.W.Looks M h (typeOf (.ref a)) (.ref C):=by
 obtain⟨o,vs,h1,h2,_⟩:=x
 exact h2▸(PySem.W.Looks.ld h1).andThen .now
section
open PySem.W
variable{prog:Program}{w:World}{A:Around}{E:Value->Shared->Prop}{s:Shared}{K:PySem.W.Frag}{a C:Addr}
open Builtin Builtin.ObjectAttr Builtin.Getset_descriptor in
theorem afS{tp:Value}{R:Result->Shared->Prop}(F:XF K C)(X:K.In s.heap)(I:AtC a C s.heap)(h:R (.ok (.ret (.ref C))) s):
  codeAny (model prog w) A (.call (.builtin "getset_descriptor.__get__") ⟨[.builtin "object.__class__",.ref a,tp],[]⟩) R s:=by
 obtain⟨hh,g,dr,t,os⟩:=s
 have ofC:=I.ty (M:=model prog w)
 have obj:=PySem.W.looks_mroIn (M:=model prog w) X F.mo
 have gs:=KF.slot_gs
 refine codeAny_call_builtin gs.plain KF.entry_gs (gs.check _ _ _ _ _ _ _ _ KF.type_class (KF.args_gs _ _ _) ?_)
 simp only[Builtin.«getset_descriptor.__get__»,descrGet,dga_obj]
 refine wpAny_bind (wpAny_pure ?_)
 simp only[descrGetter,descrCheckInstance,descrNameAndClass,isInstance,KF.owner_class]
 repeat lk
 constructor
 ·exact Code.quiet_builtin _ (by decide +kernel)
 ·apply codeAny_builtin KF.entry_class
  simp only[Builtin.«object.__class__»,shownTypeOf]
  repeat lk
  exact h
theorem ac1{M:Model}{nameV:Value}{Q:Unit->Shared->Prop}(F:XF K C)(X:K.In s.heap)(I:AtC a C s.heap)(hq:Q () s):wpAny M A (checkBuiltinCall "BaseException.__getattribute__" ⟨[.ref a,nameV],[]⟩) Q E s:=by
 obtain⟨hh,g,d,t,os⟩:=s
 have L0:=I.ty (M:=M)
 have L1:=PySem.W.looks_mroIn (M:=M) X F.mb
 have hk:builtinKind "BaseException.__getattribute__"=some .slot:=by decide +kernel
 have hsplit:splitId "BaseException.__getattribute__"=some ("BaseException","__getattribute__"):=by decide +kernel
 have ha:=PySem.F.args_bexc_ga (.ref a) nameV
 simp only[checkBuiltinCall,hk,hsplit]
 refine wpAny_bind ?_
 unfold isInstance
 repeat (first | lk | wp_step)
 exact hq
open Builtin Builtin.ObjectAttr in
theorem aj5{M:Model}{h:Heap}(F:XF K C)(X:K.In h):Looks M h (Builtin.ObjectAttr.find (.ref a) (.ref C) "__class__") (.bind (.builtin "getset_descriptor.__get__") (.builtin "object.__class__")):=by
 have L1:=PySem.W.looks_findIn (M:=M) X F.ca
 have L2:Looks M h (getOf (some (.builtin "object.__class__"))) (some (.builtin "getset_descriptor.__get__")):=PySem.W.looks_specialIn X F.cg
 have L3:=PySem.W.looks_takesIn (M:=M) X F.ct
 intro A Q E s k q
 unfold Builtin.ObjectAttr.find
 refine wpAny_bind (L1 A _ E s k ?_)
 refine wpAny_bind (L2 A _ E s k ?_)
 refine wpAny_bind (wpAny_bind (L3 A _ E s k ?_))
 simp only[if_true]
 refine wpAny_pure ?_
 exact wpAny_bind (wpAny_rule (wpAny_pure q))
theorem ae4{Q:Option Value->Shared->Prop}(F:XF K C)(X:K.In s.heap)(I:AtC a C s.heap)(h:Q (some (.ref C)) {s with toks:=s.toks+1}):wpAny (model prog w) A (getAttr? (.ref a) "__class__") Q E s:=by
 obtain⟨hh,g,d,t,os⟩:=s
 have L0:=I.ty (M:=model prog w)
 have L1:=PySem.W.looks_findIn (M:=model prog w) X F.ga
 have L2:=PySem.W.looks_findIn (M:=model prog w) X F.nga
 have f3:=PySem.F.attr_ValueError.ga.bind (.ref a)
 unfold getAttr? getAttrBy? getAttrBy
 refine wpAny_bind (wpAny_mkText (wpAny_bind (wpAny_attempt (wpAny_holding ?_))))
 refine wpAny_bind (L0.at ?_)
 refine wpAny_bind (L1.at ?_)
 show wpAny _ _ (getAttrByItsOwn _ _ _ _ _ _) _ _ _
 unfold getAttrByItsOwn
 repeat (first | assumption | with_reducible refine Looks.at (by assumption) ?_ | wp_step)
 refine codeAny_call_builtin PySem.F.attr_ValueError.ga.plain PySem.F.entry_bexc_ga (ac1 F X I ?_)
 have L4:=aj5 (a:=a) (M:=model prog w) F X
 unfold Builtin.«object.__getattribute__»
 repeat (first | assumption | with_reducible refine Looks.at (by assumption) ?_ | wp_step)
 refine afS F X I ?_
 exact wpAny_pure (wpAny_of_eq (PySem.W.handedOut_of rfl) (wpAny_pure h))
theorem ae8(F:XF K C):KitX K (.ref a) (.ref C) (AtC a C) where
 ty:=fun _ _ _ I=>I.ty
 it:=fun _ _ X _=>by
  obtain⟨cdD,hcD⟩:=Option.isSome_iff_exists.mp F.cls
  unfold clsIn at hcD
  split at hcD
  ·next ho=>
   intro A' Q' E' s' k q
   unfold isType loadHead
   exact wpAny_bind (wpAny_loadPart (k _ _ (X _ _ ho)) (wpAny_pure q))
  ·cases hcD
 ne:=fun h tp dd its n sl X htp=>by
  obtain⟨cdD,hcD⟩:=Option.isSome_iff_exists.mp F.cls
  refine Bool.eq_false_iff.mpr fun q=>?_
  obtain rfl:C=tp:=Value.ref.inj (beq_iff_eq.mp q)
  unfold clsIn at hcD
  split at hcD
  ·next ho=>
   have z:=(X _ _ ho).symm.trans htp
   cases z
  ·cases hcD
 ca:=fun X I k=>ae4 F X I k
end
theorem cXi{X:Cx}:Cl1 X (.builtin "isinstance") (fun xs H Q=>∃(a C C':Addr) (d:Option Addr) (b0 b:Bool),xs=[.ref a,.ref C']/\H a=some (xo a C d b0)/\XF X.K C/\PySem.W.kitOne X.K (.ref C) (.ref C')=some b/\Q (.bl b) H):=by
 refine⟨fun pins s σ H xs us Q I r h=>?_⟩
 obtain⟨a,C,C',d,b0,b,rfl,ha,F,e,q⟩:=h
 obtain⟨u,w',rfl,r1,r2⟩:=ahO r
 cases r1
 cases r2
 exact PySem.W.kia_one (ae8 F) I.kIn (AtC.of (I.hok a _ ha).1) e (fun z=>nomatch z) fun tk=>⟨.bl b,H,I.tok _,rfl,q⟩
theorem cXy{X:Cx}:Cl1 X (.builtin "isinstance") (fun xs H Q=>∃(a C:Addr) (T:String) (d:Option Addr) (b0 b:Bool),xs=[.ref a,.ty T]/\H a=some (xo a C d b0)/\XF X.K C/\PySem.W.kitOne X.K (.ref C) (.type T)=some b/\Q (.bl b) H):=by
 refine⟨fun pins s σ H xs us Q I r h=>?_⟩
 obtain⟨a,C,T,d,b0,b,rfl,ha,F,e,q⟩:=h
 obtain⟨u,w',rfl,r1,r2⟩:=ahO r
 cases r1
 cases r2
 exact PySem.W.kia_one (ae8 F) I.kIn (AtC.of (I.hok a _ ha).1) e (fun z=>nomatch z) fun tk=>⟨.bl b,H,I.tok _,rfl,q⟩
theorem afX:∀{Cs:List Addr} {us:List Value},Vals (Cs.map V.ref) us->us=Cs.map Value.ref
 |[],_,.nil=>rfl
 |c::Cs,_,.cons h r=>by
  cases h
  rw[afX r]
  rfl
theorem cXt{X:Cx}:Cl1 X (.builtin "isinstance") (fun xs H Q=>∃(a C tp:Addr) (Cs:List Addr) (d:Option Addr) (b0 b:Bool),xs=[.ref a,.ref tp]/\H a=some (xo a C d b0)/\XF X.K C/\SqT X.K H tp (Cs.map V.ref)/\PySem.W.kitAny X.K (.ref C) (Cs.map Value.ref)=some b/\Q (.bl b) H):=by
 refine⟨fun pins s σ H xs us Q I r h=>?_⟩
 obtain⟨a,C,tp,Cs,d,b0,b,rfl,ha,F,hS,e,q⟩:=h
 obtain⟨u,w',rfl,r1,r2⟩:=ahO r
 cases r1
 cases r2
 obtain⟨its,rv,⟨o,ho,hc,n,hd⟩,_⟩:=I.tuple hS
 obtain⟨oc,od,oda,osl⟩:=o
 cases hc
 cases hd
 rw[←afX rv] at e
 exact PySem.W.kia_tup (ae8 F) I.kIn (AtC.of (I.hok a _ ha).1) ho e (fun z=>nomatch z) fun tk=>⟨.bl b,H,I.tok _,rfl,q⟩
section
variable{X:Cx}{body suite:List Stmt}{b0:Stmt}{tb:TB}{th:Addr->TS}{cx:Str}{np hpos pos:Pos}{CF:Addr}
end
def PX(e C:Addr)(d:Option Addr)(h:Heap):Prop:=∃(vs:Array Value) (sl:Array (Option Value)),h.get? e=some ⟨.ref C,d,.fields vs,sl⟩/\vs[1]? =some .none/\4<vs.size
section
variable{prog:Program}{w:World}{A:Around}{E:Value->Shared->Prop}{s:Shared}{e C a:Addr}{d:Option Addr}
end
def IsXC(C:Addr)(h:Heap):Prop:=∃nm q N bs bm hdct sn sub ab col dd k0 k1 k2 k3 k5 newId,h.get? C=some (excClassObj nm q C N bs bm hdct sn sub ab col dd k0 k1 k2 k3 k5 newId)/\bm.contains (.type "BaseException")=true
section
variable{prog:Program}{w:World}{A:Around}{E:Value->Shared->Prop}{s:Shared}{env:Env}{e C a:Addr}{d:Option Addr}
end
section
variable{P:Program}{w:World}{K:PySem.W.Frag}{mg:Str->Option Value}{base:Heap}{N:List Str}{qual:Str}{scope:Scope}{f:Addr}{cd:Value}{A:Around}{outer:List Env}{s0:Shared}{H0:Hp}{E:XK}
end
section
variable{X:Cx}{E:XK}{x:Str}{C a:Addr}{e:Expr}{es:List Expr}{t:TA}{np cpos pos p2:Pos}{j:Nat}
end
theorem aeF:bootBuiltins "ValueError"=some (.type "ValueError"):=by decide +kernel
def tDi:TE:=fun _ H Q=>∀p,H p=none->Q (.ref p) (upd H p (.dK []))
section
variable{X:Cx}{pos:Pos}{o i:Expr}{to ti:TE}
theorem Inv.bigM{pins:List (Addr×Obj)}{σ:St}{H:Hp}{s:Shared}(I:Inv X pins σ H s):sysModules<s.heap.objs.size:=by
 have h:mainGlobals<s.heap.objs.size:=(I.mod.glob.keeps I.bk).lt
 exact Nat.lt_trans (by decide) h
theorem eDi:E X (.Dict [] [] pos) tDi:=⟨fun pins s σ H Q I h=>wpAny_Dict_empty ⟨.ref s.heap.objs.size,_,I.laid (a:=s.heap.objs.size) (o:=.dK []) (t':=s.toks) (fun _ _ q=>Heap.get?_push_of_some _ q) (Nat.le_refl _)
 ⟨Nat.zero_le _,beq_eq_false_iff_ne.mpr (Ne.symm (Nat.ne_of_lt I.bigM)),[],.nil,Heap.DictOf.new s.heap⟩,rfl,h _ (I.hok.fresh (Nat.le_refl _))⟩⟩
theorem gSb(ho:E X o to)(hi:E X i ti)(ha:∀v,assign (.Subscript o i pos) X.env v=(do
   let ov ←holding [v] (eval o X.env)
   let iv ←holding [v,ov] (eval i X.env)
   standAt pos
   holding [v,ov,iv] (setItem ov iv v)
   release [v,ov,iv] []):=by intro _;rfl):Gt X (.Subscript o i pos) (axY to ti anA):=⟨asA ho.h hi.h aj2 ha⟩
end
def Kd.wh:Kd->Bool
 |.int=>true
 |_=>false
theorem KindV.same{K:PySem.W.Frag}{H H':Hp}{v:V}{k:Kd}(h:KindV K H v k)(s:Same H H'):KindV K H' v k:=by
 cases v with
 |ref a=>
  rcases h with ⟨e,xs,h⟩ | ⟨e,xs,h⟩ | ⟨e,xs,h⟩
  ·exact .inl ⟨e,xs,s.seq h⟩
  ·refine .inr (.inl ⟨e,xs,?_⟩)
   rcases h with (h | ⟨o,h⟩) | h
   ·exact .inl (.inl (s _ _ h))
   ·exact .inl (.inr ⟨o,s _ _ h⟩)
   ·exact .inr h
  ·exact .inr (.inr ⟨e,xs,s _ _ h⟩)
 |int i=>exact h
 |bl b=>exact h
 |str x=>exact h
 |non=>exact h
 |byt b=>exact h
 |flt b=>exact h
 |ty n=>exact h
section
variable{X:Cx}
end
section
variable{js:List Nat}{σ:St}{tt:TT}{te:TE}{Q:VK}{H1:Hp}
end
def acJ(l:List Nat)(lo hi:Option Int):List Nat:=(l.drop (HT.sIx l.length 0 lo)).take (HT.sIx l.length l.length hi-HT.sIx l.length 0 lo)
theorem anD(v:Option Int)(n d:Nat):(match v with | none=>(d:Int) | some i=>max 0 (min (if i<0 then i+(n:Int) else i) (n:Int)))=((HT.sIx n d v:Nat):Int):=by
 cases v with
 |none=>rfl
 |some i=>
  show max 0 (min (if i<0 then i+(n:Int) else i) (n:Int))=(((if i<0 then (i+(n:Int)).toNat else min i.toNat n):Nat):Int)
  by_cases h:i<0
  ·rw[if_pos h,if_pos h];omega
  ·rw[if_neg h,if_neg h];omega
theorem aj7(lo hi:Option Int)(n:Nat):Builtin.Str.strSliceIndices lo hi 1 n=sliceRange ((HT.sIx n 0 lo:Nat):Int) ((HT.sIx n n hi:Nat):Int) 1:=by
 unfold Builtin.Str.strSliceIndices
 simp only[show ((1:Int)>0)=True from by simp,if_true]
 rw[←anD lo n 0,←anD hi n n]
 cases lo<;>cases hi<;>rfl
theorem ahY(a b:Nat):sliceRange (a:Int) (b:Int) 1=(List.range (b-a)).map fun k=>a+k:=by
 rcases Nat.lt_or_ge a b with c | c
 ·have up:(a:Int)<b:=by omega
  have many:(((b:Int)-a+1-1) / 1).toNat=b-a:=by rw[Int.ediv_one];omega
  have e:∀k:Nat,((a:Int)+1*(k:Int)).toNat=a+k:=fun k=>by omega
  simp only[sliceRange,gt_iff_lt,Int.one_pos,if_true,up,many,e]
 ·have no:¬((a:Int)<b):=by omega
  have z:b-a=0:=by omega
  simp only[sliceRange,gt_iff_lt,Int.one_pos,if_true,no,if_false,z,List.range_zero,List.map_nil]
  rfl
theorem ajM(l:List Nat)(n a:Nat):((List.range n).map fun k=>a+k).filterMap (fun i=>(Tx l).cps[i]?)=(l.drop a).take n:=by
 rw[List.filterMap_map]
 induction n with
 |zero=>rw[List.take_zero];rfl
 |succ n ih=>
  have one:[n].filterMap ((fun i=>(Tx l).cps[i]?) ∘ fun k=>a+k)=(l[a+n]?).toList:=by
   show List.filterMap _ [n]=_
   cases e:l[a+n]? <;>simp[e]
  rw[List.range_succ,List.filterMap_append,ih,one,List.take_add_one,List.getElem?_drop]
theorem aqB(l:List Nat)(lo hi:Option Int):(Builtin.Str.strSliceIndices lo hi 1 l.length).filterMap (fun i=>(Tx l).cps[i]?)=acJ l lo hi:=by
 rw[aj7,ahY,ajM]
 rfl
theorem ajG(l:List Nat)(lo hi:Option Int)(h:(Builtin.Str.strSliceIndices lo hi 1 l.length).length=l.length):acJ l lo hi=l:=by
 rw[aj7,ahY,List.length_map,List.length_range] at h
 have h1:=HT.sIx_le l.length l.length (Nat.le_refl _) hi
 have e1:HT.sIx l.length 0 lo=0∨l.length=0:=by omega
 unfold acJ
 rcases e1 with e | e
 ·rw[e]
  have:HT.sIx l.length l.length hi=l.length:=by omega
  rw[this]
  simp
 ·have:l=[]:=List.eq_nil_of_length_eq_zero e
  subst this
  simp
theorem ac7(l:List Nat)(lo hi:Option Int):(acJ l lo hi).length<=l.length:=by
 unfold acJ
 rw[List.length_take,List.length_drop]
 omega
section
variable{X:Cx}
def rSlX:V->Option Int->Option Int->Hp->VK->Prop:=fun x lo hi H Q=>∃l:List Nat,x=.str (Tx l)/\l.length<=sizeLine/\Q (.str (Tx (acJ l lo hi))) H
theorem slX:Sls X rSlX:=by
 refine⟨fun pins s σ H x v vl vu lo hi sl Q I rx hs pl pu h=>?_⟩
 obtain⟨l,rfl,hz,q⟩:=h
 obtain⟨t,rfl⟩:=rx
 refine⟨"str",_,PySem.F.slot_str_getitem.lookup,typeIs_str _ _ _,?_⟩
 obtain⟨o,ho,hc,hd⟩:=hs
 have fin:∀(a b:Option (Int×Tok)),o.data=.fields #[partValue a,partValue b,.none]->a.map (·.1)=lo->b.map (·.1)=hi->wpAny (model X.prog X.w) X.A (getItem (.str (Tx l) t) (.ref sl)) (EP X pins σ Q) X.xe s:=fun a b hd ea eb=>by
  refine wpAny_getItem_str_slice (l:=a) (u:=b) (st:=none) ⟨o,ho,hc,hd⟩ rfl ?_
  have ep:slicePicked (Tx l) a b none=Builtin.Str.strSliceIndices lo hi 1 l.length:=by unfold slicePicked;rw[ea,eb,aaT];rfl
  unfold sliceMade
  rw[ep]
  split
  ·next hw=>
   have hw2:(Builtin.Str.strSliceIndices lo hi 1 l.length).length=l.length:=by
    have:=(Bool.and_eq_true_iff.mp hw).2
    rw[aaT] at this
    exact beq_iff_eq.mp this
   show EP X pins σ Q _ s
   rw[ajG l lo hi hw2] at q
   exact⟨.str (Tx l),H,I,⟨t,rfl⟩,q⟩
  ·rw[aqB]
   exact⟨by rw[aaT];exact Nat.le_trans (ac7 l lo hi) hz,⟨.str (Tx (acJ l lo hi)),H,I.tok _,⟨_,rfl⟩,q⟩⟩
 cases pl with
 |none=>
  cases pu with
  |none=>exact fin none none hd rfl rfl
  |int j tj=>exact fin none (some (j,tj)) hd rfl rfl
 |int i ti=>
  cases pu with
  |none=>exact fin (some (i,ti)) none hd rfl rfl
  |int j tj=>exact fin (some (i,ti)) (some (j,tj)) hd rfl rfl
def two(n:Nat):List Nat:=(num (100+n)).drop 1
theorem apI(m:Nat):num m≠[]:=fun e=>Nat.toDigits_ne_nil (List.map_eq_nil_iff.mp e)
end
section
variable{prog:Program}{w:World}{A:Around}{E:Value->Shared->Prop}{s:Shared}{I:Addr}{fp wr:List Addr}{G:Array GenState->Array GenState->Prop}{n:Nat}{P:Nat->Value->Prop}{St:Nat->Shared->Prop}
end
section
variable{X:Cx}{o e:Expr}{to te:TE}{p rpos apos cpos:Pos}
end
theorem eOr2{X:Cx}{e:Expr}{t u:TE}(h:E X e t)(h':E X e u):E X e (fun σ H Q=>t σ H Q∨u σ H Q):=
 ⟨fun pins s σ H Q I z=>z.elim (fun z=>h.h pins s σ H Q I z) fun z=>h'.h pins s σ H Q I z⟩
section
variable{X:Cx}
end
section
variable{κ:Type}[DecidableEq κ]
def alR(kvs:List (κ×V))(k:κ):Option V:=(kvs.find? fun kv=>decide (kv.1=k)).map (·.2)
def amW(kvs:List (κ×V))(k:κ)(v:V):List (κ×V):=
 if (kvs.any fun kv=>decide (kv.1=k))=true then kvs.map (fun kv=>if kv.1=k then (kv.1,v) else kv) else kvs++[(k,v)]
def anE(kvs:List (κ×V))(k:κ):List (κ×V):=kvs.filter fun kv=>decide (kv.1≠k)
theorem KV.any{kvs:List (κ×V)}{vs:List (κ×Value)}(r:KV kvs vs)(k:κ):(kvs.any fun kv=>decide (kv.1=k))=vs.any fun kv=>decide (kv.1=k):=by
 unfold KV at r
 induction r with
 |nil=>rfl
 |cons h t ih=>rw[List.any_cons,List.any_cons,ih,h.1]
theorem KV.drop{kvs:List (κ×V)}{vs:List (κ×Value)}(r:KV kvs vs)(k:κ):KV (anE kvs k) (without vs k):=by
 unfold KV at r ⊢
 unfold anE without
 induction r with
 |nil=>exact .nil
 |@cons p q ps qs h t ih=>
  obtain⟨h1,h2⟩:=h
  rw[List.filter_cons,List.filter_cons]
  by_cases e:p.1=k
  ·have a:¬decide (p.1≠k)=true:=by simp[e]
   have b:¬decide (q.1≠k)=true:=by simp[h1.symm.trans e]
   rw[if_neg a,if_neg b];exact ih
  ·have e':¬q.1=k:=fun z=>e (h1.trans z)
   have a:decide (p.1≠k)=true:=by simp[e]
   have b:decide (q.1≠k)=true:=by simp[e']
   rw[if_pos a,if_pos b];exact .cons ⟨h1,h2⟩ ih
theorem KV.length{kvs:List (κ×V)}{vs:List (κ×Value)}(r:KV kvs vs):kvs.length=vs.length:=Paired.length r
end
section
variable{P:Program}{w:World}{H:Hp}{h:Heap}{a:Addr}
end
def DGet(H:Hp)(a:Addr)(y:V)(r:Option V):Prop:=
 (∃kvs k,Rd H a (.dK kvs)/\y=kV k/\r=alR kvs k)∨∃kvs k b,Rd H a (.dT kvs)/\y=.ref b/\H b=some (.tup (k.map kV))/\r=alR kvs k
def DPut(H:Hp)(a:Addr)(y v:V)(H':Hp):Prop:=
 (∃kvs k,H a=some (.dK kvs)/\y=kV k/\kvs.length<sizeLine/\H'=upd H a (.dK (amW kvs k v)))∨
 ∃kvs k b,H a=some (.dT kvs)/\y=.ref b/\H b=some (.tup (k.map kV))/\kvs.length<sizeLine/\H'=upd H a (.dT (amW kvs k v))
theorem DGet.k{H:Hp}{a:Addr}{kvs:List (Key×V)}{k:Key}(e:H a=some (.dK kvs)):DGet H a (kV k) (alR kvs k):=.inl ⟨kvs,k,.inl e,rfl,rfl⟩
theorem DGet.t{H:Hp}{a b:Addr}{kvs:List (List Key×V)}{k:List Key}(e:H a=some (.dT kvs))(eb:H b=some (.tup (k.map kV))):DGet H a (.ref b) (alR kvs k):=.inr ⟨kvs,k,b,.inl e,rfl,eb,rfl⟩
theorem DPut.k{H:Hp}{a:Addr}{kvs:List (Key×V)}{k:Key}{v:V}(e:H a=some (.dK kvs))(hl:kvs.length<sizeLine):DPut H a (kV k) v (upd H a (.dK (amW kvs k v))):=.inl ⟨kvs,k,e,rfl,hl,rfl⟩
theorem DPut.t{H:Hp}{a b:Addr}{kvs:List (List Key×V)}{k:List Key}{v:V}(e:H a=some (.dT kvs))(eb:H b=some (.tup (k.map kV)))(hl:kvs.length<sizeLine):
  DPut H a (.ref b) v (upd H a (.dT (amW kvs k v))):=.inr ⟨kvs,k,b,e,rfl,eb,hl,rfl⟩
section
variable{X:Cx}{pins:List (Addr×Obj)}{σ:St}{H:Hp}{s:Shared}{a:Addr}{y v:V}{u r:Value}{o:Option V}{A:Around}{E:Value->Shared->Prop}
end
section
variable{X:Cx}{pins:List (Addr×Obj)}{σ:St}{H:Hp}{s:Shared}{a:Addr}{kvs:List (Key×V)}{k:Key}{u:Value}{A:Around}{E:Value->Shared->Prop}
end
section
variable{X:Cx}{o i e value:Expr}{pos pos' tpos:Pos}{td ty tv:TE}
end
section
variable{X:Cx}{pos:Pos}
end
section
variable{X:Cx}{pins:List (Addr×Obj)}{σ:St}{H:Hp}{s:Shared}{a:Addr}{y d:V}{u r:Value}{o:Option V}{A:Around}{E:Value->Shared->Prop}
end
section
variable{X:Cx}{o e f:Expr}{apos cpos:Pos}{td ty tx:TE}
end
section
variable{X:Cx}{pins:List (Addr×Obj)}{σ:St}{H:Hp}{s:Shared}{a:Addr}{kvs:List (Key×V)}{A:Around}{E:Value->Shared->Prop}
end
section
variable{X:Cx}{pins:List (Addr×Obj)}{σ:St}{H:Hp}{s:Shared}{a:Addr}{y:V}{u:Value}{A:Around}{E:Value->Shared->Prop}
end
section
variable{X:Cx}{k:Nat}{o i kx vx:Expr}{td ty tk tv:TE}{pos:Pos}{keys:List (Option Expr)}{values:List Expr}{trs:List (TE×TE)}
theorem ahD:Op2 X (binaryOp .Mult) ax5:=⟨asX⟩
theorem afT:∀(n:Nat) (l:List Nat) (acc:Array Nat),((List.replicate n l.toArray).foldl (·++·) acc).toList=acc.toList++(List.replicate n l).flatten
 |0,l,acc=>by simp
 |n+1,l,acc=>by
  rw[List.replicate_succ,List.foldl_cons,afT n l,List.replicate_succ,List.flatten_cons]
  simp
theorem amL(l:List Nat)(n:Nat):Txt.mul (Tx l) n=Tx (List.replicate n l).flatten:=by
 unfold Txt.mul
 by_cases h1:(n:Int)<1
 ·obtain rfl:n=0:=by omega
  rw[if_pos h1]
  rfl
 ·rw[if_neg h1]
  by_cases h2:((n:Int)==1||(Tx l).length==0)=true
  ·rw[if_pos h2]
   rcases Bool.or_eq_true _ _▸h2 with h | h
   ·have:n=1:=by have:=beq_iff_eq.mp h;omega
    subst this
    simp
   ·have hl:l.length=0:=by have:=beq_iff_eq.mp h;rwa [aaT] at this
    rw[List.length_eq_zero_iff.mp hl]
    have:(List.replicate n ([]:List Nat)).flatten=[]:=by simp
    rw[this]
  ·rw[if_neg h2]
   show (⟨_⟩:Str)=⟨_⟩
   congr 1
   apply Array.toList_inj.mp
   rw[Int.toNat_natCast]
   have:=afT n l #[]
   simpa using this
theorem ax3:Op2 X (binaryOp .Mult) (fun x y H Q=>∃(l:List Nat) (n:Nat),x=.str (Tx l)/\y=.int n/\l.length*n<=100000/\n<=100000/\Q (.str (Tx (List.replicate n l).flatten)) H):=by
 refine⟨fun pins s σ H x y v u Q I rx ry h=>?_⟩
 obtain⟨l,n,rfl,rfl,hz,hn,q⟩:=h
 obtain⟨t,rfl⟩:=rx
 obtain⟨t2,rfl⟩:=ry
 refine SB.mul ⟨?_,fun h1 h2=>?_,fun h1 h2=>?_⟩ fun t' k=>⟨.str (Tx (List.replicate n l).flatten),H,I.tok _,⟨t',by rw[amL]⟩,q⟩
 ·have a:¬(n:Int)< -(2^63):=by omega
  have b:¬(n:Int) ≥ 2^63:=by omega
  rw[decide_eq_false a,decide_eq_false b]
  rfl
 ·rw[aaT]
  intro z
  have hn0:0<n:=by omega
  have h3:(l.length:Int)*(n:Int)<=100000:=by
   have:((l.length*n:Nat):Int)<=((100000:Nat):Int):=Int.ofNat_le.mpr hz
   rwa [Int.natCast_mul] at this
  have h4:((2^63-1:Int) / n)<l.length:=z
  have h5:=Int.lt_ediv_add_one_mul_self (2^63-1:Int) (show (0:Int)<n by omega)
  have h6:=Int.mul_le_mul_of_nonneg_right (show (2^63-1:Int) / n+1<=l.length by omega) (show (0:Int)<=n by omega)
  omega
 ·rw[aaT,Int.toNat_natCast]
  exact decide_eq_false (by rw[sizeLine_eq];omega)
end
section
variable{prog:Program}{w:World}{A:Around}{E:Value->Shared->Prop}{s:Shared}{a:Addr}{es:Array (Int×Value)}{ep:Nat}{t:SetTable}{z:Int}{tk:Tok}
end
section
variable{prog:Program}{w:World}{A:Around}{R:Result->Shared->Prop}{I:Addr}{fp wr:List Addr}{G:Array GenState->Array GenState->Prop}{n:Nat}{P:Nat->Value->Prop}{St:Nat->Shared->Prop}
end
section
variable{prog:Program}{w:World}{A:Around}{E:Value->Shared->Prop}{s:Shared}
end
section
variable{M:Model}{A:Around}{E:Value->Shared->Prop}{s:Shared}
end
section
variable{prog:Program}{w:World}{A:Around}{E:Value->Shared->Prop}{s:Shared}{a I:Addr}{es:Array (Int×Value)}{ep:Nat}{t:SetTable}
end
section
variable{prog:Program}{w:World}{A:Around}{E:Value->Shared->Prop}{s:Shared}{a I:Addr}{es:Array (Int×Value)}{ep:Nat}{t:SetTable}
end
section
variable{X:Cx}
end
section
variable{X:Cx}
end
section
variable{js:List Nat}{σ:St}{tt:TT}{te:TE}{Q:VK}{H1:Hp}
end
theorem ifX{a b:List Nat}{A B:Prop}(h1:a=b->A)(h2:¬a=b->B):if decide (V.str (Tx a)=V.str (Tx b))=true then A else B:=by
 rw[aj4]
 exact ifD h1 h2
theorem avD{a:List Nat}{A B:Prop}(h:A):if decide (V.str (Tx a)=V.str (Tx a))=true then A else B:=ifX (fun _=>h) fun c=>absurd rfl c
end L2
namespace KM
open PySem PySem.Spec PyProof.Rows L2
inductive Mk where
 |num (m:Int) | lst (b:Int) | nea (d:Int) | wrk | wkd (m:Int) | nth (w m:Int) | one (w:Int) | nil
 deriving DecidableEq
def wk(f:Int)(n:Nat):Bool:=decide (1<=(f+(1+(n:Int))-1)%7)&&decide ((f+(1+(n:Int))-1)%7<=5)
def ab(i:Int):Int:=if i<0 then -i else i
theorem rng{l:Int}(hl:28<=l/\l<=31):(-(2^62)<=(1:Int)/\(1:Int)<2^62/\ -(2^62)<=l+1/\l+1<2^62)/\(l+1-1).toNat=l.toNat/\(l+1-1).toNat<=sizeLine:=by
 obtain⟨h0,h1⟩:=hl
 refine⟨⟨by decide,by decide,by omega,by omega⟩,by omega,?_⟩
 rw[sizeLine_eq]
 omega
def awQ(w m:Int):List (Str×V):=abN "many" (.int m) (abN "weekday" (.int w) [])
def Mk.ok:Mk->Prop
 |.num m=>0<=m
 |.lst b=>0<=b/\b<=30
 |.nea d=>1<=d/\d<=31
 |.wrk=>True
 |.wkd m=>0<=m/\m<=127
 |.nth w m=>(0<=w/\w<=6)/\1<=m/\m<=5
 |.one w=>0<=w/\w<=6
 |.nil=>True
def Mk.wk:Mk->Bool
 |.wkd _ | .nth _ _ | .one _=>true
 |_=>false
def Mk.tup:Mk->List V
 |.num m=>[.str (Tx [112,108,97,105,110]),.int m,.int 0]
 |.wkd m=>[.str (Tx [112,108,97,105,110]),.int m,.int 0]
 |.lst b=>[.str (Tx [108,97,115,116]),.int b,.int 0]
 |.nea d=>[.str (Tx [110,101,97,114]),.int d,.int 0]
 |.wrk=>[.str (Tx [119,111,114,107]),.int 0,.int 0]
 |.nth w m=>[.str (Tx [110,116,104]),.int w,.int m]
 |.one w=>[.str (Tx [108,97,115,116,111,110,101]),.int w,.int 0]
 |.nil=>[]
def Mk.sp:Mk->Bool
 |.nil=>false
 |_=>true
structure Cs where
 (nu la ne lw we nt lo ma:Addr)
def MkAt(c:Cs)(H:Hp)(x:Addr):Mk->Prop
 |.num m=>∃dx,H x=some (.ins c.nu dx [("mask",.int m)])
 |.lst b=>∃dx,H x=some (.ins c.la dx [("back",.int b)])
 |.nea d=>∃dx,H x=some (.ins c.ne dx [("day",.int d)])
 |.wrk=>∃dx,H x=some (.ins c.lw dx [])
 |.wkd m=>∃dx,H x=some (.ins c.we dx [("mask",.int m)])
 |.nth w m=>∃dx,H x=some (.ins c.nt dx (awQ w m))
 |.one w=>∃dx,H x=some (.ins c.lo dx [("weekday",.int w)])
 |.nil=>∃dx,H x=some (.ins c.ma dx [])
theorem MkAt.keep{c:Cs}{H H':Hp}(s:Keep H H'){x:Addr}{k:Mk}(h:MkAt c H x k):MkAt c H' x k:=by
 cases k<;>(obtain⟨dx,h⟩:=h;exact⟨dx,s.ins h⟩)
def PrAt(H:Hp)(p:Addr)(k:Mk):Prop:=k.ok/\k.sp=true/\∃u,H p=some (.tup [.ref u,.bl k.wk])/\H u=some (.tup k.tup)
theorem PrAt.keep{H H':Hp}(s:Keep H H'){p:Addr}{k:Mk}(h:PrAt H p k):PrAt H' p k:=by
 obtain⟨o,e,u,h1,h2⟩:=h
 exact⟨o,e,u,s.tup h1,s.tup h2⟩
abbrev Ft(R:Addr->Mk->Prop):List Addr->List Mk->Prop:=Paired R
theorem Ft.keepM{c:Cs}{H H':Hp}(s:Keep H H'){ps:List Addr}{ks:List Mk}(h:Ft (MkAt c H) ps ks):Ft (MkAt c H') ps ks:=Paired.imp' (fun _ _ z=>z.keep s) h
theorem Ft.all{H:Hp}:∀{ps:List Addr} {ks:List Mk},Ft (PrAt H) ps ks->∀k∈ks,k.ok
 |_,_,.nil,k,hk=>nomatch hk
 |_,_,.cons r t,k,hk=>by
  rcases List.mem_cons.mp hk with rfl | hk
  ·exact r.1
  ·exact Ft.all t k hk
end KM
namespace L2
open PySem
theorem ac4{us:List Value}(h:us.length=1):∃a,us=[a]:=by
 cases us with
 |nil=>cases h
 |cons a r=>cases r with
  |nil=>exact⟨a,rfl⟩
  |cons b r=>cases h
theorem apZ{us:List Value}{n:Nat}(h:us.length=n+1):∃a r,us=a::r/\r.length=n:=by
 cases us with
 |nil=>cases h
 |cons a r=>exact⟨a,r,rfl,Nat.succ.inj h⟩
theorem agQ{us:List Value}(h:us.length=2):∃a b,us=[a,b]:=by
 obtain⟨a,r,rfl,h'⟩:=apZ h
 obtain⟨b,rfl⟩:=ac4 h'
 exact⟨a,b,rfl⟩
theorem ahG{us:List Value}(h:us.length=3):∃a b c,us=[a,b,c]:=by
 obtain⟨a,r,rfl,h'⟩:=apZ h
 obtain⟨b,c,rfl⟩:=agQ h'
 exact⟨a,b,c,rfl⟩
theorem ao3{us:List Value}(h:us.length=4):∃a b c d,us=[a,b,c,d]:=by
 obtain⟨a,r,rfl,h'⟩:=apZ h
 obtain⟨b,c,d,rfl⟩:=ahG h'
 exact⟨a,b,c,d,rfl⟩
structure DfA(P:Program)(w:World)(K:PySem.W.Frag)(mg:Str->Option Value)(base:Heap)(f:Addr)(k:Nat)(ps:List Str)(sp:Sp):Prop where
 ex:∃fd:FuncData,FnOk P w K mg base CX0 k f fd ps sp/\Binds K fd ps []/\PySem.W.keepIn K (.ref f)=true
theorem Df.at_{P:Program}{w:World}{K:PySem.W.Frag}{mg:Str->Option Value}{base:Heap}{x:Str}{k:Nat}{ps:List Str}{sp:Sp}{f:Addr}(D:Df P w K mg base x k ps sp)(hm:mg x=some (.ref f)):DfA P w K mg base f k ps sp:=by
 obtain⟨f',fd,F,hb,hm',kp⟩:=D.ex
 rw[hm] at hm'
 cases hm'
 exact⟨fd,F,hb,kp⟩
def apU(f:Addr)(sp:Sp)(tv:TE)(t:TA):TE:=fun σ H Q=>tv σ H fun v H1=>v=.ref f/\af5 sp [] E0 t σ H1 Q
section
variable{X:Cx}{f:Addr}{k k':Nat}{ps:List Str}{sp:Sp}{y:Str}{e:Expr}{es:List Expr}{t:TA}{tv:TE}{p pos:Pos}
theorem eDV(D:DfA X.prog X.w X.K X.mg X.base f k ps sp)(hr:Room k' X.A)(hv:E X (.Name y p) tv)(ha:As X (e::es) t)(hk:k<=k':=by decide)
  (he:starEach (e::es) X.env=(false,eval e X.env)::starEach es X.env:=by rfl) (hpl:(backTo pos (starEach es X.env)).any (·.1)=false:=by rfl):E X (.Call (.Name y p) (e::es) [] pos) (apU f sp tv t):=by
 obtain⟨fd,F,hb,kp⟩:=D.ex
 refine⟨fun pins s σ H Q I h=>?_⟩
 refine wpAny_Call_Name_kw (thn (hv.h pins s σ H _ I h) fun v s1 ⟨x,H1,I1,r1,ex,q⟩=>?_)
 subst ex
 cases r1
 refine PySem.W.callWith_K (h₀:=X.base) I1.ok.mod.kin kp (thn (ha.h pos pins s1 σ H1 _ I1 q) fun us s2 ⟨vs,H2,I2,r,q2⟩=>⟨I2.kIn,?_⟩) he hpl
 exact ak7 F (hr.mono hk) hb .nil aiW I2 r q2
end
section
variable{X:Cx}
def auY:V->List V->Hp->VK->Prop:=fun x vs H Q=>∃l p:List Nat,x=.str (Tx l)/\vs=[.str (Tx p)]/\Q (.bl (decide (l.take p.length=p))) H
theorem asY(l p:List Nat):(decide (0+(Tx p).length<=(Tx l).length)&&Builtin.Str.subAt (Tx l) (Tx p) 0)=decide (l.take p.length=p):=by
 rw[aaT,aaT]
 have e:(Tx l).cps.extract 0 (0+(Tx p).length)=(l.take p.length).toArray:=by
  rw[aaT]
  show l.toArray.extract 0 (0+p.length)=_
  simp
 have e2:(((l.take p.length).toArray==p.toArray:Bool))=decide (l.take p.length=p):=by
  by_cases h:l.take p.length=p
  ·rw[h];simp
  ·rw[decide_eq_false h]
   exact beq_eq_false_iff_ne.mpr fun z=>h (by simpa using congrArg Array.toList z)
 unfold Builtin.Str.subAt
 rw[e]
 show (_&&((l.take p.length).toArray==p.toArray))=_
 rw[e2]
 by_cases h:l.take p.length=p
 ·have:0+p.length<=l.length:=by
   have:=congrArg List.length h
   rw[List.length_take] at this
   omega
  rw[decide_eq_true this,Bool.true_and]
 ·rw[decide_eq_false h,Bool.and_false]
theorem apQ:MtR X "str.startswith" auY:=by
 intro pins s σ H x xs v us Q I rx rv h
 obtain⟨l,p,rfl,rfl,q⟩:=h
 obtain⟨u,rfl,r1⟩:=abI rv
 obtain⟨t',rfl⟩:=r1
 obtain⟨t,rfl⟩:=rx
 refine call_gives PySem.F.slot_str_startswith (typeIs_str _ _ _) PySem.F.entry_str_startswith (PySem.F.args_str_startswith_2 _ _) (gives_str_startswith (Tx l) (Tx p) t t') ?_
 rw[asY]
 exact⟨.bl _,H,I,rfl,q⟩
theorem eSwN{o e:Expr}{to te:TE}{apos cpos:Pos}(ho:E X o to)(he:E X e te)(hbase:attributeBase o "startswith" X.env (eval o X.env)=eval o X.env:=by rfl)
  (hfew:((backTo cpos (starEach [e] X.env)).all (fun x=> !x.1)&&(backToKw cpos (keywordEach [] X.env)).all (fun x=>x.1.isSome)&&decide (([e]:List Expr).length+([]:List Keyword).length+(if ([]:List Keyword).isEmpty then 0 else 1)<30))=true:=by rfl)
  (hline:(apos.endLine==cpos.line)=true:=by rfl) (hs:starEach [e] X.env=(false,eval e X.env)::starEach [] X.env:=by rfl) (hplain:(backTo cpos (starEach [] X.env)).any (·.1)=false:=by rfl):
  E X (.Call (.Attribute o "startswith" apos) [e] [] cpos) (tBM X.K "str" auY to (ad0 te afL)):=
 ⟨ahK PySem.F.plainAttrs_str PySem.F.slot_str_startswith PySem.F.type_str_startswith apQ ho.h (abF he.h abW hs) hbase hfew hline hs hplain⟩
def rEw:V->List V->Hp->VK->Prop:=fun x vs H Q=>∃(l:List Nat) (c:Nat),x=.str (Tx l)/\vs=[.str (Tx [c])]/\Q (.bl (decide (l.getLast? =some c))) H
theorem atX(l:List Nat)(c:Nat):(decide (0+(Tx [c]).length<=(Tx l).length)&&Builtin.Str.subAt (Tx l) (Tx [c]) ((Tx l).length-(Tx [c]).length))=decide (l.getLast? =some c):=by
 rw[aaT,aaT]
 rcases List.eq_nil_or_concat l with rfl | ⟨r,x,rfl⟩
 ·simp
 ·rw[List.concat_eq_append]
  have e:(Tx (r++[x])).cps.extract ((r++[x]).length - [c].length) ((r++[x]).length - [c].length+(Tx [c]).length)= #[x]:=by
   show (r++[x]).toArray.extract ((r++[x]).length-1) ((r++[x]).length-1+1)= #[x]
   rw[List.length_append,List.length_singleton,Nat.add_sub_cancel]
   simp
  unfold Builtin.Str.subAt
  rw[e]
  have e2:decide (0+[c].length<=(r++[x]).length)=true:=by simp
  rw[e2,Bool.true_and,List.getLast?_append,List.getLast?_singleton]
  show (#[x]== #[c])=decide (some x=some c)
  by_cases h:x=c
  ·subst h;simp
  ·have h2:¬some x=some c:=fun z=>h (Option.some.inj z)
   rw[decide_eq_false h2]
   exact beq_eq_false_iff_ne.mpr fun z=>h (by simpa using z)
theorem auI:MtR X "str.endswith" rEw:=by
 intro pins s σ H x xs v us Q I rx rv h
 obtain⟨l,c,rfl,rfl,q⟩:=h
 obtain⟨u,rfl,r1⟩:=abI rv
 obtain⟨t',rfl⟩:=r1
 obtain⟨t,rfl⟩:=rx
 refine call_gives PySem.F.slot_str_endswith (typeIs_str _ _ _) PySem.F.entry_str_endswith (PySem.F.args_str_endswith_2 _ _) (gives_str_endswith (Tx l) (Tx [c]) t t') ?_
 rw[atX]
 exact⟨.bl _,H,I,rfl,q⟩
theorem eEw{o e:Expr}{to te:TE}{apos cpos:Pos}(ho:E X o to)(he:E X e te)(hbase:attributeBase o "endswith" X.env (eval o X.env)=eval o X.env:=by rfl)
  (hfew:((backTo cpos (starEach [e] X.env)).all (fun x=> !x.1)&&(backToKw cpos (keywordEach [] X.env)).all (fun x=>x.1.isSome)&&decide (([e]:List Expr).length+([]:List Keyword).length+(if ([]:List Keyword).isEmpty then 0 else 1)<30))=true:=by rfl)
  (hline:(apos.endLine==cpos.line)=true:=by rfl) (hs:starEach [e] X.env=(false,eval e X.env)::starEach [] X.env:=by rfl) (hplain:(backTo cpos (starEach [] X.env)).any (·.1)=false:=by rfl):
  E X (.Call (.Attribute o "endswith" apos) [e] [] cpos) (tBM X.K "str" rEw to (ad0 te afL)):=
 ⟨ahK PySem.F.plainAttrs_str PySem.F.slot_str_endswith PySem.F.type_str_endswith auI ho.h (abF he.h abW hs) hbase hfew hline hs hplain⟩
end
end L2
namespace KM
open PySem PySem.Spec PyProof.Rows L2
def abK(t:List Nat):Option Mk:=
 if t=[76] then some (.lst 0) else if t=[76,87] then some .wrk
 else if t.take ([76,45]:List Nat).length=[76,45] then (aaK 1 30 (acJ t (some 2) none)).map Mk.lst
 else if t.getLast? =some 87 then (aaK 1 31 (acJ t none (some (-1)))).map Mk.nea else none
def wdN(t:List Nat):Option Int:=(aaK 0 7 t).map fun n=>if n=7 then 0 else n
def anF:Option Int->Option Int->Option Mk
 |some w,some m=>some (.nth w m)
 |_,_=>none
def agK(t:List Nat):Option Mk:=
 if t.getLast? =some 76 then (wdN (acJ t none (some (-1)))).map Mk.one
 else match spl 35 t with
  |[a,b]=>anF (wdN a) (aaK 1 5 b)
  |_=>none
def rdM(wk:Bool)(t:List Nat):Option Mk:=if wk=true then agK t else abK t
def MkV(c:Cs)(H:Hp)(v:V):Option Mk->Prop
 |none=>v=.non
 |some k=>∃x,v=.ref x/\MkAt c H x k
theorem aa5(c:Nat):∀(l:List Nat),∀w∈spl c l,w.length<=l.length
 |[],w,hw=>by simp[spl] at hw;simp[hw]
 |x::r,w,hw=>by
  have ih:=aa5 c r
  unfold spl at hw
  split at hw
  ·rcases List.mem_cons.mp hw with z | z
   ·subst z;simp
   ·have:=ih w z;simp;omega
  ·split at hw
   ·rename_i h t e
    rcases List.mem_cons.mp hw with z | z
    ·subst z
     have:=ih h (by rw[e];simp)
     simp;omega
    ·have:=ih w (by rw[e];simp[z])
     simp;omega
   ·have:w=[x]:=by simpa using hw
    subst this;simp
def RunV(H:Hp)(r:V):Option (Int×Int)->Prop
 |none=>r=.non
 |some (a,b)=>∃p,r=.ref p/\H p=some (.tup [.int a,.int b])
theorem amG(es:List (Option Int)):(es.map oV).all acR=true:=by
 rw[List.all_map]
 refine List.all_eq_true.mpr fun x _=>?_
 cases x<;>rfl
def wk7(m:Int):Int:=Builtin.bitAnd (Builtin.bitOr m (m / 2^(7:Int).toNat)) 127
def Cl(t:List Nat):Prop:=(44∉t/\32∉t)/\t≠[]/\t.length<=8
instance (t:List Nat):Decidable (Cl t):=by unfold Cl;exact inferInstance
def anJ(lo hi:Int)(t:List Nat)(ns:List Int):Prop:=aaH lo hi t=some (ac8 ns)/\Cl t/\(∀n∈ns,lo<=n/\n<=hi)/\ns≠[]/\ns.length<=64
theorem ae3{c:Nat}{a b:List Nat}{d:Nat}(h1:c∉a)(h2:c∉b)(h3:c≠d):c∉a++d::b:=by
 simp only[List.mem_append,List.mem_cons,not_or]
 exact⟨h1,h3,h2⟩
theorem aq5{a b:List Nat}{d:Nat}(ha:(44∉a/\32∉a)/\a≠[]/\a.length<=5)(hb:(44∉b/\32∉b)/\b.length<=2)(h1:44≠d)(h2:32≠d):Cl (a++d::b):=by
 refine⟨⟨ae3 ha.1.1 hb.1.1 h1,ae3 ha.1.2 hb.1.2 h2⟩,by simp,?_⟩
 have:=ha.2.2
 have:=hb.2
 rw[List.length_append,List.length_cons]
 omega
theorem aiJ{n:Nat}(h:n<100):(44∉num n/\32∉num n)/\num n≠[]/\(num n).length<=2:=⟨⟨aa1 h (by decide),aa1 h (by decide)⟩,apI n,(aiA n h).2.2.2⟩
theorem ak3{a b s lo hi:Int}(h0:0<=a)(h1:b<=63)(hab:a<=b)(hs:0<s)(hl:lo<=a)(hb:b<=hi):(∀n∈aeG a b s,lo<=n/\n<=hi)/\aeG a b s≠[]/\(aeG a b s).length<=64:=by
 refine⟨fun n hn=>?_,fun e=>?_,?_⟩
 ·have:=(agX hs).mp hn
  omega
 ·have:a∈aeG a b s:=(agX hs).mpr ⟨Int.le_refl _,hab,by rw[Int.sub_self];rfl⟩
  rw[e] at this
  cases this
 ·rw[aeO,List.length_map,List.length_range,aeN hs,if_pos hab]
  have:=Int.ediv_le_self (a:=b-a) s (by omega)
  omega
theorem amF(a:Int):aeG a a 1=[a]:=by
 rw[aeO,aeN (by decide),if_pos (Int.le_refl a),Int.sub_self]
 show [a+((0:Nat):Int)*1]=[a]
 simp
theorem i1{lo hi a:Int}(h0:0<=lo)(h1:lo<=a)(h2:a<=hi)(h3:hi<=63):anJ lo hi (num a.toNat) [a]:=by
 have ha:a.toNat<100:=by omega
 have e:=amB (lo:=lo) (hi:=hi) ha (by omega) (by omega)
 rw[Int.toNat_of_nonneg (by omega)] at e
 have c:=aiJ ha
 have r:=ak3 (a:=a) (b:=a) (s:=1) (lo:=lo) (hi:=hi) (by omega) (by omega) (by omega) (by decide) h1 h2
 have e2:=ahI (aa1 ha (by decide)) e
 unfold ae2 at e2
 rw[amF] at e2 r
 exact⟨e2,⟨c.1,c.2.1,by have:=c.2.2;omega⟩,r⟩
theorem i2{lo hi a b:Int}(h0:0<=lo)(h1:lo<=a)(h2:a<=b)(h4:b<=hi)(h3:hi<=63):anJ lo hi (num a.toNat++45::num b.toNat) (aeG a b 1):=by
 have ha:a.toNat<100:=by omega
 have hb:b.toNat<100:=by omega
 have e:=alP (lo:=lo) (hi:=hi) ha hb (by omega) (by omega) (by omega)
 rw[Int.toNat_of_nonneg (by omega),Int.toNat_of_nonneg (by omega)] at e
 have ca:=aiJ ha
 have cb:=aiJ hb
 exact⟨ahI (ae3 (aa1 ha (by decide)) (aa1 hb (by decide)) (by decide)) e,aq5 ⟨ca.1,ca.2.1,by have:=ca.2.2;omega⟩ ⟨cb.1,cb.2.2⟩ (by decide) (by decide),ak3 (by omega) (by omega) h2 (by decide) h1 h4⟩
end KM
namespace L2
open PySem PySem.Spec PyProof.Rows PySem.SeqAt
section
variable{X:Cx}
end
end L2
namespace KM
open PySem PySem.Spec PyProof.Rows L2
def TpAt(b:Bool)(H:Hp)(u:Addr)(k:Mk):Prop:=H u=some (.tup k.tup)/\k.sp=true/\k.wk=b/\k.ok
theorem TpAt.keep{b:Bool}{H H':Hp}(s:Keep H H'){u:Addr}{k:Mk}(h:TpAt b H u k):TpAt b H' u k:=⟨s.tup h.1,h.2⟩
def lo_(b:Bool):Int:=if b=true then 0 else 1
def hi_(b:Bool):Int:=if b=true then 7 else 31
theorem ag7:∀(ws:List (List Nat)),(∀w∈ws,w.length<=8)->(aaN 44 ws).length<=9*ws.length
 |[],_=>Nat.zero_le _
 |[w],h=>by
  have:=h w (List.mem_cons_self ..)
  show w.length<=9
  omega
 |w::v::ws,h=>by
  have ih:=ag7 (v::ws) fun z hz=>h z (List.mem_cons_of_mem _ hz)
  have:=h w (List.mem_cons_self ..)
  show (w++44::aaN 44 (v::ws)).length<=_
  rw[List.length_append,List.length_cons,List.length_cons]
  omega
def PrT(H:Hp)(ts:List Addr)(prs:List (Nat×Nat)):Prop:=Paired (fun (t:Addr) (pr:Nat×Nat)=>H t=some (.tup [.int pr.1,.int pr.2])) ts prs
theorem PrT.keep{H H':Hp}{ts:List Addr}{prs:List (Nat×Nat)}(h:PrT H ts prs)(k:Keep H H'):PrT H' ts prs:=Paired.mapP h fun _ _ z=>k.tup z
theorem Paired.at{α β:Type}{F:α->β->Prop}:∀{l:List α} {r:List β} {i:Nat} {a:α},Paired F l r->l[i]? =some a->∃b,r[i]? =some b/\F a b
 |_,_,_,_,.nil,e=>by simp at e
 |_,_,0,_,.cons h _,e=>by
  have:=Option.some.inj e
  subst this
  exact⟨_,rfl,h⟩
 |_,_,i+1,_,.cons _ t,e=>Paired.at (i:=i) t e
def rt(x:Nat×Nat):List Nat:=if x.1=x.2 then num x.1 else num x.1++45::num x.2
end KM
namespace L2
open PySem PySem.Spec PyProof.Rows
section
variable{X:Cx}{f:Addr}{k k':Nat}{ps:List Str}{sp:Sp}{x y e:Expr}{es:List Expr}{t:TA}{tv:TE}{p pos:Pos}
end
section
variable{X:Cx}{C:Addr}{m:Str}{k k':Nat}{ps:List Str}{sp:Sp}{o:Expr}{ta:TE}{apos pos:Pos}
end
section
variable{X:Cx}{body:List Stmt}{tb:TS}{h:ExceptHandler}{hs:List ExceptHandler}{pos:Pos}
end
section
variable{js:List Nat}{σ:St}{tt:TT}{te:TE}{Q:VK}{H1:Hp}
end
section
variable{X:Cx}{o i:Expr}{td ty:TE}{pos:Pos}
end
end L2
namespace KM
open PySem PySem.Spec PyProof.Rows L2
def DV(c:Cs)(H:Hp)(v:V):Option (List Mk)->Prop
 |none=>v=.non
 |some ks=>∃p qs,v=.ref p/\H p=some (.lst (qs.map V.ref))/\Ft (MkAt c H) qs ks/\∀k∈ks,k.ok
theorem DV.keep{c:Cs}{H H':Hp}(s:Same H H'){v:V}:∀{ko:Option (List Mk)},DV c H v ko->DV c H' v ko
 |none,h=>h
 |some _,⟨p,qs,e,h1,h2,h3⟩=>⟨p,qs,e,s _ _ h1,h2.keepM s.keep,h3⟩
end KM
namespace L2
open PySem PySem.Spec PyProof.Rows
def apC(l:List Value):Bool:=match l with
 |.ref _:: .ref _::r=>decide (r=an8)
 |_=>false
structure XS(K:PySem.W.Frag)(C:Addr)(f:Str):Prop where
 xf:XF K C
 cd:((PySem.W.clsIn K C).any fun c=>c.hasDict&&apC c.mro)=true
 sa:PySem.W.findIn K (.ref C) "__setattr__"=some (some (.builtin "object.__setattr__"))
 no:PySem.W.findIn K (.ref C) f=some none
theorem ak2(self:Value){l:List Value}(e:apC l=true):refuseLoop self "__setattr__" l=pure ():=by
 unfold apC at e
 split at e
 ·rw[of_decide_eq_true e,refuseLoop_ref,refuseLoop_ref]
  exact PySem.F.store_ValueError.passes self
 ·cases e
section
open PySem.W Builtin Builtin.ObjectAttr
variable{prog:Program}{w:World}{A:Around}{E:Value->Shared->Prop}{s:Shared}{K:PySem.W.Frag}{x C:Addr}{f:Str}{v:Value}{o:Obj}{vs:Array Value}
theorem akU{od:Option Obj}(hx:s.heap.get? x=some o)(hc:o.cls=.ref C)(hd:o.data=.fields vs)(hdi:match o.dict,od with | some dx,some q=>s.heap.get? dx=some q | none,none=>True | _,_=>False):PySem.W.InstAt s.heap x o C od:=
 ⟨hx,hc,by unfold notCls;rw[hd],hdi⟩
theorem awG{Q:Unit->Shared->Prop}(X:K.In s.heap)(F:XS K C f)(hx:s.heap.get? x=some o)(hc:o.cls=.ref C)(hd:o.data=.fields vs)(hn:o.dict=none)
  (k:∀h' tk,s.heap.get? s.heap.objs.size=none->s.heap.objs.size≠x->h'.get? x=some {o with dict:=some s.heap.objs.size}->h'.Ns1 s.heap.objs.size (fun y=>if y=f then some v else none)->
   (∀b u,b≠x->s.heap.get? b=some u->h'.get? b=some u)->Q () {s with heap:=h',toks:=tk}):
  wpAny (model prog w) A (setAttr (.ref x) f v) Q E s:=by
 have J:PySem.W.InstAt s.heap x o C none:=akU hx hc hd (by rw[hn];exact True.intro)
 have SF:=PySem.F.store_object
 obtain⟨cd,hcl,hh⟩:=PySem.W.any_some F.cd
 obtain⟨hdct,hm⟩:=Bool.and_eq_true_iff.mp hh
 refine PySem.W.set_plain X J F.sa ?_
 have sub:Looks (model prog w) s.heap (isInstance (.ref x) (.type "object")) true:=J.type.andThen (PySem.W.looks_mroIn X F.xf.mo)
 refine codeAny_call_builtin SF.slot.plain SF.entry (@PySem.W.check_slot (model prog w) _ _ {s with toks:=s.toks+1} "object.__setattr__" "object" "__setattr__" (.ref x) [.str f s.toks,v] [] _ SF.kind SF.split sub (SF.args (.ref x) (.str f s.toks) v) ?_)
 have mr:Looks (model prog w) s.heap (mroOf (.ref C)) cd.mro:=(PySem.W.looks_clsIn X hcl).andThen .now
 have L3:Looks (model prog w) s.heap (storeTaker? none) none:=.now
 rw[PySem.W.osa_eq,refuse_eq]
 refine wpAny_bind (wpAny_bind (J.type.here (s:={s with toks:=s.toks+1}) (wpAny_bind (mr.here (s:={s with toks:=s.toks+1}) ?_))))
 rw[ak2 _ hm]
 refine wpAny_pure (wpAny_bind (J.type.here (s:={s with toks:=s.toks+1}) (wpAny_bind ((PySem.W.looks_findIn X F.no).here (s:={s with toks:=s.toks+1}) (wpAny_bind (L3.here (s:={s with toks:=s.toks+1}) ?_))))))
 have hp:s.heap.objs.size≠x:=Nat.ne_of_gt (Heap.lt_size hx)
 have fr:s.heap.get? s.heap.objs.size=none:=Heap.get?_none_of_le (Nat.le_refl _)
 obtain⟨oc,od,oda,osl⟩:=o
 obtain rfl:oc=.ref C:=hc
 obtain rfl:od=none:=hn
 obtain rfl:oda=.fields vs:=hd
 refine wpAny_bind (wpAny_pure (wpAny_bind (wpAny_bind (wpAny_loadPart hx (wpAny_bind (PySem.W.Looks.here (s:={s with toks:=s.toks+1}) (PySem.W.looks_clsIn X hcl) ?_))))))
 rw[hdct,if_neg (by decide)]
 dsimp only
 rw[if_neg (by simp[typeHasDict])]
 have hx1:=Heap.get?_push_of_some {cls:=.type "dict",data:=.dict #[]} hx
 refine wpAny_bind (wpAny_alloc' (wpAny_bind (wpAny_update' hx1 (wpAny_pure ?_))))
 have gD:((s.heap.push {cls:=.type "dict",data:=.dict #[]}).update x fun o=>{o with dict:=some s.heap.objs.size}).get? s.heap.objs.size=some {cls:=.type "dict",data:=.dict #[]}:=
  (Heap.get?_update_ne _ _ _ _ hp).trans (Heap.get?_push_at rfl rfl)
 refine wpAny_bind (wpAny_pure (wpAny_bind (wpAny_nsSet1 (Heap.Ns1.of_empty ⟨_,#[],_,gD,rfl,fun e he=>absurd he (by simp),fun _=>rfl⟩) fun h' n' sb=>?_)))
 obtain⟨oD,eD,pD,goD,dD,cD⟩:=n'.count (Within.cons f v Within.nil)
 refine wpAny_bind (wpAny_lookBehind goD (by rw[dD];exact pastItsLine_dict (Nat.le_trans cD (by rw[List.length_cons,List.length_nil,sizeLine_eq];omega))) (wpAny_pure ?_))
 refine k h' _ fr hp ((sb.2 x hp.symm).trans ?_) n' fun b u hb q=>(sb.2 b (Nat.ne_of_lt (Heap.lt_size q))).trans ((Heap.get?_update_ne _ _ _ _ hb).trans (Heap.get?_push_of_some _ q))
 exact Heap.get?_update_self _ hx1 rfl
theorem ay6{expr:Bool}{dx:Addr}{mA:Str->Option Value}{Q:Value->Shared->Prop}(X:K.In s.heap)(F:XS K C f)(hx:s.heap.get? x=some o)(hc:o.cls=.ref C)(hd:o.data=.fields vs)(hn:o.dict=some dx)(ns:s.heap.Ns1 dx mA)(hv:mA f=some v)(hh:PySem.W.handedIn v=true)
  (h:Q v {s with toks:=s.toks+1}):wpAny (model prog w) A (getAttr (.ref x) f expr) Q E s:=by
 obtain⟨od,ho,hl⟩:=agA ns
 have J:PySem.W.InstAt s.heap x o C (some od):=akU hx hc hd (by rw[hn];exact ho)
 have I:AtC x C s.heap:=⟨o,vs,hx,hc,hd⟩
 obtain⟨cd,hcl,hh2⟩:=PySem.W.any_some F.cd
 obtain⟨hdct,hm⟩:=Bool.and_eq_true_iff.mp hh2
 have L0:=I.ty (M:=model prog w)
 have L1:=PySem.W.looks_findIn (M:=model prog w) X F.xf.ga
 have L2:=PySem.W.looks_findIn (M:=model prog w) X F.xf.nga
 have f3:=PySem.F.attr_ValueError.ga.bind (.ref x)
 have e4:PySem.W.findObj K C (some od) f=some (.value v):=PySem.W.findObj_own (by unfold PySem.W.hasDictIn;rw[hcl];exact hdct) F.no rfl (by rw[hl,hv])
 have L4:=PySem.W.looks_find (M:=model prog w) X J e4
 have hx0:(expr&&onTheHeap (Value.builtin "BaseException.__getattribute__"))=false:=by cases expr<;>rfl
 unfold getAttr getAttrBy
 refine wpAny_bind (wpAny_mkText (wpAny_holding ?_))
 refine wpAny_bind (L0.at ?_)
 refine wpAny_bind (L1.at ?_)
 show wpAny _ _ (getAttrByItsOwn _ _ _ _ _ _) _ _ _
 unfold getAttrByItsOwn
 repeat (first | assumption | with_reducible refine Looks.at (by assumption) ?_ | wp_step)
 refine codeAny_call_builtin PySem.F.attr_ValueError.ga.plain PySem.F.entry_bexc_ga (ac1 F.xf X I ?_)
 unfold Builtin.«object.__getattribute__»
 repeat (first | assumption | with_reducible refine Looks.at (by assumption) ?_ | wp_step)
 show wpAny _ _ (handedOut v) _ _ _
 exact wpAny_of_eq (PySem.W.handedOut_of hh) h
end
def PY(e C:Addr)(d:Option Addr)(h:Heap):Prop:=∃(vs:Array Value) (sl:Array (Option Value)),h.get? e=some ⟨.ref C,d,.fields vs,sl⟩/\vs[1]? =some .none/\vs[2]? =some .none/\4<vs.size
def xn(a C:Addr)(d:Option Addr):HO:=.ext (PY a C d)
theorem PY.ok{P:Program}{w:World}{H:Hp}{h:Heap}{a C:Addr}{d:Option Addr}(x:PY a C d h):ObjOk P w H h a (xn a C d):=by
 obtain⟨vs,sl,e,r⟩:=id x
 exact⟨x,⟨_,e⟩,fun h1 h2 ⟨vs,sl,e,r⟩ k=>⟨vs,sl,k _ e,r⟩⟩
section
variable{X:Cx}{pins:List (Addr×Obj)}{σ:St}{H:Hp}{s:Shared}{a C:Addr}{f:Str}
theorem amT{A:Around}{E:Value->Shared->Prop}{y:V}{u:Value}{Q:Unit->Shared->Prop}(I:Inv X pins σ H s)(e:H a=some (xn a C none))(F:XS X.K C f)(ry:RelV y u)
  (k:∀dx s',H dx=none->dx≠a->Inv X pins σ (upd (upd H dx (.xd [(f,y)])) a (xn a C (some dx))) s'->Q () s'):wpAny (model X.prog X.w) A (setAttr (.ref a) f u) Q E s:=by
 obtain⟨⟨vs,sl,ha,h1,h2,h4⟩,_,_⟩:=I.hok a _ e
 refine awG I.kIn F ha rfl rfl rfl fun h' tk fr ne hx' ns kp=>?_
 have nD:H s.heap.objs.size=none:=I.hok.fresh (Nat.le_refl _)
 have nt:∀{b:Addr} {o:HO},H b=some o->(∀φ,o≠ .ext φ)->b≠a:=fun q n z=>by rw[z,e] at q;exact n _ (Option.some.inj q).symm
 have same:∀{b:Addr} {o:HO},H b=some o->b≠a->upd (upd H s.heap.objs.size (.xd [(f,y)])) a (xn a C (some s.heap.objs.size)) b=some o:=fun q n=>by
  rw[aaD n,aaD (aaE q nD)]
  exact q
 refine k s.heap.objs.size _ nD ne (I.un ⟨fun b o q n _ _=>kp b o (fun z=>by rw[z,e] at n;cases n) q,fun b o q n _ _=>⟨o.slots,kp b o (fun z=>by rw[z,e] at n;cases n) q⟩,fun b o q n _=>?_,fun b o q _=>?_,fun b xs q=>same q (nt q fun _ z=>nomatch z),fun b o v q=>same q (nt q fun _ z=>nomatch z),fun b ps q=>⟨#[],by rw[Array.append_empty];exact same q (nt q fun _ z=>nomatch z)⟩⟩ fun b o q=>?_)
 ·rw[aaD (fun z=>by rw[z,e] at n;cases n),aaD (fun z=>by rw[z,fr] at q;cases q)]
  exact n
 ·by_cases hb:b=a
  ·subst hb
   exact⟨_,hx'⟩
  ·exact⟨o,kp b o hb q⟩
 ·by_cases hb:b=a
  ·subst hb
   rw[aaA] at q
   cases q
   exact PY.ok ⟨vs,sl,hx',h1,h2,h4⟩
  ·rw[aaD hb] at q
   by_cases hd:b=s.heap.objs.size
   ·subst hd
    rw[aaA] at q
    cases q
    refine⟨_,ns,fun g=>?_⟩
    by_cases hg:g=f
    ·subst hg
     rw[List.lookup_cons,show (g==g)=true from beq_self_eq_true g,if_pos rfl]
     exact ry
    ·rw[List.lookup_cons,show (g==f)=false from beq_false_of_ne hg,if_neg hg]
     exact True.intro
   ·rw[aaD hd] at q
    refine (I.hok b o q).stay (fun c v hc z=>kp c v ?_ z) (fun c z=>same z (nt z fun _ y=>nomatch y)) fun c xs z=>same z (nt z fun _ y=>nomatch y)
    rcases hc with rfl | hc
    ·exact hb
    ·exact nt hc fun _ y=>nomatch y
theorem amP{A:Around}{E:Value->Shared->Prop}{expr b:Bool}{dx:Addr}{fs:List (Str×V)}{v:V}{Q:Value->Shared->Prop}(I:Inv X pins σ H s)(e:H a=some (xo a C (some dx) b))(ed:H dx=some (.xd fs))(F:XS X.K C f)(l:fs.lookup f=some v)
  (k:∀u s',RelV v u->Inv X pins σ H s'->Q u s'):wpAny (model X.prog X.w) A (getAttr (.ref a) f expr) Q E s:=by
 obtain⟨⟨o,ha,hc,hd,vs,hv,_⟩,_,_⟩:=I.hok a _ e
 obtain⟨mA,ns,r⟩:=I.hok dx _ ed
 have rf:=r f
 rw[l] at rf
 cases em:mA f with
 |none=>rw[em] at rf;exact False.elim rf
 |some u=>
  rw[em] at rf
  exact ay6 I.kIn F ha hc hv hd ns em (ajT rf) (k u _ rf (I.tok _))
end
def av2(K:PySem.W.Frag)(ta tv:TE)(f:Str):TS:=fun D σ H=>tv σ H fun y H1=>ta σ H1 fun x H2=>∃a C,x=.ref a/\H2 a=some (xn a C none)/\XS K C f/\∀dx,H2 dx=none->dx≠a->D.nx σ (upd (upd H2 dx (.xd [(f,y)])) a (xn a C (some dx)))
def atV(K:PySem.W.Frag)(ta:TE)(f:Str):TE:=fun σ H Q=>ta σ H fun x H1=>∃a C dx b fs v,x=.ref a/\H1 a=some (xo a C (some dx) b)/\H1 dx=some (.xd fs)/\XS K C f/\fs.lookup f=some v/\Q v H1
section
variable{X:Cx}{o e value:Expr}{ta tv:TE}{f:Str}{pos pos':Pos}
theorem sFlX(ha:E X o ta)(hv:E X value tv)(hs:swapsWith value (some (.Attribute o f pos')) pos.line X.env=pure false:=by rfl):S X (.Assign [.Attribute o f pos'] value pos) (av2 X.K ta tv f):=by
 refine⟨fun pins s σ H D I h=>?_⟩
 refine plainObj_wpAny_Assign_Attribute (thn (hv.h pins s σ H _ I h) fun u s1 ⟨y,H1,I1,ry,q⟩=>thn (ha.h pins s1 σ H1 _ I1 q) fun ov s2 ⟨x,H2,I2,rx,a,C,ex,ea,F,q2⟩=>?_) hs
 subst ex
 obtain rfl:ov=Value.ref a:=rx
 exact amT I2 ea F ry fun dx s3 n1 n2 I3=>⟨σ,_,I3,q2 dx n1 n2⟩
theorem axP(he:E X e ta)(hb:attributeBase e f X.env (eval e X.env)=eval e X.env:=by rfl):E X (.Attribute e f pos) (atV X.K ta f):=by
 refine⟨fun pins s σ H Q I h=>?_⟩
 refine alU hb (thn (he.h pins s σ H _ I h) fun u s1 ⟨x,H1,I1,rx,a,C,dx,b,fs,v,ex,ea,ed,F,l,q⟩=>?_)
 subst ex
 obtain rfl:u=Value.ref a:=rx
 exact amP I1 ea ed F l fun u' s2 ru I2=>⟨v,H1,I2,ru,q⟩
end
def ag9(K:PySem.W.Frag)(C:Addr):Bool:=match K.lookup C with
 |some o=>(match o.cls,o.data with
  |.type t,.cls cd=>(match cd.mro,o.slots.toList with
   |.ref C'::bm,[_,_,_,_,some (.builtin n),_]=>t=="type"&&C'==C&&n=="ValueError.__new__"&& !cd.hasDel&&PySem.W.tailIn K an8 bm
   |_,_=>false)
  |_,_=>false)
 |none=>false
theorem ag4{K:PySem.W.Frag}{C:Addr}{h:Heap}(X:K.In h)(q:ag9 K C=true):
  ∃bm N nm qn bs hdct sn sub ab col dd k0 k1 k2 k3 k5,h.get? C=some (excClassObj nm qn C N bs bm hdct sn sub ab col dd k0 k1 k2 k3 k5 "ValueError.__new__")/\OwnTail h an8 bm:=by
 unfold ag9 at q
 split at q
 ·next o ho=>
  obtain⟨oc,od,oda,sl⟩:=o
  dsimp only at q
  split at q
  ·next t cd=>
   split at q
   ·next C' bm k0 k1 k2 k3 n k5 hm hs=>
    simp only[Bool.and_eq_true,beq_iff_eq,Bool.not_eq_true'] at q
    obtain⟨⟨⟨⟨rfl,rfl⟩,rfl⟩,hdel⟩,ht⟩:=q
    obtain⟨nm,bs,mro,ns,qn,hd,sn,sub,ab,col,del⟩:=cd
    dsimp only at hm hdel hs
    subst hm hdel
    obtain⟨l⟩:=sl
    have hs:l=[k0,k1,k2,k3,some (.builtin "ValueError.__new__"),k5]:=hs
    subst hs
    exact⟨bm,ns,nm,qn,bs,hd,sn,sub,ab,col,od,k0,k1,k2,k3,k5,X _ _ ho,PySem.W.tail_of_in X ht⟩
   ·cases q
  ·cases q
 ·cases q
section
open PySem.W
variable{prog:Program}{w:World}{A:Around}{E:Value->Shared->Prop}{s:Shared}{K:PySem.W.Frag}{C fI:Addr}
theorem ak1{rest:List Value}{Q:Value->Shared->Prop}(X:K.In s.heap)(hq:ag9 K C=true)(hi:findIn K (.ref C) "__init__"=some (some (.ref fI)))(hf:typeIn K (.ref fI)=some (.type "function"))(hz:rest.length<=sizeLine)
  (k:∀h' e,Heap.MadeExcOf s.heap h' e (.ref C) rest->wpAny (model prog w) (A.under (.builtin "type.__call__" ⟨.ref C::rest,[]⟩)) (call (.ref fI) (.ref e::rest)) (fun r s'=>r=.none/\Q (.ref e) s') E {s with heap:=h'}):
  wpAny (model prog w) A (call (.ref C) rest) Q E s:=by
 obtain⟨h,g,d,t,os⟩:=s
 obtain⟨bm,N,nm,qn,bs,hdct,sn,sub,ab,col,dd,k0,k1,k2,k3,k5,hC,T⟩:=ag4 X hq
 have VE:=PySem.F.excBase_ValueError
 have c1:=tc_lookup
 have c2:=tc_bind (.ref C)
 have cT:(⟨h,g,d,t,os⟩:Shared).TypeIs (.ref C) "type":=⟨_,hC,rfl⟩
 refine wpAny_call (codeAny_of_tree (show wpAny _ _ (callAny (.ref C) _) _ _ _ from ?_))
 repeat (any_goals (first | with_reducible refine wpAny_loadPart_at hC ?_ | assumption | wp_step))
 refine⟨rfl,codeAny_call_builtin_at (Code.quiet_builtin _ (by decide +kernel)) entry_typeCall (wpAny_check_type_call_sub hC ?_)⟩
 repeat (first | with_reducible refine wpAny_madeBy_exc hC ?_ | with_reducible refine wpAny_loadPart_at hC ?_ | wp_step)
 refine codeAny_call_builtin_code (Code.quiet_builtin _ VE.quiet) (wpAny_check_new_subT VE T hC (codeAny_exc_new_subT VE T hC ?_ hz))
 have kp:∀b o,h.get? b=some o->((h.push {cls:=.type "tuple",data:=.seq rest.toArray}).push {cls:=.ref C,data:=.fields #[.ref h.objs.size,.none,.none,.none,.bool false,.none]}).get? b=some o:=fun b o e=>Heap.get?_push_of_some _ (Heap.get?_push_of_some _ e)
 have he:((h.push {cls:=.type "tuple",data:=.seq rest.toArray}).push {cls:=.ref C,data:=.fields #[.ref h.objs.size,.none,.none,.none,.bool false,.none]}).get? (h.objs.size+1)=some {cls:=.ref C,data:=.fields #[.ref h.objs.size,.none,.none,.none,.bool false,.none]}:=by heap_get
 have ht:((h.push {cls:=.type "tuple",data:=.seq rest.toArray}).push {cls:=.ref C,data:=.fields #[.ref h.objs.size,.none,.none,.none,.bool false,.none]}).get? h.objs.size=some {cls:=.type "tuple",data:=.seq rest.toArray}:=Heap.get?_push_of_some _ (Heap.get?_push_at rfl rfl)
 show wpAny _ _ _ _ _ _
 have kk:=k _ (h.objs.size+1) ⟨kp,Heap.get?_none_of_le (Nat.le_succ _),h.objs.size,he,Heap.get?_none_of_le (Nat.le_refl _),ht⟩
 have hC2:=kp _ _ hC
 have inC:(Value.ref C::bm).contains (.ref C)=true:=by simp
 have X2:K.In _:=X.keeps kp
 have L1:=PySem.W.looks_findIn (M:=model prog w) X2 hi
 have L2:=PySem.W.bind_fn (M:=model prog w) X2 (.ref (h.objs.size+1)) hf
 have L0:Looks (model prog w) _ (typeOf (.ref (h.objs.size+1))) (.ref C):=(PySem.W.Looks.ld he).andThen .now
 unfold isInstance
 repeat (first | with_reducible refine wpAny_loadPart_at he ?_ | wp_step)
 dsimp only
 refine wpAny_isSubtype_exc hC2 ?_
 rw[inC]
 repeat (first | with_reducible refine wpAny_loadPart_at he ?_ | with_reducible refine Looks.at (by assumption) ?_ | wp_step)
 dsimp only
 refine L1.at (wpAny_holding (wpAny_bind (L2.at (wpAny_bind (wpAny_mono kk (fun r s' hr=>?_) fun _ _ z=>z)))))
 obtain⟨rfl,hQ⟩:=hr
 wp_walk
 exact hQ
end
def rem(H:Hp)(a:Addr):Hp:=fun b=>if b=a then none else H b
theorem ae1{H:Hp}{a:Addr}:rem H a a=none:=if_pos rfl
theorem afA{H:Hp}{a b:Addr}(h:b≠a):rem H a b=H b:=if_neg h
section
variable{X:Cx}{pins:List (Addr×Obj)}{σ:St}{H:Hp}{s:Shared}
theorem Inv.forget{a:Addr}{φ:Heap->Prop}(I:Inv X pins σ H s)(e:H a=some (.ext φ)):Inv X pins σ (rem H a) s:=by
 have nt:∀{b:Addr} {o:HO},H b=some o->(∀φ,o≠ .ext φ)->rem H a b=some o:=fun {b o} q n=>by
  rw[afA (fun z=>by rw[z,e] at q;exact n _ (Option.some.inj q).symm)]
  exact q
 have fr:∀{b:Addr},H b=none->rem H a b=none:=fun {b} n=>by
  by_cases hb:b=a
  ·rw[hb];exact ae1
  ·rw[afA hb];exact n
 exact I.un (t':=s.toks) ⟨fun b o q _ _ _=>q,fun b o q _ _ _=>⟨o.slots,q⟩,fun b o _ n _=>fr n,fun b o q _=>⟨o,q⟩,fun b xs q=>nt q (fun _ z=>nomatch z),fun b o v q=>nt q (fun _ z=>nomatch z),fun b ps q=>⟨#[],(by rw[Array.append_empty];exact nt q fun _ z=>nomatch z)⟩⟩ fun b o q=>by
  by_cases hb:b=a
  ·rw[hb,ae1] at q;cases q
  ·rw[afA hb] at q
   exact (I.hok b o q).stay (fun _ _ _ z=>z) (fun c z=>nt z fun _ y=>nomatch y) fun c xs z=>nt z fun _ y=>nomatch y
theorem Inv.born{a:Addr}{o:HO}{h':Heap}{t':Nat}(I:Inv X pins σ H s)(k:∀b u,s.heap.get? b=some u->h'.get? b=some u)(n:s.heap.get? a=none)(new:ObjOk X.prog X.w (upd H a o) h' a o):Inv X pins σ (upd H a o) {s with heap:=h',toks:=t'}:=by
 have nH:H a=none:=by
  cases q:H a with
  |none=>rfl
  |some u=>
   obtain⟨ob,z⟩:=(I.hok a u q).at
   rw[n] at z;cases z
 have same:∀{b:Addr} {u:HO},H b=some u->upd H a o b=some u:=fun q=>by rw[aaD (aaE q nH)];exact q
 refine I.un ⟨fun b u q _ _ _=>k b u q,fun b u q _ _ _=>⟨u.slots,k b u q⟩,fun b u q m _=>?_,fun b u q _=>⟨u,k b u q⟩,fun b xs q=>same q,fun b u v q=>same q,fun b ps q=>⟨#[],(by rw[Array.append_empty];exact same q)⟩⟩ fun b u q=>?_
 ·rw[aaD (fun z=>by rw[z,n] at q;cases q)]
  exact m
 ·by_cases hb:b=a
  ·subst hb
   rw[aaA] at q
   cases q
   exact new
  ·rw[aaD hb] at q
   exact (I.hok b u q).stay (fun c v _ z=>k c v z) (fun c z=>same z) fun c xs z=>same z
end
section
variable{prog:Program}{w:World}{A:Around}{E:Value->Shared->Prop}{s:Shared}{env:Env}
theorem aiI{x:Sem Value}{Q:Flow->Shared->Prop}(hh:A.handled=none)(h:wpAny (model prog w) A x (fun v s1=>∃e C d,v=.ref e/\IsXC C s1.heap/\PX e C d s1.heap/\E (.ref e) s1) E s):wpAny (model prog w) A (raiseStmt env (some x) none) Q E s:=by
 unfold raiseStmt
 refine wpAny_bind (wpAny_mono h (fun v s1 h1=>?_) fun _ _ z=>z)
 obtain⟨e,C,d,rfl,⟨nm,q,N,bs,bm,hdct,sn,sub,ab,col,dd,k0,k1,k2,k3,k5,newId,hC,hB⟩,⟨vs,sl,he,hn,hz⟩,hE⟩:=h1
 have inB:(Value.ref C::bm).contains (.type "BaseException")=true:=by rw[List.contains_cons,hB,Bool.or_true]
 obtain⟨hp,g,dr,tk,os⟩:=s1
 generalize hsf:@setFlight=sf
 repeat (first | with_reducible refine wpAny_loadPart_at he ?_ | with_reducible refine wpAny_loadPart_at hC ?_ | (with_reducible refine wpAny_isSubtype_exc hC ?_;rw[inB]) | wp_step)
 subst hsf
 unfold setFlight
 refine wpAny_bind (wpAny_field he rfl hn ?_)
 rw[if_neg (by decide)]
 exact wpAny_pure (wpAny_raiseNew_none hh hE)
end
def amI(C:Addr)(sp:Sp)(E:XK)(t:TA):TS:=fun _ σ H=>t σ H fun vs H1=>vs.length<=sizeLine/\∀e,H1 e=none->sp (.ref e::vs) (upd H1 e (xn e C none)) (fun v H2=>v=.non/\∃dx,H2 e=some (xn e C (some dx))/\E (.ref C) (some dx) (rem H2 e)) E0
section
variable{X:Cx}{E:XK}{x:Str}{C:Addr}{e:Expr}{es:List Expr}{t:TA}{np cpos pos:Pos}{k k':Nat}{ps:List Str}{sp:Sp}
theorem aqG(hM:av8 X E)(hm:X.mg x=some (.ref C))(hq:ag9 X.K C=true)(D:DfM X.prog X.w X.K X.mg X.base C "__init__" k ps sp)(hr:Room k' X.A)(ha:As X (e::es) t)(hk:k+1<=k':=by decide)(hex:X.ex=[]:=by rfl)(hc:X.calm=true:=by rfl)(hg:Gl X x:=by rfl)(hdb:(x==("__debug__":Str))=false:=by decide)
  (he:starEach (e::es) X.env=(false,eval e X.env)::starEach es X.env:=by rfl) (hpl:(backTo cpos (starEach es X.env)).any (·.1)=false:=by rfl):
  S X (.Raise (some (.Call (.Name x np) (e::es) [] cpos)) none pos) (amI C sp E t):=by
 obtain⟨f,fd,F,hb,hme⟩:=D.ex
 refine⟨fun pins s σ H De I h=>?_⟩
 have pl:(backTo cpos ((false,eval e X.env)::starEach es X.env)).any (·.1)=false:=hpl
 rw[arm_exec_Raise]
 simp only[evalOpt,Option.map]
 refine wpAny_bind (wpAny_standAt (aiI (I.ok.hd hc) ?_))
 refine wpAny_bind (wpAny_mono (wpAny_Call_ofName (abG I hg hm ?_ hdb)) (fun v s3 h3=>wpAny_bind (wpAny_standAt (wpAny_pure h3))) fun _ _ z=>z)
 unfold callWith
 have hw:=ha.h cpos pins s σ H _ I h
 rw[he] at hw ⊢
 refine wpAny_bind (wpAny_holding (Calls.evalArgs_plain (thn hw fun us s2 ⟨vs,H2,I2,r,hz,q⟩=>wpAny_bind (wpAny_standAt ?_))))
 obtain⟨bm,N,nm,qn,bs,hdct,sn,sub,ab,col,dd,k0,k1,k2,k3,k5,hC,T⟩:=ag4 I2.kIn hq
 simp only[pl]
 refine wpAny_bind (wpAny_keeperOf_exc (h:=s2.heap) (g:=s2.gens) (d:=s2.drawn) (t:=s2.toks) (os:=s2.os) hC ?_)
 refine wpAny_bind (ak1 I2.kIn hq hme.at_ (beq_iff_eq.mp hme.fn) (by rw[List.nil_append,←r.length];exact hz) fun h' n mk=>?_)
 obtain⟨t0,there,_,_⟩:=mk.there
 obtain⟨Hn,gn⟩:=I2.newX hex mk.new
 have I3:Inv X pins σ (upd H2 n (xn n C none)) {s2 with heap:=h'}:=I2.born (t':=s2.toks) mk.keeps mk.new (PY.ok ⟨_,_,there,rfl,rfl,(show 4<6 by decide)⟩)
 have sp':=q n Hn
 have r2:Vals (V.ref n::vs) (Value.ref n::us):=.cons rfl r
 have hl:(Value.ref n::us).length=ps.length:=by rw[←r2.length];exact F.len _ _ _ _ sp'
 have hbd:=hb {s2 with heap:=h'} (Value.ref n::us) I3.kIn (by rw[List.append_nil];exact hl)
 rw[List.append_nil] at hbd
 refine wpAny_call (codeAny_mono (F.run _ X.stack _ _ ⟨Value.ref n::us,[]⟩ (Value.ref n::us) (V.ref n::vs) _ E0 ((hr.mono hk).make C us []) (I3.env0.make C us []) hbd r2 sp') fun rr s' hq'=>?_)
 cases rr with
 |error e=>exact False.elim hq'
 |ok fl=>
  cases fl with
  |next=>exact False.elim hq'
  |brk=>exact False.elim hq'
  |cont=>exact False.elim hq'
  |ret u=>
   obtain⟨v,H4,I4,rv,rfl,dx,hx,qE⟩:=I3.after hq'
   obtain⟨⟨vs4,sl4,e4,n1,n2,z4⟩,_,_⟩:=I4.hok n _ hx
   refine⟨rv,wpAny_bind (wpAny_holding (wpAny_point (wpAny_pure ⟨n,C,some dx,rfl,?_,⟨vs4,sl4,e4,n1,z4⟩,?_⟩)))⟩
   ·obtain⟨bm,N,nm,qn,bs,hdct,sn,sub,ab,col,dd,k0,k1,k2,k3,k5,hC4,T4⟩:=ag4 I4.kIn hq
    exact⟨nm,qn,N,bs,bm,hdct,sn,sub,ab,col,dd,k0,k1,k2,k3,k5,_,hC4,T4.hasType (by decide)⟩
   ·have I5:=I4.forget hx
    exact hM pins σ _ _ n C (some dx) true _ vs4 I5 ae1 gn e4 rfl n1 ⟨rfl,rfl,vs4,rfl,fun _=>n2⟩ qE
end
structure RoomQ(k:Nat)(A:Around):Prop where
 dp:A.depth+3*k+5<recursionLimit
 un:A.units+16*k+200<cLine
theorem Room.q{k:Nat}{A:Around}(r:Room k A):RoomQ k A:=⟨r.dp,r.un⟩
theorem RoomQ.mono{j k:Nat}{A:Around}(r:RoomQ k A)(h:j<=k):RoomQ j A:=⟨by have:=r.dp;omega,by have:=r.un;omega⟩
theorem RoomQ.mark{k:Nat}{A:Around}(r:RoomQ k A)(v:Option Value):RoomQ k (A.mark v):=⟨r.dp,r.un⟩
theorem RoomQ.deeper{k:Nat}{A:Around}(r:RoomQ (k+1) A)(env:Env):RoomQ k (A.deeper env):=
 ⟨by have:=r.dp;show A.depth+1+3*k+5<_;omega,by have:=r.un;show A.units+3+16*k+200<_;omega⟩
def anI(P:Program)(w:World)(K:PySem.W.Frag)(mg:Str->Option Value)(base:Heap)(N:List Str)(qual:Str)(scope:Scope)(f:Addr)(cd:Value)(A:Around)(outer:List Env)(s:Shared)(H:Hp):Cx:=
 { (abM CX0 P w K mg base N qual scope f cd A outer s H E0).nox with calm:=false}
section
variable{P:Program}{w:World}{K:PySem.W.Frag}{mg:Str->Option Value}{base:Heap}{N ps:List Str}{qual:Str}{scope:Scope}{f:Addr}{cd:Value}{A:Around}{outer:List Env}{s s1:Shared}{H:Hp}{us:List Value}{vs:List V}
theorem aiC(S':FnScope N ps scope)(e0:Env0 P w K mg base A outer s H)(hl:vs.length=ps.length)(r:Vals vs us)
  (x:InCallC s s.heap.objs.size (bindL (envOfC qual scope s.heap.objs.size f cd).kindOf (ps.zip us) fun _=>none) (cellsFrom (s.heap.objs.size+1) scope.names []) (bindC (envOfC qual scope s.heap.objs.size f cd).kindOf (ps.zip us) fun _=>none) s1):
  Inv (anI P w K mg base N qual scope f cd A outer s H) [] (aa6 N vs) H s1:=by
 have I:=afZ (CX:=CX0) (E:=E0) (A:={A with handled:=none}) (qual:=qual) (f:=f) (cd:=cd) S' rfl ⟨e0.frames,e0.mod,e0.bs,e0.bsz,e0.funs,e0.frf,e0.hok,e0.bare⟩ hl r x
 exact⟨⟨I.ok.mod,I.ok.kind,I.ok.glob,I.ok.blt,I.ok.above,I.ok.inj,I.ok.has,I.ok.cab,(fun z=>nomatch z),Around.frames_deeper e0.frames,I.ok.stk,I.ok.exf,I.ok.bs,I.ok.bsz,I.ok.noex,I.ok.exfs,I.ok.funs,I.ok.frf⟩,I.os,I.bare,I.base,I.loc,I.cell,I.free,I.freeC,I.pin,I.hok,I.len⟩
end
structure DfQ(P:Program)(w:World)(K:PySem.W.Frag)(mg:Str->Option Value)(base:Heap)(x:Str)(k:Nat)(ps:List Str)(sp:Sp):Prop where
 ex:∃(f:Addr) (fd:FuncData),(∀vs H Q E,sp vs H Q E->vs.length=ps.length)/\(∀(A:Around) (outer:List Env) (s:Shared) (H:Hp) (args:Args) (us:List Value) (vs:List V) (Q:VK),RoomQ k A->Env0 P w K mg base A outer s H->BindsTo s fd args (ps.zip us)->Vals vs us->sp vs H Q E0->
  codeAny (model P w) A (.call (.ref f) args) (CR CX0 outer P w H s Q E0) s)/\Binds K fd ps []/\mg x=some (.ref f)/\PySem.W.keepIn K (.ref f)=true
section
variable{P:Program}{w:World}{K:PySem.W.Frag}{mg:Str->Option Value}{base:Heap}{x:Str}{st:Stmt}{ps N:List Str}{k:Nat}{sp:Sp}
theorem Fn.dfsQ(F:Fn K mg x st ps)(S':FnScope N ps (aaC st))(len:∀vs H Q E,sp vs H Q E->vs.length=ps.length)
  (hbody:∀(f:Addr) (cdv:Value) (A:Around) (outer:List Env) (s:Shared) (H:Hp) (vs:List V) (Q:VK),RoomQ k (A.deeper (envOfC x (aaC st) s.heap.objs.size f cdv))->sp vs H Q E0->
   ∃t,Ss (anI P w K mg base N x (aaC st) f cdv A outer s H) (aaJ st) t/\t {nx:=fun _ H'=>Q .non H',rt:=Q} (aa6 N vs) H):DfQ P w K mg base x (k+1) ps sp:=by
 obtain⟨f,fd,F1,hb,hm⟩:=F.ex
 have kp:=F1.kp
 obtain⟨oc,od,kV,doc,pm,an,cdv,ct,osl,rfl,lk,hcd⟩:=F1.ex
 refine⟨⟨f,_,len,fun A outer s H args us vs Q hr e0 hbd r hsp=>?_,hb,hm,kp⟩⟩
 have stay:∀b o,base.get? b=some o->s.heap.get? b=some o:=fun b o e=>(e0.bs b o e).1
 have KX:=e0.mod.kin.keeps stay
 have names:∀y∈ps.zip us,(aaC st).names.lookup y.1=some .local∨((aaC st).names.lookup y.1=some .cell/\((cellsFrom (s.heap.objs.size+1) (aaC st).names []).lookup y.1).isSome=true):=fun y hy=>by
  rcases S'.par y.1 (List.of_mem_zip hy).1 with q | q
  ·exact .inl q
  ·exact .inr ⟨q,PySem.W.cellsFrom_some _ _ _ (.inl q)⟩
 refine codeAny_call_function (by have:=hr.dp;omega) (KX _ _ lk) rfl S'.co S'.gen rfl (PySem.W.codeRec_of KX hcd) (hbd _ _ _ _ (wpAny_newFunctionEnv_cells S'.kind names fun env he s1 y=>?_))
 subst he
 refine⟨(e0.mod.nolimit.keeps stay).keeps y.toInCall.keep,codeAny_func ?_⟩
 obtain⟨t,ht,hq⟩:=hbody f cdv A outer s H vs Q (hr.deeper _) hsp
 have I:=aiC (qual:=x) (f:=f) (cd:=cdv) S' e0 (len _ _ _ _ hsp) r y
 refine wpAny_mono (ht.h [] s1 (aa6 N vs) H _ I hq) (fun fl s' hs=>?_) fun e s' hs=>False.elim hs
 cases fl with
 |ret u=>
  obtain⟨v,σ',H',J,rv,q⟩:=hs
  exact⟨v,H',J.os,J.bare,J.base,J.hok,rv,q⟩
 |next=>
  obtain⟨σ',H',J,q⟩:=hs
  exact⟨V.non,H',J.os,J.bare,J.base,J.hok,rfl,q⟩
 |brk=>obtain⟨_,_,_,q⟩:=hs;exact False.elim q
 |cont=>obtain⟨_,_,_,q⟩:=hs;exact False.elim q
end
section
variable{X:Cx}{k k':Nat}{ps:List Str}{sp:Sp}{x:Str}{e:Expr}{es:List Expr}{tA:TA}{p pos:Pos}
theorem eDQ(D:DfQ X.prog X.w X.K X.mg X.base x k ps sp)(hr:RoomQ k' X.A)(ha:As X (e::es) tA)(hk:k<=k':=by decide)(hg:Gl X x:=by rfl)(hdb:(x==("__debug__":Str))=false:=by decide)
  (he:starEach (e::es) X.env=(false,eval e X.env)::starEach es X.env:=by rfl) (hpl:(backTo pos (starEach es X.env)).any (·.1)=false:=by rfl):E X (.Call (.Name x p) (e::es) [] pos) (af5 sp [] E0 tA):=by
 obtain⟨f,fd,len,run,hb,hm,kp⟩:=D.ex
 refine⟨fun pins s σ H Q I h=>?_⟩
 refine wpAny_Call_Name_kw (abG I hg hm ?_ hdb)
 refine PySem.W.callWith_K (h₀:=X.base) I.ok.mod.kin kp (thn (ha.h pos pins s σ H _ I h) fun us s1 ⟨vs,H1,I1,r,q⟩=>⟨I1.kIn,?_⟩) he hpl
 have q:sp (vs++[]) H1 Q E0:=q
 rw[List.append_nil] at q
 have hl:us.length=ps.length:=by rw[←r.length];exact len _ _ _ _ q
 have hbd:=hb s1 us I1.kIn (by rw[List.append_nil];exact hl)
 rw[List.append_nil] at hbd
 refine wpAny_call (codeAny_mono (run X.A X.stack s1 H1 ⟨us,[]⟩ us vs Q (hr.mono hk) I1.env0 hbd r q) fun rr s' hq=>?_)
 cases rr with
 |error e=>exact False.elim hq
 |ok fl=>
  cases fl with
  |ret u=>exact I1.after hq
  |next=>exact False.elim hq
  |brk=>exact False.elim hq
  |cont=>exact False.elim hq
end
structure Df1A(P:Program)(w:World)(K:PySem.W.Frag)(mg:Str->Option Value)(base:Heap)(f:Addr)(k:Nat)(ps:List Str)(sp:Sp):Prop where
 ex:∃fd:FuncData,FnOk P w K mg base (CX1 P w) k f fd ps sp/\Binds K fd ps []/\PySem.W.keepIn K (.ref f)=true
theorem Df1.at_{P:Program}{w:World}{K:PySem.W.Frag}{mg:Str->Option Value}{base:Heap}{x:Str}{k:Nat}{ps:List Str}{sp:Sp}{f:Addr}(D:Df1 P w K mg base x k ps sp)(hm:mg x=some (.ref f)):Df1A P w K mg base f k ps sp:=by
 obtain⟨f',fd,F,hb,hm',kp⟩:=D.ex
 rw[hm] at hm'
 cases hm'
 exact⟨fd,F,hb,kp⟩
def aoD(f:Addr)(sp:Sp)(tv:TE)(t:TA):TX:=fun σ H Q E=>tv σ H fun v H1=>v=.ref f/\t σ H1 fun vs H2=>sp vs H2 Q E
section
variable{X:Cx}{f:Addr}{k k':Nat}{ps:List Str}{sp:Sp}{x y e:Expr}{es:List Expr}{tA:TA}{tv:TE}{p pos:Pos}{t u:TX}
theorem xDS(D:Df1A X.prog X.w X.K X.mg X.base f k ps sp)(hr:Room k' X.A)(hv:E X.nox (.Subscript x y p) tv)(ha:As X.nox (e::es) tA)(hk:k<=k':=by decide)
  (he:starEach (e::es) X.env=(false,eval e X.env)::starEach es X.env:=by rfl) (hpl:(backTo pos (starEach es X.env)).any (·.1)=false:=by rfl):Px X (.Call (.Subscript x y p) (e::es) [] pos) (aoD f sp tv tA):=by
 obtain⟨fd,F,hb,kp⟩:=D.ex
 refine⟨fun pins s σ H Q E I h=>?_⟩
 show wpAny _ _ (eval (.Subscript x y p) X.env >>=fun g=>callWith pos g [] (backTo pos (starEach (e::es) X.env)) (backToKw pos (keywordEach [] X.env))) _ _ s
 refine wpAny_bind (wpAny_mono (hv.h pins s σ H _ (I.wish _) h) (fun v s1 ⟨z,H1,I1',r1,ex,q⟩=>?_) fun _ _ z=>False.elim z)
 subst ex
 cases r1
 have I1:Inv X pins σ H1 s1:=I1'.unwish
 refine PySem.W.callWith_K (h₀:=X.base) I1.ok.mod.kin kp (wpAny_mono (ha.h pos pins s1 σ H1 _ (I1.wish _) q) (fun us s2 ⟨vs,H2,I2',r,q2⟩=>?_) fun _ _ z=>False.elim z) he hpl
 have I2:Inv X pins σ H2 s2:=I2'.unwish
 refine⟨I2.kIn,?_⟩
 have hl:us.length=ps.length:=by rw[←r.length];exact F.len _ _ _ _ q2
 have hbd:=hb s2 us I2.kIn (by rw[List.append_nil];exact hl)
 rw[List.append_nil] at hbd
 refine wpAny_call (codeAny_mono (F.run X.A X.stack s2 H2 ⟨us,[]⟩ us vs Q E (hr.mono hk) I2.env0 hbd r q2) fun rr s' hq=>?_)
 cases rr with
 |error e=>exact⟨s2,H2,I2,hq⟩
 |ok fl=>
  cases fl with
  |ret u=>exact I2.after hq
  |next=>exact False.elim hq
  |brk=>exact False.elim hq
  |cont=>exact False.elim hq
theorem xOr2(h:Px X e t)(h':Px X e u):Px X e (fun σ H Q E=>t σ H Q E∨u σ H Q E):=
 ⟨fun pins s σ H Q E I z=>z.elim (h.h pins s σ H Q E I) (h'.h pins s σ H Q E I)⟩
end
end L2
namespace K38
open PySem PySem.Spec PyProof.Rows L2 KM
def top(i:Nat):Stmt:=PySem.Challenge.pw_fivefields_k38_marks_refused.main.body.getD i (.Pass ⟨0,0,0,0⟩)
abbrev acS:Stmt:=top 13
abbrev acZ:Stmt:=top 14
abbrev af6:Stmt:=top 19
abbrev aeZ:Stmt:=top 20
abbrev acU:Stmt:=top 21
abbrev afE:Stmt:=top 22
abbrev ab6:Stmt:=top 23
abbrev adV:Stmt:=top 24
abbrev aa9:Stmt:=abO (top 39) 0
abbrev aaP:Stmt:=abO (top 40) 0
abbrev abT:Stmt:=abO (top 41) 0
abbrev aa7:Stmt:=abO (top 43) 0
abbrev ab7:Stmt:=abO (top 44) 0
abbrev abC:Stmt:=abO (top 45) 0
abbrev abS:Stmt:=top 46
abbrev acA:Stmt:=top 47
abbrev aa8:Stmt:=top 48
abbrev abB:Stmt:=abO (top 5) 0
abbrev ac5:Stmt:=top 49
abbrev ad3:Stmt:=top 50
abbrev abR:Stmt:=top 51
abbrev acD:Stmt:=top 53
abbrev adU:Stmt:=top 54
abbrev acV:Stmt:=top 55
abbrev adA:Stmt:=top 56
abbrev ac0:Stmt:=top 57
abbrev adB:Stmt:=top 58
abbrev abZ:Stmt:=top 60
abbrev adC:Stmt:=top 59
abbrev ae7:Stmt:=top 61
abbrev adZ:Stmt:=top 62
abbrev acC:Stmt:=top 63
abbrev af3:Stmt:=top 64
theorem abE{H H1:Hp}{e dx:Addr}{o u1 u2:HO}(s:Same H H1)(he:H1 e=none)(hd:upd H1 e u1 dx=none)(ne:dx≠e):Same H (rem (upd (upd (upd H1 e u1) dx o) e u2) e)/\rem (upd (upd (upd H1 e u1) dx o) e u2) e dx=some o:=by
 have n1:H1 dx=none:=by rw[aaD ne] at hd;exact hd
 refine⟨fun b v hb=>?_,by rw[afA ne,aaD ne,aaA]⟩
 have hb1:=s b v hb
 rw[afA (aaE hb1 he),aaD (aaE hb1 he),aaD (aaE hb1 n1),aaD (aaE hb1 he)]
 exact hb1
def abJ(wk:Bool)(lo hi:Int):List (List Nat)->Nat->Nat->Option Nat
 |[],_,_=>none
 |w::ws,i,m=>match aaH lo hi w with
  |some _=>abJ wk lo hi ws (i+1) m
  |none=>match rdM wk w with
   |none=>some i
   |some _=>if m=20 then some i else abJ wk lo hi ws (i+1) (m+1)
def aaY(wk:Bool)(lo hi:Int)(l:List Nat):Option Nat:=
 if 300<l.length then some 0 else match abJ wk lo hi ((spl 44 l).take 40) 0 0 with
  |some p=>some p
  |none=>if 40<(spl 44 l).length then some 40 else none
theorem ay4{wk:Bool}{lo hi:Int}{l:List Nat}(h:300<l.length):aaY wk lo hi l=some 0:=if_pos h
theorem ag0{wk:Bool}{lo hi:Int}{l:List Nat}{i:Nat}(h:¬300<l.length)(e:abJ wk lo hi ((spl 44 l).take 40) 0 0=some i):aaY wk lo hi l=some i:=by
 unfold aaY
 rw[if_neg h,e]
theorem arG{wk:Bool}{lo hi:Int}{l:List Nat}(h:¬300<l.length)(e:abJ wk lo hi ((spl 44 l).take 40) 0 0=none)(h4:40<(spl 44 l).length):aaY wk lo hi l=some 40:=by
 unfold aaY
 rw[if_neg h,e]
 exact if_pos h4
theorem anV{wk:Bool}{lo hi:Int}{l:List Nat}(h:¬300<l.length)(e:abJ wk lo hi ((spl 44 l).take 40) 0 0=none)(h4:¬40<(spl 44 l).length):aaY wk lo hi l=none:=by
 unfold aaY
 rw[if_neg h,e]
 exact if_neg h4
section
variable{wk:Bool}{lo hi:Int}{w:List Nat}{ws:List (List Nat)}{i m:Nat}
theorem ajB{z:Int}(h:aaH lo hi w=some z):abJ wk lo hi (w::ws) i m=abJ wk lo hi ws (i+1) m:=by
 unfold abJ;rw[h];cases ws<;>rfl
theorem agE(h:aaH lo hi w=none)(k:rdM wk w=none):abJ wk lo hi (w::ws) i m=some i:=by
 unfold abJ;rw[h,k]
theorem agU{x:Mk}(h:aaH lo hi w=none)(k:rdM wk w=some x)(e:m=20):abJ wk lo hi (w::ws) i m=some i:=by
 unfold abJ;rw[h,k];exact if_pos e
theorem agD{x:Mk}(h:aaH lo hi w=none)(k:rdM wk w=some x)(e:¬m=20):abJ wk lo hi (w::ws) i m=abJ wk lo hi ws (i+1) (m+1):=by
 unfold abJ;rw[h,k]
 show (if m=20 then _ else _)=_
 rw[if_neg e]
 cases ws<;>rfl
end
theorem ajC{α:Type}{xs:List α}{i:Nat}{x:α}(h:xs[i]? =some x):xs.drop i=x::xs.drop (i+1):=by
 obtain⟨hi,rfl⟩:=List.getElem?_eq_some_iff.mp h
 exact List.drop_eq_getElem_cons hi
theorem an0(xs:List V):aiG xs none (some 40)=xs.take 40:=by
 unfold aiG
 have e1:HT.sIx xs.length 0 none=0:=rfl
 have e2:HT.sIx xs.length xs.length (some 40)=min 40 xs.length:=by
  unfold HT.sIx
  simp
 rw[e1,e2,List.drop_zero,Nat.sub_zero,List.take_eq_take_iff]
 omega
theorem adD{xs:List V}{i:Int}(h0:0<=i)(h1:i<xs.length):∃v,atI xs i=some v/\v∈xs:=by
 have hk:i.toNat<xs.length:=by omega
 have e:i=((i.toNat:Nat):Int):=by omega
 refine⟨xs[i.toNat],?_,List.getElem_mem hk⟩
 have z:atI xs ((i.toNat:Nat):Int)=some xs[i.toNat]:=aeP (List.getElem?_eq_getElem hk)
 rw[←e] at z
 exact z
def ad7(w:List Nat):Bool:=decide (76∈w)||(decide (87∈w)||decide (35∈w))
def abD(wk:Bool)(x:List Nat×Bool):Bool:= !x.1.contains 44&&(decide (x.1.length<=8)&&(if x.2=true then ((aaH (lo_ wk) (hi_ wk) x.1).isSome&& !ad7 x.1)||((aaH (lo_ wk) (hi_ wk) x.1).isNone&&((rdM wk x.1).isSome&&ad7 x.1)) else (aaH (lo_ wk) (hi_ wk) x.1).isNone&&(rdM wk x.1).isNone))
def pls(wk:Bool):List (List Nat):=if wk=true then [[48],[55],[49,45,53],[42,47,50],[53,47,50],[42],[48,45,55]] else [[49],[51,49],[50,45,57],[42,47,57],[49,47,50],[42],[51,48,45,51,49]]
def mks(wk:Bool):List (List Nat):=if wk=true then [[53,76],[48,35,49],[55,76],[55,35,53],[54,76],[51,35,51]] else [[76],[76,87],[76,45,51,48],[51,49,87],[49,87],[76,45,49]]
def wrs(wk:Bool):List (List Nat):=if wk=true then [[],[32],[42,42],[49,45],[45,49],[53,45,52],[49,47,48],[49,47,49,48,48],[48,49],[49,47,48,53],[120],[49,45,45,50],[47,50],[49,47,50,47,51],[108],[108,119],[53,46],[76,42],[76,76],[76,47,50],[49,32],[32,49],[42,47],[49,45,50,45,51],[87],[35,49],[49,35],[43,49],[76,45],[49,53,119],[53,108],[49,95,48],[56],[48,45,56],[56,76],[53,35,48],[53,35,54],[56,35,49],[76],[76,87],[49,87],[48,53,76],[53,35,48,49],[49,76,47,50],[54,45,48]] else [[],[32],[42,42],[49,45],[45,49],[53,45,52],[49,47,48],[49,47,49,48,48],[48,49],[49,47,48,53],[120],[49,45,45,50],[47,50],[49,47,50,47,51],[108],[108,119],[53,46],[76,42],[76,76],[76,47,50],[49,32],[32,49],[42,47],[49,45,50,45,51],[87],[35,49],[49,35],[43,49],[76,45],[49,53,119],[53,108],[49,95,48],[48],[51,50],[48,45,53],[51,48,45,51,50],[76,45,48],[76,45,51,49],[76,45,48,49],[48,87],[51,50,87],[48,49,87],[53,76],[49,35,49],[76,45,87]]
theorem akQ:∀wk:Bool,(pls wk).all (fun w=>abD wk (w,true))=true:=by decide +kernel
theorem ak4:∀wk:Bool,(mks wk).all (fun w=>abD wk (w,true))=true:=by decide +kernel
theorem aoW:∀wk:Bool,(wrs wk).all (fun w=>abD wk (w,false))=true:=by decide +kernel
theorem asW:∀wk:Bool,abD wk ([49,45,50],true)=true:=by decide +kernel
theorem au3:∀wk:Bool,abD wk ([49],true)=true:=by decide +kernel
abbrev It2:=List Nat×Bool
def ItAt(H:Hp)(u:Addr)(x:It2):Prop:=H u=some (.tup [.str (Tx x.1),.bl x.2])
theorem ItAt.keep{H H':Hp}(k:Keep H H'){u:Addr}{x:It2}(h:ItAt H u x):ItAt H' u x:=k.tup h
def Its(H:Hp)(us:List Addr)(its:List It2):Prop:=Paired (ItAt H) us its
theorem Its.keep{H H':Hp}(k:Keep H H'){us:List Addr}{its:List It2}(h:Its H us its):Its H' us its:=Paired.imp' (fun _ _ z=>z.keep k) h
theorem Its.app{H:Hp}:∀{us vs:List Addr} {its jts:List It2},Its H us its->Its H vs jts->Its H (us++vs) (its++jts)
 |_,_,_,_,.nil,h=>h
 |_,_,_,_,.cons r t,h=>.cons r (Its.app t h)
theorem Its.get{H:Hp}{us:List Addr}{its:List It2}{i:Nat}{u:Addr}(h:Its H us its)(e:us[i]? =some u):∃x,its[i]? =some x/\ItAt H u x:=KM.Paired.at h e
theorem Its.rep{H:Hp}{us:List Addr}{its:List It2}(h:Its H us its):∀n:Nat,Its H (List.replicate n us).flatten (List.replicate n its).flatten
 |0=>.nil
 |n+1=>by
  rw[List.replicate_succ,List.replicate_succ,List.flatten_cons,List.flatten_cons]
  exact Its.app h (Its.rep h n)
theorem Its.set{H:Hp}{u:Addr}{x:It2}(hx:ItAt H u x):∀{us:List Addr} {its:List It2} {j:Nat},Its H us its->Its H (us.set j u) (its.set j x)
 |_,_,_,.nil=>.nil
 |_,_,0,.cons _ b=>.cons hx b
 |_,_,j+1,.cons a b=>.cons a (Its.set hx b)
def mk1(x:It2)(m:Nat):Nat:=if (x.2&&ad7 x.1)=true then m+1 else m
def ab9:List It2->Nat->Nat->Option Nat
 |[],_,_=>none
 |x::r,i,m=>if (!x.2||decide (20<mk1 x m))=true then some i else ab9 r (i+1) (mk1 x m)
def ac3(its:List It2):Option Nat:=if 300<(aaN 44 (its.map (·.1))).length then some 0 else match ab9 (its.take 40) 0 0 with
 |some p=>some p
 |none=>if 40<its.length then some 40 else none
def nV:Option Nat->V
 |none=>.non
 |some p=>.int p
theorem ag2{wk:Bool}{x:It2}(h:abD wk x=true):44∉x.1/\x.1.length<=8/\(if x.2=true then ((∃z,aaH (lo_ wk) (hi_ wk) x.1=some z)/\ad7 x.1=false)∨(aaH (lo_ wk) (hi_ wk) x.1=none/\(∃k,rdM wk x.1=some k)/\ad7 x.1=true) else aaH (lo_ wk) (hi_ wk) x.1=none/\rdM wk x.1=none):=by
 unfold abD at h
 rw[Bool.and_eq_true,Bool.and_eq_true,Bool.not_eq_true'] at h
 refine⟨fun z=>(by rw[List.contains_iff_mem.mpr z] at h;exact absurd h.1 (by decide)),of_decide_eq_true h.2.1,?_⟩
 have h2:=h.2.2
 by_cases c:x.2=true
 ·rw[if_pos c] at h2 ⊢
  rw[Bool.or_eq_true,Bool.and_eq_true,Bool.and_eq_true,Bool.and_eq_true,Bool.not_eq_true'] at h2
  rcases h2 with ⟨a,b⟩ | ⟨a,b,d⟩
  ·exact .inl ⟨Option.isSome_iff_exists.mp a,b⟩
  ·exact .inr ⟨Option.isNone_iff_eq_none.mp a,Option.isSome_iff_exists.mp b,d⟩
 ·rw[if_neg c] at h2 ⊢
  rw[Bool.and_eq_true] at h2
  exact⟨Option.isNone_iff_eq_none.mp h2.1,Option.isNone_iff_eq_none.mp h2.2⟩
theorem ai1{wk:Bool}:∀{its:List It2} {i m:Nat},(∀x∈its,abD wk x=true)->m<=20->abJ wk (lo_ wk) (hi_ wk) (its.map (·.1)) i m=ab9 its i m
 |[],_,_,_,_=>rfl
 |x::r,i,m,h,hm=>by
  obtain⟨_,_,hx⟩:=ag2 (h x (by simp))
  have ih:=fun {m} (hm:m<=20)=>ai1 (its:=r) (i:=i+1) (m:=m) (fun y hy=>h y (List.mem_cons_of_mem _ hy)) hm
  rw[List.map_cons]
  unfold ab9
  by_cases c:x.2=true
  ·rw[if_pos c] at hx
   rcases hx with ⟨⟨z,hz⟩,hk⟩ | ⟨hz,⟨k,hk⟩,hmk⟩
   ·have e:mk1 x m=m:=by unfold mk1;rw[hk,Bool.and_false];rfl
    rw[ajB hz,e,c,decide_eq_false (by omega),if_neg (by decide)]
    exact ih hm
   ·have e:mk1 x m=m+1:=by unfold mk1;rw[c,hmk];rfl
    rw[e,c]
    by_cases d:m=20
    ·rw[agU hz hk d,decide_eq_true (by omega),if_pos (by decide)]
    ·rw[agD hz hk d,decide_eq_false (by omega),if_neg (by decide)]
     exact ih (by omega)
  ·rw[if_neg c] at hx
   rw[agE hx.1 hx.2,Bool.eq_false_iff.mpr c,if_pos (by rw[Bool.not_false,Bool.true_or])]
theorem ap0{wk:Bool}{its:List It2}(h:∀x∈its,abD wk x=true)(hne:its≠[]):aaY wk (lo_ wk) (hi_ wk) (aaN 44 (its.map (·.1)))=ac3 its:=by
 have e:=aeT 44 (its.map (·.1)) (fun z=>hne (List.map_eq_nil_iff.mp z)) fun w hw=>by
  obtain⟨x,hx,rfl⟩:=List.mem_map.mp hw
  exact (ag2 (h x hx)).1
 unfold aaY ac3
 rw[e,←List.map_take,ai1 (fun x hx=>h x (List.mem_of_mem_take hx)) (by decide),List.length_map]
theorem ai6:∀{ws:List (List Nat)},(∀w∈ws,w.length<=8)->(aaN 44 ws).length<=9*ws.length:=fun {ws} h=>ag7 ws h
theorem rep1{α:Type}(n:Nat)(x:α):(List.replicate n [x]).flatten=List.replicate n x:=List.flatten_replicate_singleton
theorem al9{wk:Bool}{its:List It2}{j:Nat}{x:It2}(h:∀y∈its,abD wk y=true)(hx:abD wk x=true):∀y∈its.set j x,abD wk y=true:=fun y hy=>(List.mem_or_eq_of_mem_set hy).elim (h y) fun e=>e▸hx
theorem agM{wk:Bool}{a b:List It2}(h:∀y∈a,abD wk y=true)(h':∀y∈b,abD wk y=true):∀y∈a++b,abD wk y=true:=fun y hy=>(List.mem_append.mp hy).elim (h y) (h' y)
theorem ai0{wk:Bool}{a:List It2}{n:Nat}(h:∀y∈a,abD wk y=true):∀y∈(List.replicate n a).flatten,abD wk y=true:=fun y hy=>by
 obtain⟨l,hl,hy⟩:=List.mem_flatten.mp hy
 rw[List.eq_of_mem_replicate hl] at hy
 exact h y hy
theorem ten{ds:List Int}(h:Digs ds [4,6,5,3,3,42,42,45,45,9]):∃d0 d1 d2 d3 d4 d5 d6 d7 d8 d9:Int,ds=[d0,d1,d2,d3,d4,d5,d6,d7,d8,d9]/\(0<=d0/\d0<4)/\(0<=d1/\d1<6)/\(0<=d2/\d2<5)/\(0<=d3/\d3<3)/\(0<=d4/\d4<3)/\(0<=d7/\d7<45)/\(0<=d8/\d8<45):=by
 cases h with
 |cons h0 r=>cases r with | cons h1 r=>cases r with | cons h2 r=>cases r with | cons h3 r=>cases r with | cons h4 r=>cases r with | cons h5 r=>cases r with | cons h6 r=>cases r with | cons h7 r=>cases r with | cons h8 r=>cases r with | cons h9 r=>cases r;exact⟨_,_,_,_,_,_,_,_,_,_,rfl,h0,h1,h2,h3,h4,h7,h8⟩
theorem amR{d0 d1 d2:Int}(h1:0<=d1/\d1<6)(h2:0<=d2/\d2<5):∃n:Nat,atI [V.int (1+d1),V.int (38+d2)] (d0%2)=some (V.int n)/\1<=n/\n<=42:=by
 have e:d0%2=0∨d0%2=1:=by omega
 rcases e with e | e
 ·refine⟨(1+d1).toNat,?_,by omega,by omega⟩
  rw[e,Int.toNat_of_nonneg (by omega)]
  rfl
 ·refine⟨(38+d2).toNat,?_,by omega,by omega⟩
  rw[e,Int.toNat_of_nonneg (by omega)]
  rfl
theorem akZ{d3:Int}(h:0<=d3/\d3<3):∃z:Int,atI [V.int 0,V.int 26,V.int 3] d3=some (V.int z):=by
 have e:d3=0∨d3=1∨d3=2:=by omega
 rcases e with rfl | rfl | rfl<;>exact⟨_,rfl⟩
theorem atH{xs:List V}{b:Int}{k:Nat}{x y:V}{P:V->Prop}(hk:k<2)(h0:atI xs b=some x)(h1:atI xs (b+1)=some y)(p0:P x)(p1:P y):∃z,atI xs (b+(0+(k:Int)))=some z/\P z:=by
 match k,hk with
 |0,_=>exact⟨x,by rw[←h0];congr 1;omega,p0⟩
 |1,_=>exact⟨y,by rw[←h1];congr 1,p1⟩
def l40:List (List Nat):=List.replicate 40 [48,45,54,47,57,57]
def l39:List (List Nat):=List.replicate 36 [49,48,45,50,48,47,50]++[[49,48],[49,48],[49,48]]
def t80:List Nat:=(List.replicate 80 [49,45,50,44]).flatten++[49]
theorem apR:aaY true (lo_ true) (hi_ true) (aaN 44 l40)=none/\(aaN 44 l40).length=279:=by decide +kernel
theorem at5:aaY true (lo_ true) (hi_ true) t80=some 0/\t80.length=321:=by decide +kernel
theorem as1:aaY false (lo_ false) (hi_ false) (aaN 44 (l39++[[49,45,50]]))=none/\(aaN 44 (l39++[[49,45,50]])).length=300:=by decide +kernel
theorem aq1:aaY false (lo_ false) (hi_ false) (aaN 44 (l39++[[49,45,49,50]]))=some 0/\(aaN 44 (l39++[[49,45,49,50]])).length=301:=by decide +kernel
theorem axC:∀wk:Bool,aaY wk (lo_ wk) (hi_ wk) [49,44,42,10]=some 1/\aaY wk (lo_ wk) (hi_ wk) [10,42]=some 0:=by decide +kernel
theorem nvs(o:Option Nat):aoG (nV o) (nV o)=true:=by cases o<;>rfl
def afB(K:PySem.W.Frag):Sp:=fun vs H Q _=>∃l:List Nat,vs=[.str (Tx l)]/\l.length<=2000/\∀H',Same H H'->Q (.bl (ahM l)) H'
def afR(K:PySem.W.Frag):Sp:=fun vs H Q _=>∃l:List Nat,vs=[.str (Tx l)]/\l.length<=2000/\∀H',Same H H'->Q (.bl (isW l)) H'
def aiH(K:PySem.W.Frag):Sp:=fun vs H Q _=>∃(a:Addr) (zs:List Int),vs=[.ref a]/\SqL K H a (zs.map V.int)/\(∀z∈zs,0<=z/\z<=100000)/\Q (.int (ac8 zs)) H
def ah2(K:PySem.W.Frag):Sp:=fun vs H Q _=>∃a b s:Int,vs=[.int a,.int b,.int s]/\(0<=a/\a<=1000)/\(-1<=b/\b<=1000)/\(0<s/\s<=1000)/\∀H',Same H H'->Q (.int (ae2 a b s)) H'
def aeS(K:PySem.W.Frag):Sp:=fun vs H Q _=>∃(l:List Nat) (lo hi:Int),vs=[.str (Tx l),.int lo,.int hi]/\l.length<=600/\∀H',Same H H'->Q (oV (aaK lo hi l)) H'
def ahC(K:PySem.W.Frag):Sp:=fun vs H Q _=>∃(l:List Nat) (lo hi:Int),vs=[.str (Tx l),.int lo,.int hi]/\l.length<=500/\∀(r:V) (H':Hp),Same H H'->RunV H' r (aaQ lo hi l)->Q r H'
def ad8(K:PySem.W.Frag):Sp:=fun vs H Q _=>∃(r s:List Nat) (lo hi:Int),vs=[.str (Tx r),.str (Tx s),.int lo,.int hi]/\r.length<=400/\s.length<=400/\(0<=lo/\lo<=hi/\hi<=1000)/\∀H',Same H H'->Q (oV (aa2 lo hi r s)) H'
def agJ(K:PySem.W.Frag):Sp:=fun vs H Q _=>∃(l:List Nat) (lo hi:Int),vs=[.str (Tx l),.int lo,.int hi]/\l.length<=300/\(0<=lo/\lo<=hi/\hi<=1000)/\∀H',Same H H'->Q (oV (aaH lo hi l)) H'
def acL(K:PySem.W.Frag)(C:Addr):Sp:=fun vs H Q _=>∃(p dx:Addr) (m:Int),vs=[.ref p,.int m]/\H p=some (.ins C dx [])/\Q .non (upd H p (.ins C dx [("mask",.int m)]))
def adE(K:PySem.W.Frag)(C:Addr):Sp:=fun vs H Q _=>∃(p dx:Addr) (m:Int),vs=[.ref p,.int m]/\H p=some (.ins C dx [])/\Q .non (upd H p (.ins C dx [("back",.int m)]))
def adO(K:PySem.W.Frag)(C:Addr):Sp:=fun vs H Q _=>∃(p dx:Addr) (m:Int),vs=[.ref p,.int m]/\H p=some (.ins C dx [])/\Q .non (upd H p (.ins C dx [("day",.int m)]))
def abY(K:PySem.W.Frag)(C:Addr):Sp:=fun vs H Q _=>∃(p dx:Addr) (m:Int),vs=[.ref p,.int m]/\H p=some (.ins C dx [])/\Q .non (upd H p (.ins C dx [("mask",.int m)]))
def aeM(K:PySem.W.Frag)(C:Addr):Sp:=fun vs H Q _=>∃(p dx:Addr) (w m:Int),vs=[.ref p,.int w,.int m]/\H p=some (.ins C dx [])/\Q .non (upd (upd H p (.ins C dx (abN "weekday" (.int w) []))) p (.ins C dx (awQ w m)))
def acF(K:PySem.W.Frag)(C:Addr):Sp:=fun vs H Q _=>∃(p dx:Addr) (m:Int),vs=[.ref p,.int m]/\H p=some (.ins C dx [])/\Q .non (upd H p (.ins C dx [("weekday",.int m)]))
def adK(K:PySem.W.Frag)(C_Numbers:Addr)(C_Last:Addr)(C_Near:Addr)(C_LastWork:Addr)(C_Weekdays:Addr)(C_Nth:Addr)(C_LastOne:Addr)(C_Mark:Addr):Sp:=fun vs H Q _=>∃t:List Nat,vs=[.str (Tx t)]/\t.length<=300/\∀(v:V) (H':Hp),Same H H'->MkV (⟨C_Numbers,C_Last,C_Near,C_LastWork,C_Weekdays,C_Nth,C_LastOne,C_Mark⟩:Cs) H' v (abK t)->Q v H'
def aeI(K:PySem.W.Frag):Sp:=fun vs H Q _=>∃t:List Nat,vs=[.str (Tx t)]/\t.length<=300/\∀H',Same H H'->Q (oV (wdN t)) H'
def ab8(K:PySem.W.Frag)(C_Numbers:Addr)(C_Last:Addr)(C_Near:Addr)(C_LastWork:Addr)(C_Weekdays:Addr)(C_Nth:Addr)(C_LastOne:Addr)(C_Mark:Addr):Sp:=fun vs H Q _=>∃t:List Nat,vs=[.str (Tx t)]/\t.length<=300/\∀(v:V) (H':Hp),Same H H'->MkV (⟨C_Numbers,C_Last,C_Near,C_LastWork,C_Weekdays,C_Nth,C_LastOne,C_Mark⟩:Cs) H' v (agK t)->Q v H'
def acI(K:PySem.W.Frag)(C:Addr):Sp:=fun vs H Q _=>∃(a:Addr) (v:V),vs=[.ref a,v]/\H a=some (xn a C none)/\XS K C "at"/\∀dx H',H dx=none->dx≠a->H'=upd (upd H dx (.xd [(("at":Str),v)])) a (xn a C (some dx))->Q .non H'
def afF(K:PySem.W.Frag)(C_Numbers:Addr)(C_Last:Addr)(C_Near:Addr)(C_LastWork:Addr)(C_Weekdays:Addr)(C_Nth:Addr)(C_LastOne:Addr)(C_Mark:Addr)(C_NoField:Addr)(C_read_day_mark:Addr)(C_read_weekday_mark:Addr):Sp:=fun vs H Q E=>∃(v:V) (lo hi:Int) (wk:Bool),vs=[v,.int lo,.int hi,.ref (if wk=true then C_read_weekday_mark else C_read_day_mark)]/\(0<=lo/\lo<=hi/\hi<=1000)/\((∃kd,KindV K H v kd/\kd≠ .str/\∀dx H',Same H H'->H' dx=some (.xd [(("at":Str),.int 0)])->E (.ref C_NoField) (some dx) H')∨∃l:List Nat,v=.str (Tx l)/\l.length<=100000/\(∀p:Nat,aaY wk lo hi l=some p->∀dx H',Same H H'->H' dx=some (.xd [(("at":Str),.int p)])->E (.ref C_NoField) (some dx) H')/\(aaY wk lo hi l=none->∀(p m:Addr) (M:Int) (qs:List Addr) (H':Hp),Same H H'->H' p=some (.tup [.int M,.ref m])->H' m=some (.lst (qs.map V.ref))->qs.length<=20->Q (.ref p) H'))
def agI(K:PySem.W.Frag)(C_Numbers:Addr)(C_Last:Addr)(C_Near:Addr)(C_LastWork:Addr)(C_Weekdays:Addr)(C_Nth:Addr)(C_LastOne:Addr)(C_Mark:Addr)(C_NoField:Addr):Sp:=fun vs H Q E=>∃v:V,vs=[v]/\((∃kd,KindV K H v kd/\kd≠ .str/\∀dx H',Same H H'->H' dx=some (.xd [(("at":Str),.int 0)])->E (.ref C_NoField) (some dx) H')∨∃l:List Nat,v=.str (Tx l)/\l.length<=100000/\(∀p:Nat,aaY false 1 31 l=some p->∀dx H',Same H H'->H' dx=some (.xd [(("at":Str),.int p)])->E (.ref C_NoField) (some dx) H')/\(aaY false 1 31 l=none->(l=[42]->∀H',Same H H'->Q .non H')/\(l≠[42]->∀(m:Addr) (ys:List V) (H':Hp),Same H H'->H' m=some (.lst ys)->Q (.ref m) H')))
def adJ(K:PySem.W.Frag)(C_Numbers:Addr)(C_Last:Addr)(C_Near:Addr)(C_LastWork:Addr)(C_Weekdays:Addr)(C_Nth:Addr)(C_LastOne:Addr)(C_Mark:Addr)(C_NoField:Addr):Sp:=fun vs H Q E=>∃v:V,vs=[v]/\((∃kd,KindV K H v kd/\kd≠ .str/\∀dx H',Same H H'->H' dx=some (.xd [(("at":Str),.int 0)])->E (.ref C_NoField) (some dx) H')∨∃l:List Nat,v=.str (Tx l)/\l.length<=100000/\(∀p:Nat,aaY true 0 7 l=some p->∀dx H',Same H H'->H' dx=some (.xd [(("at":Str),.int p)])->E (.ref C_NoField) (some dx) H')/\(aaY true 0 7 l=none->(l=[42]->∀H',Same H H'->Q .non H')/\(l≠[42]->∀(m:Addr) (ys:List V) (H':Hp),Same H H'->H' m=some (.lst ys)->Q (.ref m) H')))
def ad5(K:PySem.W.Frag):Sp:=fun vs H Q _=>∃(a:Addr) (k:Int),vs=[.ref a,.int k]/\(∃ns:List Int,SqL K H a (ns.map V.int))/\(0<=k/\k<1000)/\∀c:Int,Q (.int c) H
def agP(K:PySem.W.Frag):Sp:=fun vs H Q _=>∃n:Int,vs=[.int n]/\∀r:Int,0<=r->r<2147483629->Q (.int r) H
def afD(K:PySem.W.Frag):Sp:=fun vs H Q _=>∃(c:Int) (a:Addr) (b:Bool) (ss:List Int),vs=[.int c,.ref a,.bl b]/\SqL K H a (ss.map V.int)/\(∀z∈ss,0<z/\z<1073741824)/\ss.length<=63/\∀(ds:List Int) (p:Addr) (H':Hp),Same H H'->H' p=some (.lst (ds.map V.int))->Digs ds ss->Q (.ref p) H'
def afQ(K:PySem.W.Frag):Sp:=fun vs H Q _=>∃(v:V) (k:Kd),vs=[v]/\KindV K H v k/\Q (.bl k.wh) H
def afP(K:PySem.W.Frag):Sp:=fun vs H Q _=>∃(t:Int) (wk mk:Bool),vs=[.int t,.bl wk,.bl mk]/\∀(w:List Nat) (H':Hp),Same H H'->abD wk (w,true)=true->Q (.str (Tx w)) H'
def afK(K:PySem.W.Frag):Sp:=fun vs H Q _=>∃(t:Int) (wk:Bool),vs=[.int t,.bl wk]/\(0<=t/\t<45)/\∀(w:List Nat) (H':Hp),Same H H'->abD wk (w,false)=true->Q (.str (Tx w)) H'
def aeL(K:PySem.W.Frag):Sp:=fun vs H Q _=>∃w:List Nat,vs=[.str (Tx w)]/\Q (.bl (ad7 w)) H
def afI(K:PySem.W.Frag):Sp:=fun vs H Q _=>∃(c t:Int) (wk bm:Bool),vs=[.int c,.int t,.bl wk,.bl bm]/\∀(L:Addr) (us:List Addr) (its:List It2) (H':Hp),Same H H'->H' L=some (.lst (us.map V.ref))->Its H' us its->(∀x∈its,abD wk x=true)->its≠[]->its.length<=140->Q (.ref L) H'
def ahU(K:PySem.W.Frag):Sp:=fun vs H Q _=>∃(L:Addr) (us:List Addr) (its:List It2),vs=[.ref L]/\SqL K H L (us.map V.ref)/\Its H us its/\its.length<=140/\(∀x∈its,x.1.length<=8)/\∀H',Same H H'->Q (nV (ac3 its)) H'
def agT(K:PySem.W.Frag)(C_read_days:Addr)(C_read_weekdays:Addr):Sp:=fun vs H Q _=>∃(v:V) (wk:Bool),vs=[v,.bl wk]/\((∃kd,KindV K H v kd/\kd≠ .str/\∀H',Same H H'->Q (.int 0) H')∨∃l:List Nat,v=.str (Tx l)/\l.length<=100000/\∀H',Same H H'->Q (nV (aaY wk (lo_ wk) (hi_ wk) l)) H')
def ad6(K:PySem.W.Frag):Sp:=fun vs H Q _=>∃wk:Bool,vs=[.bl wk]/\∀H',Same H H'->Q (.bl true) H'
def sp_law(K:PySem.W.Frag):Sp:=fun vs H Q _=>∃(a:Addr) (ns:List Int),vs=[.ref a]/\SqL K H a (ns.map V.int)/\ns.length<=63/\∀H',Q (.bl true) H'
theorem md_Last___init__{K:PySem.W.Frag}{C f T:Addr}{od an tod:Option Addr}{sl tsl:Array (Option Value)}{oc kV dc pm cd ct:Value}{tn:Nat}{t0:Tok}(a:PySem.W.findIn K (.ref C) "__init__"=some (some (.ref f)))(i:PySem.W.isFn K (.ref f)=true)(l:K.lookup f=some ⟨oc,od,.func (PySem.W.fnOf "__init__" "Last.__init__" (aaW aaP) (aaJ aaP) (aaC aaP) (.ref T) kV dc pm an cd ct),sl⟩)(c:PySem.W.codeIn K cd "Last.__init__"=true)(k:PySem.W.keepIn K (.ref f)=true)(lt:K.lookup T=some ⟨.type "tuple",tod,.seq #[.int 0 t0] tn,tsl⟩):FnMD K C "__init__" "Last.__init__" aaP ["self","back"] [.int 0]:=
 al2 (ds:=[.int 0 t0]) a i l c k (fun s us X hl=>match us,(show us.length=2 by simpa using hl) with | [_,_],_=>PySem.W.binds_K X rfl lt rfl rfl rfl) (.cons ⟨_,rfl⟩ .nil) (fun s us X hl=>match us,(show us.length=1 by simpa using hl) with | [_],_=>PySem.W.binds_K X rfl lt rfl rfl rfl)
theorem mg_tx{K:PySem.W.Frag}{h:Heap}{mg:Str->Option Value}{x n:Str}{l:List Nat}{t:Tok}(X:K.In h)(G:h.Ns mainGlobals mg)(e:x=Tx l)(a:PySem.W.nsIn K mainGlobals n=some (some (.str x t))):mg n=some (.str (Tx l) t):=e▸PySem.W.mg_of X G a
theorem ae6:FnScope ["text"] ["text"] (aaC acS):=⟨rfl,rfl,rfl,by decide +kernel,rfl,by decide +kernel,by decide +kernel⟩
theorem afO:FnScope ["text"] ["text"] (aaC acZ):=⟨rfl,rfl,rfl,by decide +kernel,rfl,by decide +kernel,by decide +kernel⟩
theorem sc_mask_of:FnScope ["numbers","mask","number"] ["numbers"] (aaC af6):=⟨rfl,rfl,rfl,by decide +kernel,rfl,by decide +kernel,by decide +kernel⟩
theorem ahT:FnScope ["first","last","stride"] ["first","last","stride"] (aaC aeZ):=⟨rfl,rfl,rfl,by decide +kernel,rfl,by decide +kernel,by decide +kernel⟩
theorem sc_read_number:FnScope ["text","low","high","number"] ["text","low","high"] (aaC acU):=⟨rfl,rfl,rfl,by decide +kernel,rfl,by decide +kernel,by decide +kernel⟩
theorem sc_read_run:FnScope ["text","low","high","ends"] ["text","low","high"] (aaC afE):=⟨rfl,rfl,rfl,by decide +kernel,rfl,by decide +kernel,by decide +kernel⟩
theorem sc_read_strided:FnScope ["run_text","stride_text","low","high","run","stride","last"] ["run_text","stride_text","low","high"] (aaC ab6):=⟨rfl,rfl,rfl,by decide +kernel,rfl,by decide +kernel,by decide +kernel⟩
theorem sc_read_item:FnScope ["item","low","high","parts","run"] ["item","low","high"] (aaC adV):=⟨rfl,rfl,rfl,by decide +kernel,rfl,by decide +kernel,by decide +kernel⟩
theorem acM:FnScope ["self","mask"] ["self","mask"] (aaC aa9):=⟨rfl,rfl,rfl,by decide +kernel,rfl,by decide +kernel,by decide +kernel⟩
theorem adH:FnScope ["self","back"] ["self","back"] (aaC aaP):=⟨rfl,rfl,rfl,by decide +kernel,rfl,by decide +kernel,by decide +kernel⟩
theorem adM:FnScope ["self","day"] ["self","day"] (aaC abT):=⟨rfl,rfl,rfl,by decide +kernel,rfl,by decide +kernel,by decide +kernel⟩
theorem abX:FnScope ["self","mask"] ["self","mask"] (aaC aa7):=⟨rfl,rfl,rfl,by decide +kernel,rfl,by decide +kernel,by decide +kernel⟩
theorem aeK:FnScope ["self","weekday","many"] ["self","weekday","many"] (aaC ab7):=⟨rfl,rfl,rfl,by decide +kernel,rfl,by decide +kernel,by decide +kernel⟩
theorem acG:FnScope ["self","weekday"] ["self","weekday"] (aaC abC):=⟨rfl,rfl,rfl,by decide +kernel,rfl,by decide +kernel,by decide +kernel⟩
theorem sc_read_day_mark:FnScope ["item","back","day"] ["item"] (aaC abS):=⟨rfl,rfl,rfl,by decide +kernel,rfl,by decide +kernel,by decide +kernel⟩
theorem sc_read_weekday:FnScope ["text","number"] ["text"] (aaC acA):=⟨rfl,rfl,rfl,by decide +kernel,rfl,by decide +kernel,by decide +kernel⟩
theorem sc_read_weekday_mark:FnScope ["item","weekday","parts","many"] ["item"] (aaC aa8):=⟨rfl,rfl,rfl,by decide +kernel,rfl,by decide +kernel,by decide +kernel⟩
theorem acH:FnScope ["self","at"] ["self","at"] (aaC abB):=⟨rfl,rfl,rfl,by decide +kernel,rfl,by decide +kernel,by decide +kernel⟩
theorem sc_read_items:FnScope ["text","low","high","read_mark","items","mask","marks","place","item","plain","mark"] ["text","low","high","read_mark"] (aaC ac5):=⟨rfl,rfl,rfl,by decide +kernel,rfl,by decide +kernel,by decide +kernel⟩
theorem sc_read_days:FnScope ["text","read"] ["text"] (aaC ad3):=⟨rfl,rfl,rfl,by decide +kernel,rfl,by decide +kernel,by decide +kernel⟩
theorem sc_read_weekdays:FnScope ["text","read","mask"] ["text"] (aaC abR):=⟨rfl,rfl,rfl,by decide +kernel,rfl,by decide +kernel,by decide +kernel⟩
theorem aeD:FnScope ["_law_script","_law_k"] ["_law_script","_law_k"] (aaC acD):=⟨rfl,rfl,rfl,by decide +kernel,rfl,by decide +kernel,by decide +kernel⟩
theorem sc__law_stir:FnScope ["_law_number","_law_first","_law_second"] ["_law_number"] (aaC adU):=⟨rfl,rfl,rfl,by decide +kernel,rfl,by decide +kernel,by decide +kernel⟩
theorem sc__law_digits:FnScope ["_law_cell","_law_sizes","_law_mixed","_law_found","_law_size"] ["_law_cell","_law_sizes","_law_mixed"] (aaC acV):=⟨rfl,rfl,rfl,by decide +kernel,rfl,by decide +kernel,by decide +kernel⟩
theorem afG:FnScope ["_law_found"] ["_law_found"] (aaC adA):=⟨rfl,rfl,rfl,by decide +kernel,rfl,by decide +kernel,by decide +kernel⟩
theorem afH:FnScope ["_law_turn","_law_week","_law_mark"] ["_law_turn","_law_week","_law_mark"] (aaC ac0):=⟨rfl,rfl,rfl,by decide +kernel,rfl,by decide +kernel,by decide +kernel⟩
theorem sc__law_wrong:FnScope ["_law_turn","_law_week","_law_some","_law_more"] ["_law_turn","_law_week"] (aaC adB):=⟨rfl,rfl,rfl,by decide +kernel,rfl,by decide +kernel,by decide +kernel⟩
theorem ad9:FnScope ["_law_text"] ["_law_text"] (aaC abZ):=⟨rfl,rfl,rfl,by decide +kernel,rfl,by decide +kernel,by decide +kernel⟩
theorem sc__law_items:FnScope ["_law_cell","_law_turns","_law_week","_law_mixed","_law_parts","_law_many","_law_share","_law_items_here","_law_k","_law_turn"] ["_law_cell","_law_turns","_law_week","_law_mixed"] (aaC adC):=⟨rfl,rfl,rfl,by decide +kernel,rfl,by decide +kernel,by decide +kernel⟩
theorem sc__law_due:FnScope ["_law_items_here","_law_marks","_law_k","_law_text","_law_good"] ["_law_items_here"] (aaC ae7):=⟨rfl,rfl,rfl,by decide +kernel,rfl,by decide +kernel,by decide +kernel⟩
theorem sc__law_told:FnScope ["_law_text","_law_week","_law_found","e"] ["_law_text","_law_week"] (aaC adZ):=⟨rfl,rfl,rfl,by decide +kernel,rfl,by decide +kernel,by decide +kernel⟩
theorem sc__law_longest:FnScope ["_law_week","_law_some"] ["_law_week"] (aaC acC):=⟨rfl,rfl,rfl,by decide +kernel,rfl,by decide +kernel,by decide +kernel⟩
theorem sc_law:FnScope ["_law_script","_law_mixed","_law_week","_law_at","_law_items_here","_law_text","_law_thing"] ["_law_script"] (aaC af3):=⟨rfl,rfl,rfl,by decide +kernel,rfl,by decide +kernel,by decide +kernel⟩
structure Fs(K:PySem.W.Frag)(mg:Str->Option Value)(C_Numbers C_Last C_Near C_Weekdays C_Nth C_LastOne C_LastWork C_Mark C_NoField C_read_weekday_mark C_read_day_mark C_FieldError C_read_days C_read_weekdays C_NoBook C_NoClock C_NoDay C_NoMoment C_NoName C_NoRow C_NoWord:Addr)(t_FIGURES t_MOST_STRIDE t_MOST_BACK t_MOST_DAY t_SUNDAY_TOO t_SUNDAY t_MOST_NTH t_MOST_SIGNS t_MOST_ITEMS t_MOST_MARKS t_ALL_WEEKDAYS:Tok):Prop where
 c_Numbers:Cd K mg "Numbers" C_Numbers
 n_Numbers_mask:PySem.W.findIn K (.ref C_Numbers) "mask"=some none
 c_Last:Cd K mg "Last" C_Last
 n_Last_back:PySem.W.findIn K (.ref C_Last) "back"=some none
 c_Near:Cd K mg "Near" C_Near
 n_Near_day:PySem.W.findIn K (.ref C_Near) "day"=some none
 c_Weekdays:Cd K mg "Weekdays" C_Weekdays
 n_Weekdays_mask:PySem.W.findIn K (.ref C_Weekdays) "mask"=some none
 c_Nth:Cd K mg "Nth" C_Nth
 n_Nth_weekday:PySem.W.findIn K (.ref C_Nth) "weekday"=some none
 n_Nth_many:PySem.W.findIn K (.ref C_Nth) "many"=some none
 c_LastOne:Cd K mg "LastOne" C_LastOne
 n_LastOne_weekday:PySem.W.findIn K (.ref C_LastOne) "weekday"=some none
 c_LastWork:Cd K mg "LastWork" C_LastWork
 i_LastWork:PySem.W.findIn K (.ref C_LastWork) "__init__"=some (some (.builtin "object.__init__"))
 c_Mark:Cd K mg "Mark" C_Mark
 i_Mark:PySem.W.findIn K (.ref C_Mark) "__init__"=some (some (.builtin "object.__init__"))
 m_NoField:mg "NoField"=some (.ref C_NoField)
 m_read_weekday_mark:mg "read_weekday_mark"=some (.ref C_read_weekday_mark)
 m_read_day_mark:mg "read_day_mark"=some (.ref C_read_day_mark)
 m_FieldError:mg "FieldError"=some (.ref C_FieldError)
 m_read_days:mg "read_days"=some (.ref C_read_days)
 m_read_weekdays:mg "read_weekdays"=some (.ref C_read_weekdays)
 m_NoBook:mg "NoBook"=some (.ref C_NoBook)
 m_NoClock:mg "NoClock"=some (.ref C_NoClock)
 m_NoDay:mg "NoDay"=some (.ref C_NoDay)
 m_NoMoment:mg "NoMoment"=some (.ref C_NoMoment)
 m_NoName:mg "NoName"=some (.ref C_NoName)
 m_NoRow:mg "NoRow"=some (.ref C_NoRow)
 m_NoWord:mg "NoWord"=some (.ref C_NoWord)
 xs_NoField:XS K C_NoField "at"
 xj_NoField:ag9 K C_NoField=true
 xb_FieldError:PySem.W.subIn K (.ref C_FieldError) (.type "BaseException")=some true
 xk_NoField_FieldError:PySem.W.kitCls K (.ref C_NoField) (.ref C_FieldError)=some true
 xi_NoField:PySem.W.kitOne K (.ref C_NoField) (.ref C_NoField)=some true
 xv_NoField:PySem.W.kitOne K (.ref C_NoField) (.type "ValueError")=some true
 xt_NoField:PySem.W.kitAny K (.ref C_NoField) ([C_NoBook,C_NoClock,C_NoDay,C_NoMoment,C_NoName,C_NoRow,C_NoWord].map Value.ref)=some false
 m_FIGURES:mg "FIGURES"=some (.str (Tx [48,49,50,51,52,53,54,55,56,57]) t_FIGURES)
 m_MOST_STRIDE:mg "MOST_STRIDE"=some (.int 99 t_MOST_STRIDE)
 m_MOST_BACK:mg "MOST_BACK"=some (.int 30 t_MOST_BACK)
 m_MOST_DAY:mg "MOST_DAY"=some (.int 31 t_MOST_DAY)
 m_SUNDAY_TOO:mg "SUNDAY_TOO"=some (.int 7 t_SUNDAY_TOO)
 m_SUNDAY:mg "SUNDAY"=some (.int 0 t_SUNDAY)
 m_MOST_NTH:mg "MOST_NTH"=some (.int 5 t_MOST_NTH)
 m_MOST_SIGNS:mg "MOST_SIGNS"=some (.int 300 t_MOST_SIGNS)
 m_MOST_ITEMS:mg "MOST_ITEMS"=some (.int 40 t_MOST_ITEMS)
 m_MOST_MARKS:mg "MOST_MARKS"=some (.int 20 t_MOST_MARKS)
 m_ALL_WEEKDAYS:mg "ALL_WEEKDAYS"=some (.int 127 t_ALL_WEEKDAYS)
 z_all:mg "all"=none
 z_range:mg "range"=none
 z_list:mg "list"=none
 z_int:mg "int"=none
 z_len:mg "len"=none
 z_str:mg "str"=none
 z_isinstance:mg "isinstance"=none
 z_enumerate:mg "enumerate"=none
 z_abs:mg "abs"=none
 z_bool:mg "bool"=none
 z_min:mg "min"=none
 z_ValueError:mg "ValueError"=none
 F_all_figures:Fn K mg "all_figures" acS ["text"]
 F_is_written:Fn K mg "is_written" acZ ["text"]
 F_mask_of:Fn K mg "mask_of" af6 ["numbers"]
 F_run_mask:Fn K mg "run_mask" aeZ ["first","last","stride"]
 F_read_number:Fn K mg "read_number" acU ["text","low","high"]
 F_read_run:Fn K mg "read_run" afE ["text","low","high"]
 F_read_strided:Fn K mg "read_strided" ab6 ["run_text","stride_text","low","high"]
 F_read_item:Fn K mg "read_item" adV ["item","low","high"]
 F_Numbers___init__:FnM K C_Numbers "__init__" "Numbers.__init__" aa9 ["self","mask"]
 F_Last___init__:FnMD K C_Last "__init__" "Last.__init__" aaP ["self","back"] [.int 0]
 F_Near___init__:FnM K C_Near "__init__" "Near.__init__" abT ["self","day"]
 F_Weekdays___init__:FnM K C_Weekdays "__init__" "Weekdays.__init__" aa7 ["self","mask"]
 F_Nth___init__:FnM K C_Nth "__init__" "Nth.__init__" ab7 ["self","weekday","many"]
 F_LastOne___init__:FnM K C_LastOne "__init__" "LastOne.__init__" abC ["self","weekday"]
 F_read_day_mark:Fn K mg "read_day_mark" abS ["item"]
 F_read_weekday:Fn K mg "read_weekday" acA ["text"]
 F_read_weekday_mark:Fn K mg "read_weekday_mark" aa8 ["item"]
 F_NoField___init__:FnM K C_NoField "__init__" "NoField.__init__" abB ["self","at"]
 F_read_items:Fn K mg "read_items" ac5 ["text","low","high","read_mark"]
 F_read_days:Fn K mg "read_days" ad3 ["text"]
 F_read_weekdays:Fn K mg "read_weekdays" abR ["text"]
 F__law_cell_at:Fn K mg "_law_cell_at" acD ["_law_script","_law_k"]
 F__law_stir:Fn K mg "_law_stir" adU ["_law_number"]
 F__law_digits:Fn K mg "_law_digits" acV ["_law_cell","_law_sizes","_law_mixed"]
 F__law_whole:Fn K mg "_law_whole" adA ["_law_found"]
 F__law_right:Fn K mg "_law_right" ac0 ["_law_turn","_law_week","_law_mark"]
 F__law_wrong:Fn K mg "_law_wrong" adB ["_law_turn","_law_week"]
 F__law_is_mark:Fn K mg "_law_is_mark" abZ ["_law_text"]
 F__law_items:Fn K mg "_law_items" adC ["_law_cell","_law_turns","_law_week","_law_mixed"]
 F__law_due:Fn K mg "_law_due" ae7 ["_law_items_here"]
 F__law_told:Fn K mg "_law_told" adZ ["_law_text","_law_week"]
 F__law_longest:Fn K mg "_law_longest" acC ["_law_week"]
section
set_option maxHeartbeats 4000000
variable{P:Program}{w:World}{K:PySem.W.Frag}{mg:Str->Option Value}{base:Heap}{C_Numbers C_Last C_Near C_Weekdays C_Nth C_LastOne C_LastWork C_Mark C_NoField C_read_weekday_mark C_read_day_mark C_FieldError C_read_days C_read_weekdays C_NoBook C_NoClock C_NoDay C_NoMoment C_NoName C_NoRow C_NoWord:Addr}{t_FIGURES t_MOST_STRIDE t_MOST_BACK t_MOST_DAY t_SUNDAY_TOO t_SUNDAY t_MOST_NTH t_MOST_SIGNS t_MOST_ITEMS t_MOST_MARKS t_ALL_WEEKDAYS:Tok}(ZZ:Fs K mg C_Numbers C_Last C_Near C_Weekdays C_Nth C_LastOne C_LastWork C_Mark C_NoField C_read_weekday_mark C_read_day_mark C_FieldError C_read_days C_read_weekdays C_NoBook C_NoClock C_NoDay C_NoMoment C_NoName C_NoRow C_NoWord t_FIGURES t_MOST_STRIDE t_MOST_BACK t_MOST_DAY t_SUNDAY_TOO t_SUNDAY t_MOST_NTH t_MOST_SIGNS t_MOST_ITEMS t_MOST_MARKS t_ALL_WEEKDAYS)
include ZZ
theorem aeX:Df P w K mg base "all_figures" 1 ["text"] (afB K):=by
 refine ZZ.F_all_figures.dfs ae6 (fun vs H Q E h=>?_) (fun f cdv A outer s H vs Q E hr h=>?_)
 ·obtain⟨l,rfl,hl,q⟩:=h
  rfl
 obtain⟨l,rfl,hl,q⟩:=h
 refine⟨_,(ss1 (aaI (ak8 (acX oNe (v_ 0) (eSx [])) (ahN (eCB cAll ZZ.z_all boot_all (aC (auV [] [] (iX (v_ 0)) (fun _ _ _ _ _ _=>fsN) (fun _ _ _ _ _ _=>(acX am1 (v_ 0) (eGl (v:=.str (Tx [48,49,50,51,52,53,54,55,56,57])) ZZ.m_FIGURES ⟨_,rfl⟩)))) aN)))))),?_⟩
 refine⟨_,rfl,rfl,_,rfl,?_⟩
 rw[aj4 l []]
 by_cases c:l=[]
 ·rw[decide_eq_true c]
  have e:ahM l=false:=by unfold ahM;rw[decide_eq_true c];rfl
  rw[e] at q
  exact aaO (q H (Same.refl H))
 ·rw[decide_eq_false c]
  have e:ahM l=l.all ac6:=by unfold ahM;rw[decide_eq_false c];rfl
  rw[e] at q
  refine aa3 ⟨_,rfl,Tx l,rfl,akH (xs:=l) (fun i z=>z=((l.take i).map ac6).map V.bl) (by rw[sizeLine_eq];omega) rfl ?_ ?_⟩
  ·intro i ch z D H2 E' F' hv hR hD s2 hz hE hF
   subst hR
   refine⟨_,rfl,ch,as7,rfl,rfl,?_⟩
   rw[alJ]
   exact hE _ _ (Same.refl _) (by rw[List.take_succ,hv,List.map_append,List.map_append];rfl)
  ·intro D H2 z hR hD s2 hz
   subst hR
   rw[List.take_length] at hz
   refine⟨D,l.map ac6,rfl,SqL.of hz,?_⟩
   rw[List.all_map]
   exact q H2 s2
theorem acQ:Df P w K mg base "is_written" 2 ["text"] (afR K):=by
 refine ZZ.F_is_written.dfs afO (fun vs H Q E h=>?_) (fun f cdv A outer s H vs Q E hr h=>?_)
 ·obtain⟨l,rfl,hl,q⟩:=h
  rfl
 obtain⟨l,rfl,hl,q⟩:=h
 refine⟨_,(ss1 (aaI (ak8 (eD (aeX ZZ) hr (aC (v_ 0) aN)) (ahN (eOr (acX oEq (v_ 0) (eSx [48])) (ahN (acX oNe (eIx xX (v_ 0) eI) (eSx [48])))))))),?_⟩
 refine⟨_,rfl,l,rfl,hl,fun H1 s1=>⟨_,rfl,?_⟩⟩
 refine if2 (fun c=>?_) (fun c=>?_)
 ·have hne:l≠[]:=fun e=>by
   unfold ahM at c
   rw[decide_eq_true e] at c
   exact absurd (show false=true from c) Bool.false_ne_true
  refine⟨_,rfl,rfl,_,rfl,?_⟩
  rw[aj4 l [48]]
  by_cases c2:l=[48]
  ·rw[decide_eq_true c2]
   have e:isW l=true:=by unfold isW;rw[c,decide_eq_true c2];rfl
   rw[e] at q
   exact aa3 (q H1 s1)
  ·rw[decide_eq_false c2]
   obtain⟨x,r,rfl⟩:∃x r,l=x::r:=by
    cases l with
    |nil=>exact absurd rfl hne
    |cons x r=>exact⟨x,r,rfl⟩
   refine aaO ⟨_,rfl,x::r,0,x,rfl,rfl,(by rw[sizeLine_eq];omega),(show atI (x::r) ((0:Nat):Int)=some x from aeP rfl),rfl,?_⟩
   rw[aj4 [x] [48]]
   have e:isW (x::r)= !decide ([x]=[48]):=by
    unfold isW
    rw[c,decide_eq_false c2]
    show (!decide (x=48))=_
    rw[decide_eq_decide.mpr (show x=48↔[x]=[48] by simp)]
   rw[e] at q
   exact q H1 s1
 ·have e:isW l=false:=by unfold isW;rw[c];rfl
  rw[e] at q
  exact q H1 s1
theorem aiL:Df P w K mg base "mask_of" 1 ["numbers"] (aiH K):=by
 refine ZZ.F_mask_of.dfs sc_mask_of (fun vs H Q E h=>?_) (fun f cdv A outer s H vs Q E hr h=>?_)
 ·obtain⟨a,zs,rfl,hS,hz,q⟩:=h
  rfl
 obtain⟨a,zs,rfl,hS,hz,q⟩:=h
 refine⟨_,(ssC (aaM 1 eI sc_mask_of.nd)
   (ssC (aiE (iL (v_ 0)) (gN 2 sc_mask_of.nd) (ss1 (aaM 1 (eOp oOr (v_ 1) (eOp oShl eI (v_ 2))) sc_mask_of.nd)) PassesOwn.never)
   (ss1 (aaI (v_ 1))))),?_⟩
 refine⟨_,rfl,a,rfl,⟨_,hS⟩,ahF (K:=K) (a:=a) (xs:=zs.map V.int) (fun i σ H2=>H2=H/\∃u:Option V,σ=[some (.ref a),some (.int (ac8 (zs.take i))),u]) ⟨rfl,_,rfl⟩ (fun i σ H2 _ hP=>by rw[hP.1];exact hS) ?_ ?_⟩
 ·rintro i x σ H2 hx ⟨rfl,u,rfl⟩
  rw[List.getElem?_map] at hx
  cases ez:zs[i]? with
  |none=>rw[ez] at hx;cases hx
  |some z=>
   rw[ez] at hx
   obtain rfl:V.int z=x:=Option.some.inj hx
   have h:=hz z (List.mem_of_getElem? ez)
   have et:ac8 (zs.take (i+1))=Builtin.bitOr (ac8 (zs.take i)) (1*2^z.toNat):=by
    rw[List.take_succ,ez,←ah8]
    rfl
   exact⟨_,rfl,_,rfl,_,_,rfl,rfl,⟨h.1,by omega,by decide⟩,_,_,rfl,rfl,rfl,_,by rw[et];rfl⟩
 ·rintro σ H2 ⟨rfl,u,rfl⟩
  rw[List.length_map,List.take_length]
  exact⟨_,rfl,q⟩
theorem adW:Df P w K mg base "run_mask" 2 ["first","last","stride"] (ah2 K):=by
 refine ZZ.F_run_mask.dfs ahT (fun vs H Q E h=>?_) (fun f cdv A outer s H vs Q E hr h=>?_)
 ·obtain⟨a,b,st,rfl,ha,hb,hs,q⟩:=h
  rfl
 obtain⟨a,b,st,rfl,ha,hb,hs,q⟩:=h
 refine⟨_,(ss1 (aaI (eD (aiL ZZ) hr (aC (eCT cLR ZZ.z_list PyProof.Rows.boot_list (aC (eCT cRg3 ZZ.z_range boot_range (aC (v_ 0) (aC (eOp aeE (v_ 1) eI) (aC (v_ 2) aN)))) aN)) aN)))),?_⟩
 obtain⟨n1,n2⟩:=ai3 ha.1 hb.2 hs.1
 have bd:∀z∈aeG a b st,0<=z/\z<=100000:=fun z hz=>by
  have:=(agX hs.1).mp hz
  omega
 refine⟨_,rfl,_,rfl,_,_,rfl,rfl,_,rfl,_,_,_,rfl,⟨hs.1,by omega⟩,fun p hp=>⟨p,a,b+1,st,(Builtin.Range.rangeSize a (b+1) st).toNat,rfl,aaA,akE ha.1 ha.2 hb.1 hb.2 hs.1 hs.2,n2,(by omega),fun l hl=>⟨l,aeG a b st,rfl,SqL.of (by rw[aeO,List.map_map];exact aaA),bd,?_⟩⟩⟩
 exact q _ ((aaB hp _).trans (aaB hl _))
theorem aaU:Df P w K mg base "read_number" 3 ["text","low","high"] (aeS K):=by
 refine ZZ.F_read_number.dfs sc_read_number (fun vs H Q E h=>?_) (fun f cdv A outer s H vs Q E hr h=>?_)
 ·obtain⟨l,lo,hi,rfl,hl,q⟩:=h
  rfl
 obtain⟨l,lo,hi,rfl,hl,q⟩:=h
 refine⟨_,(ssC (sIf (tNo (tVa (eD (acQ ZZ) hr (aC (v_ 0) aN)))) (ss1 (aaI eN)) ssN)
   (ssC (aaM 3 (eCT at8 ZZ.z_int PyProof.Rows.boot_int (aC (v_ 0) aN)) sc_read_number.nd)
   (ssC (sIf (tCh oLe oLe (v_ 1) (v_ 3) (v_ 2)) (ss1 (aaI (v_ 3))) ssN)
   (ss1 (aaI eN))))),?_⟩
 refine⟨_,rfl,l,rfl,(by omega),fun H1 s1=>⟨_,rfl,?_⟩⟩
 by_cases c:isW l=true
 ·rw[c]
  obtain⟨d1,d2⟩:=ah5 c
  refine aaO ⟨_,rfl,l,rfl,d1,d2,(by omega),?_⟩
  refine⟨_,rfl,_,rfl,_,_,rfl,rfl,_,rfl,?_⟩
  show if decide (lo<=dv l)=true then _ else _
  refine ifD (fun c1=>⟨_,rfl,_,_,rfl,rfl,_,rfl,?_⟩) (fun c1=>⟨_,rfl,?_⟩)
  ·show if decide (dv l<=hi)=true then _ else _
   refine ifD (fun c2=>?_) (fun c2=>?_)
   ·have e:aaK lo hi l=some (dv l):=by unfold aaK;rw[if_pos c,if_pos ⟨c1,c2⟩]
    rw[e] at q
    exact⟨_,rfl,q H1 s1⟩
   ·have e:aaK lo hi l=none:=by unfold aaK;rw[if_pos c,if_neg fun z=>c2 z.2]
    rw[e] at q
    exact q H1 s1
  ·have e:aaK lo hi l=none:=by unfold aaK;rw[if_pos c,if_neg fun z=>c1 z.1]
   rw[e] at q
   exact aaO (q H1 s1)
 ·have c':isW l=false:=by simpa using c
  rw[c']
  have e:aaK lo hi l=none:=by unfold aaK;rw[if_neg c]
  rw[e] at q
  exact aa3 (q H1 s1)
theorem adT:Df P w K mg base "read_run" 4 ["text","low","high"] (ahC K):=by
 refine ZZ.F_read_run.dfs sc_read_run (fun vs H Q E h=>?_) (fun f cdv A outer s H vs Q E hr h=>?_)
 ·obtain⟨l,lo,hi,rfl,hl,q⟩:=h
  rfl
 obtain⟨l,lo,hi,rfl,hl,q⟩:=h
 refine⟨_,(ssC (sIf (tCm oEq (v_ 0) (eSx [42])) (ss1 (aaI (aeW (aC (v_ 1) (aC (v_ 2) aN))))) ssN)
   (ssC (atU 3 ["low","high"] [1,2] (iL (al0 (v_ 0) (eSx [45]))) (fun _ _ _ _ _ _=>fsN) (fun _ _ _ _ _ _=>(eD (aaU ZZ) hr (aC (v_ 0) (aC (v_ 1) (aC (v_ 2) aN))))) sc_read_run.nd)
   (ssC (sIf (tW (wOr (tCm oGt (eCB ahQ ZZ.z_len PySem.boot_len (aC (v_ 3) aN)) eI) (wOr (tCm oIn eN (v_ 3)) (afC (tCm oGt (eIx xL (v_ 3) eI) (eIx xL (v_ 3) (eUn am0 eI))))))) (ss1 (aaI eN)) ssN)
   (ss1 (aaI (aeW (aC (eIx xL (v_ 3) eI) (aC (eIx xL (v_ 3) (eUn am0 eI)) aN)))))))),?_⟩
 refine⟨_,rfl,rfl,_,rfl,?_⟩
 rw[aj4 l [42]]
 by_cases c:l=[42]
 ·rw[decide_eq_true c]
  refine aa3 ⟨_,rfl,_,rfl,(by show 2<=sizeLine;decide),fun p hp=>?_⟩
  have e:aaQ lo hi l=some (lo,hi):=by unfold aaQ;rw[if_pos c]
  rw[e] at q
  exact q _ _ (aaB hp _) ⟨p,rfl,aaA⟩
 rw[decide_eq_false c]
 have hsl:=ac9 45 l
 have eR:aaQ lo hi l=adY ((spl 45 l).map (aaK lo hi)):=by unfold aaQ;rw[if_neg c]
 rw[eR] at q
 refine aaO ⟨_,rfl,rfl,l,45,rfl,rfl,(by rw[sizeLine_eq];omega),fun ps hps=>⟨ps,rfl,⟨_,SqL.of aaA⟩,ajE (xs:=(spl 45 l).map fun q=>V.str (Tx q)) (fun i z=>z=((spl 45 l).take i).map fun q=>oV (aaK lo hi q)) (by rw[List.length_map,sizeLine_eq];omega) rfl (SqL.of aaA) ?_ ?_⟩⟩
 ·intro i v z D H2 E' F' hv hR hD s2 hz hE hF
  subst hR
  rw[List.getElem?_map] at hv
  cases ew:(spl 45 l)[i]? with
  |none=>rw[ew] at hv;cases hv
  |some w0=>
   rw[ew] at hv
   obtain rfl:V.str (Tx w0)=v:=Option.some.inj hv
   have hw:=aa5 45 l w0 (List.mem_of_getElem? ew)
   exact⟨_,rfl,_,rfl,_,rfl,w0,lo,hi,rfl,(by omega),fun H3 s3=>hE _ _ s3 (by rw[List.take_succ,ew,List.map_append];rfl)⟩
 intro D H2 z hR hD s2 hz
 subst hR
 rw[List.length_map,List.take_length] at hz
 have hz2:H2 D=some (.lst (((spl 45 l).map (aaK lo hi)).map oV)):=by rw[hz,List.map_map];rfl
 have hlen:((spl 45 l).map (aaK lo hi)).length<=600:=by rw[List.length_map];omega
 have hnn:(spl 45 l).map (aaK lo hi)≠[]:=fun e=>aqV 45 l (List.map_eq_nil_iff.mp e)
 generalize (spl 45 l).map (aaK lo hi)=es at hz2 q hlen hnn
 have s02:Same H H2:=(aaB hps _).trans s2
 have hfl:(es.map oV).all acR=true:=amG es
 refine⟨_,rfl,D,_,rfl,.inl (SqL.of hz2),_,_,rfl,rfl,_,rfl,?_⟩
 match es,hnn with
 |[],h=>exact absurd rfl h
 |[none],_=>
  refine aaO ⟨_,rfl,D,_,rfl,.inl (SqL.of hz2),rfl,hfl,_,rfl,aa3 ?_⟩
  exact q _ _ s02 rfl
 |[some a],_=>
  refine aaO ⟨_,rfl,D,_,rfl,.inl (SqL.of hz2),rfl,hfl,_,rfl,aaO ⟨_,rfl,D,_,_,_,rfl,rfl,SqL.of hz2,rfl,_,rfl,_,rfl,D,_,_,_,rfl,rfl,SqL.of hz2,rfl,_,_,rfl,rfl,_,rfl,?_⟩⟩
  rw[decide_eq_false (show ¬a<a by omega)]
  refine aaO ⟨_,rfl,D,_,_,_,rfl,rfl,SqL.of hz2,rfl,_,rfl,_,rfl,D,_,_,_,rfl,rfl,SqL.of hz2,rfl,(by show 2<=sizeLine;decide),fun p hp=>?_⟩
  exact q _ _ (s02.trans (aaB hp _)) ⟨p,rfl,aaA⟩
 |[none,y],_=>
  refine aaO ⟨_,rfl,D,_,rfl,.inl (SqL.of hz2),rfl,hfl,_,rfl,aa3 ?_⟩
  exact q _ _ s02 rfl
 |[some a,none],_=>
  refine aaO ⟨_,rfl,D,_,rfl,.inl (SqL.of hz2),rfl,hfl,_,rfl,aa3 ?_⟩
  exact q _ _ s02 rfl
 |[some a,some b],_=>
  refine aaO ⟨_,rfl,D,_,rfl,.inl (SqL.of hz2),rfl,hfl,_,rfl,aaO ⟨_,rfl,D,_,_,_,rfl,rfl,SqL.of hz2,rfl,_,rfl,_,rfl,D,_,_,_,rfl,rfl,SqL.of hz2,rfl,_,_,rfl,rfl,_,rfl,?_⟩⟩
  refine ifD (fun c2=>?_) (fun c2=>?_)
  ·have e:adY [some a,some b]=none:=by show (if b<a then none else some (a,b))=none;rw[if_pos c2]
   rw[e] at q
   exact q _ _ s02 rfl
  ·have e:adY [some a,some b]=some (a,b):=by show (if b<a then none else some (a,b))=some (a,b);rw[if_neg c2]
   rw[e] at q
   refine⟨_,rfl,D,_,_,_,rfl,rfl,SqL.of hz2,rfl,_,rfl,_,rfl,D,_,_,_,rfl,rfl,SqL.of hz2,rfl,(by show 2<=sizeLine;decide),fun p hp=>?_⟩
   exact q _ _ (s02.trans (aaB hp _)) ⟨p,rfl,aaA⟩
 |x::y::u::r,_=>
  have e3:decide ((2:Int)<(((x::y::u::r).map oV).length:Nat))=true:=decide_eq_true (by rw[List.length_map];show (2:Int)<((r.length+1+1+1:Nat):Int);omega)
  refine ifT e3 ?_
  have e:adY (x::y::u::r)=none:=by cases x<;>cases y<;>rfl
  rw[e] at q
  exact q _ _ s02 rfl
theorem aeC:Df P w K mg base "read_strided" 5 ["run_text","stride_text","low","high"] (ad8 K):=by
 refine ZZ.F_read_strided.dfs sc_read_strided (fun vs H Q E h=>?_) (fun f cdv A outer s H vs Q E hr h=>?_)
 ·obtain⟨r,st,lo,hi,rfl,hr1,hs1,hb,q⟩:=h
  rfl
 obtain⟨r,st,lo,hi,rfl,hr1,hs1,hb,q⟩:=h
 refine⟨_,(ssC (aaM 4 (eD (adT ZZ) hr (aC (v_ 0) (aC (v_ 2) (aC (v_ 3) aN)))) sc_read_strided.nd)
   (ssC (aaM 5 (eD (aaU ZZ) hr (aC (v_ 1) (aC eI (aC (eGl (v:=.int 99) ZZ.m_MOST_STRIDE ⟨_,rfl⟩) aN)))) sc_read_strided.nd)
   (ssC (sIf (tW (wOr (tCm aeA (v_ 4) eN) (afC (tCm aeA (v_ 5) eN)))) (ss1 (aaI eN)) ssN)
   (ssC (aaM 6 (eIf (tVa (eD (acQ ZZ) hr (aC (v_ 0) aN))) (v_ 3) (eIx xT (v_ 4) eI)) sc_read_strided.nd)
   (ss1 (aaI (eD (adW ZZ) hr (aC (eIx xT (v_ 4) eI) (aC (v_ 6) (aC (v_ 5) aN)))))))))),?_⟩
 refine⟨_,rfl,_,rfl,_,rfl,r,lo,hi,rfl,(by omega),fun rv H1 s1 hrv=>?_⟩
 refine⟨_,rfl,st,1,99,rfl,(by omega),fun H2 s2=>?_⟩
 cases er:aaQ lo hi r with
 |none=>
  rw[er] at hrv
  have hrv:rv=.non:=hrv
  subst hrv
  have e:aa2 lo hi r st=none:=by unfold aa2;rw[er]
  rw[e] at q
  exact⟨_,rfl,rfl,_,rfl,aa3 (q H2 (s1.trans s2))⟩
 |some ab=>
  obtain⟨a,b⟩:=ab
  rw[er] at hrv
  obtain⟨p,rfl,hp⟩:=hrv
  have bd:=aeU hb.2.1 er
  refine⟨_,rfl,rfl,_,rfl,ifF rfl ⟨_,rfl,rfl,_,rfl,?_⟩⟩
  cases es:aaK 1 99 st with
  |none=>
   have e:aa2 lo hi r st=none:=by unfold aa2;rw[er,es]
   rw[e] at q
   exact ifT rfl (q H2 (s1.trans s2))
  |some sv=>
   have bs:=ahV es
   have hp2:=s2 _ _ hp
   refine ifF rfl ⟨_,rfl,r,rfl,(by omega),fun H3 s3=>⟨_,rfl,?_⟩⟩
   have hp3:=s3 _ _ hp2
   refine if2 (fun c=>?_) (fun c=>?_)
   ·have e:aa2 lo hi r st=some (ae2 a hi sv):=by unfold aa2;rw[er,es];show some (ae2 a (if isW r=true then hi else b) sv)=_;rw[if_pos c]
    rw[e] at q
    refine⟨_,rfl,_,rfl,p,_,_,_,rfl,rfl,SqT.of hp3,rfl,_,rfl,_,rfl,a,hi,sv,rfl,⟨by omega,by omega⟩,⟨by omega,by omega⟩,⟨by omega,by omega⟩,fun H4 s4=>?_⟩
    exact q H4 (s1.trans (s2.trans (s3.trans s4)))
   ·have e:aa2 lo hi r st=some (ae2 a b sv):=by unfold aa2;rw[er,es];show some (ae2 a (if isW r=true then hi else b) sv)=_;rw[if_neg (by rw[c];exact Bool.false_ne_true)]
    rw[e] at q
    refine⟨_,rfl,p,_,_,_,rfl,rfl,SqT.of hp3,rfl,_,rfl,p,_,_,_,rfl,rfl,SqT.of hp3,rfl,_,rfl,_,rfl,a,b,sv,rfl,⟨by omega,by omega⟩,⟨by omega,by omega⟩,⟨by omega,by omega⟩,fun H4 s4=>?_⟩
    exact q H4 (s1.trans (s2.trans (s3.trans s4)))
theorem agG:Df P w K mg base "read_item" 6 ["item","low","high"] (agJ K):=by
 refine ZZ.F_read_item.dfs sc_read_item (fun vs H Q E h=>?_) (fun f cdv A outer s H vs Q E hr h=>?_)
 ·obtain⟨l,lo,hi,rfl,hl,hb,q⟩:=h
  rfl
 obtain⟨l,lo,hi,rfl,hl,hb,q⟩:=h
 refine⟨_,(ssC (aaM 3 (al0 (v_ 0) (eSx [47])) sc_read_item.nd)
   (ssC (sIf (tCm oEq (eCB ahQ ZZ.z_len PySem.boot_len (aC (v_ 3) aN)) eI) (ss1 (aaI (eD (aeC ZZ) hr (aC (eIx xL (v_ 3) eI) (aC (eIx xL (v_ 3) eI) (aC (v_ 1) (aC (v_ 2) aN))))))) ssN)
   (ssC (aaM 4 (eD (adT ZZ) hr (aC (v_ 0) (aC (v_ 1) (aC (v_ 2) aN)))) sc_read_item.nd)
   (ssC (sIf (tCm aeA (v_ 4) eN) (ss1 (aaI eN)) ssN)
   (ss1 (aaI (eD (adW ZZ) hr (aC (eIx xT (v_ 4) eI) (aC (eIx xT (v_ 4) eI) (aC eI aN)))))))))),?_⟩
 have hsl:=ac9 47 l
 have hml:=aa5 47 l
 refine⟨_,rfl,rfl,l,47,rfl,rfl,(by rw[sizeLine_eq];omega),fun ps hps=>?_⟩
 have s0:=aaB hps (.lst ((spl 47 l).map fun q=>V.str (Tx q)))
 refine⟨_,rfl,ps,_,rfl,.inl (SqL.of aaA),rfl,_,rfl,?_⟩
 have two:(∃r s,spl 47 l=[r,s])∨(∀r s,spl 47 l≠[r,s]):=by
  by_cases z:∃r s,spl 47 l=[r,s]
  ·exact .inl z
  ·exact .inr fun r s e=>z ⟨r,s,e⟩
 rcases two with ⟨r,s,e2⟩ | hno
 ·have e:aaH lo hi l=aa2 lo hi r s:=by unfold aaH;rw[e2]
  rw[e] at q
  have h1:=hml r (by rw[e2];simp)
  have h2:=hml s (by rw[e2];simp)
  rw[e2]
  refine ifT rfl ⟨_,rfl,ps,_,_,_,rfl,rfl,SqL.of aaA,rfl,_,rfl,ps,_,_,_,rfl,rfl,SqL.of aaA,rfl,_,rfl,_,rfl,r,s,lo,hi,rfl,(by omega),(by omega),hb,fun H1 s1=>?_⟩
  exact q H1 ((aaB hps _).trans s1)
 ·have hlen:¬(spl 47 l).length=2:=fun e=>by
   match h:spl 47 l,e with
   |[r,s],_=>exact hno r s h
  have e:aaH lo hi l=match aaQ lo hi l with | some (a,b)=>some (ae2 a b 1) | none=>none:=by
   unfold aaH
   split
   ·rename_i r s h
    exact absurd h (hno r s)
   ·rfl
  refine ifF (decide_eq_false fun z=>hlen (by have z:=V.int.inj z;rw[List.length_map] at z;omega)) ?_
  refine⟨_,rfl,_,rfl,_,rfl,l,lo,hi,rfl,(by omega),fun rv H1 s1 hrv=>?_⟩
  cases er:aaQ lo hi l with
  |none=>
   rw[er] at hrv e
   have hrv:rv=.non:=hrv
   subst hrv
   rw[e] at q
   exact⟨_,rfl,rfl,_,rfl,aa3 (q H1 (s0.trans s1))⟩
  |some ab=>
   obtain⟨a,b⟩:=ab
   rw[er] at hrv e
   obtain⟨p,rfl,hp⟩:=hrv
   have bd:=aeU hb.2.1 er
   have e:aaH lo hi l=some (ae2 a b 1):=e
   rw[e] at q
   refine⟨_,rfl,rfl,_,rfl,ifF rfl ⟨_,rfl,p,_,_,_,rfl,rfl,SqT.of hp,rfl,_,rfl,p,_,_,_,rfl,rfl,SqT.of hp,rfl,a,b,1,rfl,⟨by omega,by omega⟩,⟨by omega,by omega⟩,⟨by decide,by decide⟩,fun H4 s4=>?_⟩⟩
   exact q H4 (s0.trans (s1.trans s4))
theorem acK:DfM P w K mg base C_Numbers "__init__" 1 ["self","mask"] (acL K C_Numbers):=by
 refine ZZ.F_Numbers___init__.dfs acM (fun vs H Q E h=>?_) (fun f cdv A outer s H vs Q E hr h=>?_)
 ·obtain⟨p,dx,m,rfl,hp,q⟩:=h
  rfl
 obtain⟨p,dx,m,rfl,hp,q⟩:=h
 refine⟨_,(ss1 (sFl (v_ 0) (v_ 1))),?_⟩
 exact⟨_,rfl,_,rfl,p,C_Numbers,dx,[],rfl,hp,ZZ.c_Numbers.cl,ZZ.n_Numbers_mask,(by show 0<1000;decide),q⟩
theorem abH:DfMD P w K mg base C_Last "__init__" 1 ["self","back"] (adE K C_Last) [.int 0]:=by
 refine ZZ.F_Last___init__.dfs adH (fun vs H Q E h=>?_) (fun f cdv A outer s H vs Q E hr h=>?_)
 ·obtain⟨p,dx,m,rfl,hp,q⟩:=h
  rfl
 obtain⟨p,dx,m,rfl,hp,q⟩:=h
 refine⟨_,(ss1 (sFl (v_ 0) (v_ 1))),?_⟩
 exact⟨_,rfl,_,rfl,p,C_Last,dx,[],rfl,hp,ZZ.c_Last.cl,ZZ.n_Last_back,(by show 0<1000;decide),q⟩
theorem adI:DfM P w K mg base C_Near "__init__" 1 ["self","day"] (adO K C_Near):=by
 refine ZZ.F_Near___init__.dfs adM (fun vs H Q E h=>?_) (fun f cdv A outer s H vs Q E hr h=>?_)
 ·obtain⟨p,dx,m,rfl,hp,q⟩:=h
  rfl
 obtain⟨p,dx,m,rfl,hp,q⟩:=h
 refine⟨_,(ss1 (sFl (v_ 0) (v_ 1))),?_⟩
 exact⟨_,rfl,_,rfl,p,C_Near,dx,[],rfl,hp,ZZ.c_Near.cl,ZZ.n_Near_day,(by show 0<1000;decide),q⟩
theorem ab4:DfM P w K mg base C_Weekdays "__init__" 1 ["self","mask"] (abY K C_Weekdays):=by
 refine ZZ.F_Weekdays___init__.dfs abX (fun vs H Q E h=>?_) (fun f cdv A outer s H vs Q E hr h=>?_)
 ·obtain⟨p,dx,m,rfl,hp,q⟩:=h
  rfl
 obtain⟨p,dx,m,rfl,hp,q⟩:=h
 refine⟨_,(ss1 (sFl (v_ 0) (v_ 1))),?_⟩
 exact⟨_,rfl,_,rfl,p,C_Weekdays,dx,[],rfl,hp,ZZ.c_Weekdays.cl,ZZ.n_Weekdays_mask,(by show 0<1000;decide),q⟩
theorem aeH:DfM P w K mg base C_Nth "__init__" 1 ["self","weekday","many"] (aeM K C_Nth):=by
 refine ZZ.F_Nth___init__.dfs aeK (fun vs H Q E h=>?_) (fun f cdv A outer s H vs Q E hr h=>?_)
 ·obtain⟨p,dx,wd,m,rfl,hp,q⟩:=h
  rfl
 obtain⟨p,dx,wd,m,rfl,hp,q⟩:=h
 refine⟨_,(ssC (sFl (v_ 0) (v_ 1))
   (ss1 (sFl (v_ 0) (v_ 2)))),?_⟩
 exact⟨_,rfl,_,rfl,p,C_Nth,dx,[],rfl,hp,ZZ.c_Nth.cl,ZZ.n_Nth_weekday,(by show 0<1000;decide),_,rfl,_,rfl,p,C_Nth,dx,_,rfl,aaA,ZZ.c_Nth.cl,ZZ.n_Nth_many,(by show 1<1000;decide),q⟩
theorem acN:DfM P w K mg base C_LastOne "__init__" 1 ["self","weekday"] (acF K C_LastOne):=by
 refine ZZ.F_LastOne___init__.dfs acG (fun vs H Q E h=>?_) (fun f cdv A outer s H vs Q E hr h=>?_)
 ·obtain⟨p,dx,m,rfl,hp,q⟩:=h
  rfl
 obtain⟨p,dx,m,rfl,hp,q⟩:=h
 refine⟨_,(ss1 (sFl (v_ 0) (v_ 1))),?_⟩
 exact⟨_,rfl,_,rfl,p,C_LastOne,dx,[],rfl,hp,ZZ.c_LastOne.cl,ZZ.n_LastOne_weekday,(by show 0<1000;decide),q⟩
theorem adF:Df P w K mg base "read_day_mark" 4 ["item"] (adK K C_Numbers C_Last C_Near C_LastWork C_Weekdays C_Nth C_LastOne C_Mark):=by
 refine ZZ.F_read_day_mark.dfs sc_read_day_mark (fun vs H Q E h=>?_) (fun f cdv A outer s H vs Q E hr h=>?_)
 ·obtain⟨t,rfl,hl,q⟩:=h
  rfl
 obtain⟨t,rfl,hl,q⟩:=h
 refine⟨_,(ssC (sIf (tCm oEq (v_ 0) (eSx [76])) (ss1 (aaI (eMkD ZZ.c_Last (abH ZZ) hr))) ssN)
   (ssC (sIf (tCm oEq (v_ 0) (eSx [76,87])) (ss1 (aaI (eMkN ZZ.c_LastWork ZZ.i_LastWork))) ssN)
   (ssC (sIf (tVa (eSwN (v_ 0) (eSx [76,45]))) (ssC (aaM 1 (eD (aaU ZZ) hr (aC (eSl slX (v_ 0) (poS eI) poN) (aC eI (aC (eGl (v:=.int 30) ZZ.m_MOST_BACK ⟨_,rfl⟩) aN)))) sc_read_day_mark.nd)
   (ss1 (aaI (eIf (tCm aeA (v_ 1) eN) eN (eMk ZZ.c_Last (abH ZZ).dfm hr (aC (v_ 1) aN)))))) ssN)
   (ssC (sIf (tVa (eEw (v_ 0) (eSx [87]))) (ssC (aaM 2 (eD (aaU ZZ) hr (aC (eSl slX (v_ 0) poN (poS (eUn am0 eI))) (aC eI (aC (eGl (v:=.int 31) ZZ.m_MOST_DAY ⟨_,rfl⟩) aN)))) sc_read_day_mark.nd)
   (ss1 (aaI (eIf (tCm aeA (v_ 2) eN) eN (eMk ZZ.c_Near (adI ZZ) hr (aC (v_ 2) aN)))))) ssN)
   (ss1 (aaI eN)))))),?_⟩
 have hz:t.length<=sizeLine:=by rw[sizeLine_eq];omega
 have hc1:=ac7 t (some 2) none
 have hc2:=ac7 t none (some (-1))
 refine⟨_,rfl,rfl,_,rfl,ifX (fun c=>?a0) (fun c1=>⟨_,rfl,rfl,_,rfl,ifX (fun c=>?a1) (fun c2=>⟨_,rfl,rfl,t,[76,45],rfl,rfl,_,rfl,ifD (fun c=>?a2) (fun c3=>⟨_,rfl,rfl,t,87,rfl,rfl,_,rfl,ifD (fun c=>?a3) (fun c4=>?a4)⟩)⟩)⟩)⟩
 case a0=>
  have e:abK t=some (.lst 0):=by unfold abK;rw[if_pos c]
  rw[e] at q
  exact fun xo dx nx ndx nex=>⟨xo,dx,0,rfl,aaA,rfl,q _ _ (abA nx ndx) ⟨xo,rfl,dx,aaA⟩⟩
 case a1=>
  have e:abK t=some .wrk:=by unfold abK;rw[if_neg c1,if_pos c]
  rw[e] at q
  exact fun xo dx nx ndx nex=>q _ _ (ahS nx ndx) ⟨xo,rfl,dx,aaA⟩
 case a2=>
  have e:abK t=(aaK 1 30 (acJ t (some 2) none)).map Mk.lst:=by unfold abK;rw[if_neg c1,if_neg c2,if_pos c]
  rw[e] at q
  refine⟨_,rfl,_,rfl,t,rfl,hz,_,1,30,rfl,(by omega),fun H1 s1=>?_⟩
  cases en:aaK 1 30 (acJ t (some 2) none) with
  |none=>
   rw[en] at q
   exact⟨_,rfl,rfl,_,rfl,ifT rfl (q _ _ s1 rfl)⟩
  |some b=>
   rw[en] at q
   exact⟨_,rfl,rfl,_,rfl,ifF rfl ⟨_,rfl,fun xo dx nx ndx nex=>⟨xo,dx,_,rfl,aaA,rfl,q _ _ (s1.trans (abA nx ndx)) ⟨xo,rfl,dx,aaA⟩⟩⟩⟩
 case a3=>
  have e:abK t=(aaK 1 31 (acJ t none (some (-1)))).map Mk.nea:=by unfold abK;rw[if_neg c1,if_neg c2,if_neg c3,if_pos c]
  rw[e] at q
  refine⟨_,rfl,_,rfl,_,rfl,t,rfl,hz,_,1,31,rfl,(by omega),fun H1 s1=>?_⟩
  cases en:aaK 1 31 (acJ t none (some (-1))) with
  |none=>
   rw[en] at q
   exact⟨_,rfl,rfl,_,rfl,ifT rfl (q _ _ s1 rfl)⟩
  |some b=>
   rw[en] at q
   exact⟨_,rfl,rfl,_,rfl,ifF rfl ⟨_,rfl,fun xo dx nx ndx nex=>⟨xo,dx,_,rfl,aaA,rfl,q _ _ (s1.trans (abA nx ndx)) ⟨xo,rfl,dx,aaA⟩⟩⟩⟩
 case a4=>
  have e:abK t=none:=by unfold abK;rw[if_neg c1,if_neg c2,if_neg c3,if_neg c4]
  rw[e] at q
  exact q _ _ (Same.refl H) rfl
theorem abU:Df P w K mg base "read_weekday" 4 ["text"] (aeI K):=by
 refine ZZ.F_read_weekday.dfs sc_read_weekday (fun vs H Q E h=>?_) (fun f cdv A outer s H vs Q E hr h=>?_)
 ·obtain⟨t,rfl,hl,q⟩:=h
  rfl
 obtain⟨t,rfl,hl,q⟩:=h
 refine⟨_,(ssC (aaM 1 (eD (aaU ZZ) hr (aC (v_ 0) (aC eI (aC (eGl (v:=.int 7) ZZ.m_SUNDAY_TOO ⟨_,rfl⟩) aN)))) sc_read_weekday.nd)
   (ss1 (aaI (eIf (tCm oEq (v_ 1) (eGl (v:=.int 7) ZZ.m_SUNDAY_TOO ⟨_,rfl⟩)) (eGl (v:=.int 0) ZZ.m_SUNDAY ⟨_,rfl⟩) (v_ 1))))),?_⟩
 refine⟨_,rfl,t,0,7,rfl,(by omega),fun H1 s1=>?_⟩
 cases en:aaK 0 7 t with
 |none=>
  have e:wdN t=none:=by unfold wdN;rw[en];rfl
  rw[e] at q
  exact⟨_,rfl,rfl,_,rfl,ifF (decide_eq_false fun z=>nomatch z) ⟨_,rfl,q _ s1⟩⟩
 |some n=>
  have e:wdN t=some (if n=7 then 0 else n):=by unfold wdN;rw[en];rfl
  rw[e] at q
  refine⟨_,rfl,rfl,_,rfl,ifI (fun c=>?_) (fun c=>⟨_,rfl,?_⟩)⟩
  ·rw[if_pos c] at q
   exact q _ s1
  ·rw[if_neg c] at q
   exact q _ s1
theorem acE:Df P w K mg base "read_weekday_mark" 5 ["item"] (ab8 K C_Numbers C_Last C_Near C_LastWork C_Weekdays C_Nth C_LastOne C_Mark):=by
 refine ZZ.F_read_weekday_mark.dfs sc_read_weekday_mark (fun vs H Q E h=>?_) (fun f cdv A outer s H vs Q E hr h=>?_)
 ·obtain⟨t,rfl,hl,q⟩:=h
  rfl
 obtain⟨t,rfl,hl,q⟩:=h
 refine⟨_,(ssC (sIf (tVa (eEw (v_ 0) (eSx [76]))) (ssC (aaM 1 (eD (abU ZZ) hr (aC (eSl slX (v_ 0) poN (poS (eUn am0 eI))) aN)) sc_read_weekday_mark.nd)
   (ss1 (aaI (eIf (tCm aeA (v_ 1) eN) eN (eMk ZZ.c_LastOne (acN ZZ) hr (aC (v_ 1) aN)))))) ssN)
   (ssC (aaM 2 (al0 (v_ 0) (eSx [35])) sc_read_weekday_mark.nd)
   (ssC (sIf (tCm oNe (eCB ahQ ZZ.z_len PySem.boot_len (aC (v_ 2) aN)) eI) (ss1 (aaI eN)) ssN)
   (ssC (aaM 1 (eD (abU ZZ) hr (aC (eIx xL (v_ 2) eI) aN)) sc_read_weekday_mark.nd)
   (ssC (aaM 3 (eD (aaU ZZ) hr (aC (eIx xL (v_ 2) eI) (aC eI (aC (eGl (v:=.int 5) ZZ.m_MOST_NTH ⟨_,rfl⟩) aN)))) sc_read_weekday_mark.nd)
   (ssC (sIf (tW (wOr (tCm aeA (v_ 1) eN) (afC (tCm aeA (v_ 3) eN)))) (ss1 (aaI eN)) ssN)
   (ss1 (aaI (eMk ZZ.c_Nth (aeH ZZ) hr (aC (v_ 1) (aC (v_ 3) aN))))))))))),?_⟩
 have hz:t.length<=sizeLine:=by rw[sizeLine_eq];omega
 have hc2:=ac7 t none (some (-1))
 have hsl:=ac9 35 t
 have hml:=aa5 35 t
 refine⟨_,rfl,rfl,t,76,rfl,rfl,_,rfl,ifD (fun c=>?a0) (fun c1=>?a1)⟩
 case a0=>
  have e:agK t=(wdN (acJ t none (some (-1)))).map Mk.one:=by unfold agK;rw[if_pos c]
  rw[e] at q
  refine⟨_,rfl,_,rfl,_,rfl,t,rfl,hz,_,rfl,(by omega),fun H1 s1=>?_⟩
  cases en:wdN (acJ t none (some (-1))) with
  |none=>
   rw[en] at q
   exact⟨_,rfl,rfl,_,rfl,ifT rfl (q _ _ s1 rfl)⟩
  |some b=>
   rw[en] at q
   exact⟨_,rfl,rfl,_,rfl,ifF rfl ⟨_,rfl,fun xo dx nx ndx nex=>⟨xo,dx,_,rfl,aaA,rfl,q _ _ (s1.trans (abA nx ndx)) ⟨xo,rfl,dx,aaA⟩⟩⟩⟩
 case a1=>
  refine⟨_,rfl,rfl,t,35,rfl,rfl,(by rw[sizeLine_eq];omega),fun ps hps=>?_⟩
  have s0:=aaB hps (.lst ((spl 35 t).map fun q=>V.str (Tx q)))
  refine⟨_,rfl,ps,_,rfl,.inl (SqL.of aaA),rfl,_,rfl,?_⟩
  have two:(∃a b,spl 35 t=[a,b])∨(∀a b,spl 35 t≠[a,b]):=by
   by_cases z:∃a b,spl 35 t=[a,b]
   ·exact .inl z
   ·exact .inr fun r s e=>z ⟨r,s,e⟩
  rcases two with ⟨a,b,e2⟩ | hno
  ·have e:agK t=anF (wdN a) (aaK 1 5 b):=by unfold agK;rw[if_neg c1,e2]
   rw[e] at q
   have h1:=hml a (by rw[e2];simp)
   have h2:=hml b (by rw[e2];simp)
   rw[e2]
   refine ifF rfl ⟨_,rfl,ps,_,_,_,rfl,rfl,SqL.of aaA,rfl,a,rfl,(by omega),fun H1 s1=>?_⟩
   refine⟨_,rfl,ps,_,_,_,rfl,rfl,SqL.of (s1 _ _ aaA),rfl,b,1,5,rfl,(by omega),fun H2 s2=>?_⟩
   rw[e2] at s0
   cases ew:wdN a with
   |none=>
    rw[ew] at q
    exact⟨_,rfl,rfl,_,rfl,ifT rfl (q _ _ (s0.trans (s1.trans s2)) rfl)⟩
   |some wd=>
    rw[ew] at q
    refine⟨_,rfl,rfl,_,rfl,ifF rfl ⟨_,rfl,rfl,_,rfl,?_⟩⟩
    cases en:aaK 1 5 b with
    |none=>
     rw[en] at q
     exact ifT rfl (q _ _ (s0.trans (s1.trans s2)) rfl)
    |some m=>
     rw[en] at q
     exact ifF rfl ⟨_,rfl,_,rfl,fun xo dx nx ndx nex=>⟨xo,dx,_,_,rfl,aaA,rfl,q _ _ (s0.trans (s1.trans (s2.trans (akI nx ndx)))) ⟨xo,rfl,dx,aaA⟩⟩⟩
  ·have hlen:¬(spl 35 t).length=2:=fun e=>by
    match h:spl 35 t,e with
    |[r,s],_=>exact hno r s h
   have e:agK t=none:=by
    unfold agK
    rw[if_neg c1]
    split
    ·rename_i a b h
     exact absurd h (hno a b)
    ·rfl
   rw[e] at q
   refine ifT ?_ (q _ _ s0 rfl)
   rw[decide_eq_false fun z=>hlen (by have z:=V.int.inj z;rw[List.length_map] at z;omega)]
   rfl
theorem aaX:DfM P w K mg base C_NoField "__init__" 1 ["self","at"] (acI K C_NoField):=by
 refine ZZ.F_NoField___init__.dfs acH (fun vs H Q E h=>?_) (fun f cdv A outer s H vs Q E hr h=>?_)
 ·obtain⟨a,v,rfl,ha,hx,q⟩:=h
  rfl
 obtain⟨a,v,rfl,ha,hx,q⟩:=h
 refine⟨_,(ss1 (sFlX (v_ 0) (v_ 1))),?_⟩
 exact⟨_,rfl,_,rfl,a,C_NoField,rfl,ha,hx,fun dx h1 h2=>q dx _ h1 h2 rfl⟩
theorem acO:Df1 P w K mg base "read_items" 7 ["text","low","high","read_mark"] (afF K C_Numbers C_Last C_Near C_LastWork C_Weekdays C_Nth C_LastOne C_Mark C_NoField C_read_day_mark C_read_weekday_mark):=by
 refine ZZ.F_read_items.dfs1 sc_read_items (fun vs H Q E h=>?_) (fun f cdv A outer s H vs Q E hr h=>?_)
 ·obtain⟨v,lo,hi,wk,rfl,hb,hv⟩:=h
  rfl
 obtain⟨v,lo,hi,wk,rfl,hb,hv⟩:=h
 refine⟨_,(ssC (sIf (tW (wOr (tNo (tVa (eCB cIs ZZ.z_isinstance PyProof.Rows.boot_isinstance (aC (v_ 0) (aC (eTy ZZ.z_str PyProof.Rows.boot_str) aN))))) (afC (tCm oGt (eCB anB ZZ.z_len PySem.boot_len (aC (v_ 0) aN)) (eGl (v:=.int 300) ZZ.m_MOST_SIGNS ⟨_,rfl⟩))))) (ss1 (aqG alG ZZ.m_NoField ZZ.xj_NoField (aaX ZZ) hr (aC eI aN))) ssN)
   (ssC (aaM 4 (al0 (v_ 0) (eSx [44])) sc_read_items.nd)
   (ssC (aaM 5 eI sc_read_items.nd)
   (ssC (aaM 6 (aa0 aN) sc_read_items.nd)
   (ssC (aiE (iE ZZ.z_enumerate (eSl slL (v_ 4) poN (poS (eGl (v:=.int 40) ZZ.m_MOST_ITEMS ⟨_,rfl⟩)))) (gTu (gsC (gN 7 sc_read_items.nd) (gsC (gN 8 sc_read_items.nd) gsN))) (ssC (aaM 9 (eD (agG ZZ) hr (aC (v_ 8) (aC (v_ 1) (aC (v_ 2) aN)))) sc_read_items.nd)
   (ss1 (sIf (tCm aeA (v_ 9) eN) (ssC (aaM 10 (eOr2 (eDV ((adF ZZ).at_ ZZ.m_read_day_mark) hr (v_ 3) (aC (v_ 8) aN)) (eDV ((acE ZZ).at_ ZZ.m_read_weekday_mark) hr (v_ 3) (aC (v_ 8) aN))) sc_read_items.nd)
   (ssC (sIf (tW (wOr (tCm aeA (v_ 10) eN) (afC (tCm oEq (eCB ahQ ZZ.z_len PySem.boot_len (aC (v_ 6) aN)) (eGl (v:=.int 20) ZZ.m_MOST_MARKS ⟨_,rfl⟩))))) (ss1 (aqG alG ZZ.m_NoField ZZ.xj_NoField (aaX ZZ) hr (aC (v_ 7) aN))) ssN)
   (ss1 (alZ (am3 (v_ 6) (v_ 10)))))) (ss1 (aaM 5 (eOp oOr (v_ 5) (v_ 9)) sc_read_items.nd))))) PassesOwn.leaving)
   (ssC (sIf (tCm oGt (eCB ahQ ZZ.z_len PySem.boot_len (aC (v_ 4) aN)) (eGl (v:=.int 40) ZZ.m_MOST_ITEMS ⟨_,rfl⟩)) (ss1 (aqG alG ZZ.m_NoField ZZ.xj_NoField (aaX ZZ) hr (aC (eGl (v:=.int 40) ZZ.m_MOST_ITEMS ⟨_,rfl⟩) aN))) ssN)
   (ss1 (aaI (aeW (aC (v_ 5) (aC (v_ 6) aN))))))))))),?_⟩
 rcases hv with ⟨kd,hk,ns,hE⟩ | ⟨l,rfl,hl,hE,hQ⟩
 ·refine⟨_,rfl,v,.str,kd,rfl,(by decide),hk,_,rfl,?_⟩
  have e:Kd.isa kd .str=false:=by cases kd<;>first | rfl | exact absurd rfl ns
  rw[e]
  exact aa3 ⟨(by show 1<=sizeLine;decide),fun e he=>⟨e,_,rfl,aaA,ZZ.xs_NoField,fun dx H' n1 n2 eH=>⟨rfl,dx,(by rw[eH];exact aaA),(by rw[eH];exact hE dx _ (abE (Same.refl _) he n1 n2).1 (abE (Same.refl _) he n1 n2).2)⟩⟩⟩
 have hml:=aa5 44 l
 refine⟨_,rfl,_,.str,.str,rfl,(by decide),rfl,_,rfl,ifF rfl ⟨_,rfl,l,rfl,(by rw[sizeLine_eq];omega),_,_,rfl,rfl,_,rfl,?_⟩⟩
 by_cases c3:300<l.length
 ·rw[decide_eq_true (show (300:Int)<((l.length:Nat):Int) by omega)]
  exact aa3 ⟨(by show 1<=sizeLine;decide),fun e he=>⟨e,_,rfl,aaA,ZZ.xs_NoField,fun dx H' n1 n2 eH=>⟨rfl,dx,(by rw[eH];exact aaA),(by rw[eH];exact hE 0 (ay4 c3) dx _ (abE (Same.refl _) he n1 n2).1 (abE (Same.refl _) he n1 n2).2)⟩⟩⟩
 rw[decide_eq_false (show ¬(300:Int)<((l.length:Nat):Int) by omega)]
 refine aaO ⟨_,rfl,rfl,l,44,rfl,rfl,(by rw[sizeLine_eq];omega),fun ps hps=>?_⟩
 have s0:=aaB hps (.lst ((spl 44 l).map fun q=>V.str (Tx q)))
 refine⟨(by show 0<=sizeLine;decide),fun mk hmk=>?_⟩
 have s1:=aaB hmk (.lst [])
 refine⟨_,rfl,_,rfl,ps,_,rfl,SqL.of (s1 _ _ aaA),fun pc hpc=>?_⟩
 have ecut:aiG ((spl 44 l).map fun q=>V.str (Tx q)) none (some 40)=((spl 44 l).take 40).map fun q=>V.str (Tx q):=by rw[an0,List.map_take]
 rw[ecut]
 have hne:pc≠mk:=fun e=>by
  rw[e,aaA] at hpc
  cases hpc
 have s1b:=aaB hpc (.lst (((spl 44 l).take 40).map fun q=>V.str (Tx q)))
 refine⟨pc,rfl,⟨_,SqL.of aaA⟩,ahP (K:=K) (a:=pc) (xs:=((spl 44 l).take 40).map fun q=>V.str (Tx q)) (fun i σ H2=>∃(u1 u2 u3 u4:Option V) (M:Int) (qs:List Addr),σ=[some (.str (Tx l)),some (.int lo),some (.int hi),some (.ref (if wk=true then C_read_weekday_mark else C_read_day_mark)),some (.ref ps),some (.int M),some (.ref mk),u1,u2,u3,u4]/\Same (upd H ps (.lst ((spl 44 l).map fun q=>V.str (Tx q)))) H2/\H2 pc=some (.lst (((spl 44 l).take 40).map fun q=>V.str (Tx q)))/\H2 mk=some (.lst (qs.map V.ref))/\qs.length<=20/\abJ wk lo hi ((spl 44 l).take 40) 0 0=abJ wk lo hi (((spl 44 l).take 40).drop i) i qs.length) ⟨_,_,_,_,_,[],rfl,s1.trans s1b,aaA,s1b _ _ aaA,Nat.zero_le _,rfl⟩ (fun i σ H2 _ ⟨_,_,_,_,_,_,_,_,h,_⟩=>SqL.of h) ?turn ?done⟩
 case turn=>
  rintro i x σ H2 T hx ⟨u1,u2,u3,u4,M,qs,rfl,s2,h2c,h2m,hq,hsc⟩ hT
  rw[List.getElem?_map] at hx
  cases ew:((spl 44 l).take 40)[i]? with
  |none=>rw[ew] at hx;cases hx
  |some w0=>
   rw[ew] at hx
   obtain rfl:V.str (Tx w0)=x:=Option.some.inj hx
   have hw:=hml w0 (List.mem_of_mem_take (List.mem_of_getElem? ew))
   have edr:=ajC ew
   refine⟨T,_,rfl,SqT.of aaA,rfl,_,_,rfl,_,_,rfl,rfl,?_⟩
   refine⟨_,rfl,_,rfl,_,rfl,w0,lo,hi,rfl,(by omega),hb,fun H3 s3=>?_⟩
   cases em:aaH lo hi w0 with
   |some m=>
    have s23:=(aaB hT _).trans s3
    refine⟨_,rfl,rfl,_,rfl,ifF rfl ⟨_,rfl,_,rfl,_,_,rfl,rfl,?_⟩⟩
    exact⟨_,_,_,_,_,qs,rfl,s2.trans s23,s23 _ _ h2c,s23 _ _ h2m,hq,by rw[hsc,edr];exact ajB em⟩
   |none=>
    cases wk with
    |false=>
     refine⟨_,rfl,rfl,_,rfl,ifT rfl ?_⟩
     refine .inl ⟨_,rfl,rfl,_,rfl,w0,rfl,(by omega),fun v H4 s4 hv=>?_⟩
     have s24:=(aaB hT _).trans (s3.trans s4)
     have sA:Same H H4:=s0.trans (s2.trans s24)
     cases ek:abK w0 with
     |none=>
      rw[ek] at hv
      obtain rfl:v=.non:=hv
      have hat:aaY false lo hi l=some i:=ag0 c3 (hsc.trans (by rw[edr];exact agE em ek))
      exact⟨_,rfl,rfl,_,rfl,ifT rfl ⟨_,rfl,(by show 1<=sizeLine;decide),fun e he=>⟨e,_,rfl,aaA,ZZ.xs_NoField,fun dx H' n1 n2 eH=>⟨rfl,dx,(by rw[eH];exact aaA),(by rw[eH];exact hE i hat dx _ (abE sA he n1 n2).1 (abE sA he n1 n2).2)⟩⟩⟩⟩
     |some k=>
      rw[ek] at hv
      obtain⟨x,rfl,hx⟩:=hv
      refine⟨_,rfl,rfl,_,rfl,ifF rfl ⟨_,rfl,mk,_,rfl,.inl (SqL.of (s24 _ _ h2m)),rfl,_,rfl,?_⟩⟩
      refine ifI (fun c=>?_) (fun c=>?_)
      ·rw[List.length_map] at c
       have hat:aaY false lo hi l=some i:=ag0 c3 (hsc.trans (by rw[edr];exact agU em ek (by omega)))
       exact⟨_,rfl,(by show 1<=sizeLine;decide),fun e he=>⟨e,_,rfl,aaA,ZZ.xs_NoField,fun dx H' n1 n2 eH=>⟨rfl,dx,(by rw[eH];exact aaA),(by rw[eH];exact hE i hat dx _ (abE sA he n1 n2).1 (abE sA he n1 n2).2)⟩⟩⟩
      rw[List.length_map] at c
      refine⟨_,rfl,.inl ⟨rfl,_,SqL.of (s24 _ _ h2m)⟩,_,rfl,mk,_,_,rfl,rfl,s24 _ _ h2m,(by rw[List.length_map,sizeLine_eq];omega),?_⟩
      exact⟨_,_,_,_,M,qs++[x],rfl,abL hmk (s2.trans s24),by rw[aaD hne];exact s24 _ _ h2c,by rw[List.map_append];exact aaA,by rw[List.length_append,List.length_singleton];omega,by rw[hsc,edr,List.length_append];exact agD em ek (by omega)⟩
    |true=>
     refine⟨_,rfl,rfl,_,rfl,ifT rfl ?_⟩
     refine .inr ⟨_,rfl,rfl,_,rfl,w0,rfl,(by omega),fun v H4 s4 hv=>?_⟩
     have s24:=(aaB hT _).trans (s3.trans s4)
     have sA:Same H H4:=s0.trans (s2.trans s24)
     cases ek:agK w0 with
     |none=>
      rw[ek] at hv
      obtain rfl:v=.non:=hv
      have hat:aaY true lo hi l=some i:=ag0 c3 (hsc.trans (by rw[edr];exact agE em ek))
      exact⟨_,rfl,rfl,_,rfl,ifT rfl ⟨_,rfl,(by show 1<=sizeLine;decide),fun e he=>⟨e,_,rfl,aaA,ZZ.xs_NoField,fun dx H' n1 n2 eH=>⟨rfl,dx,(by rw[eH];exact aaA),(by rw[eH];exact hE i hat dx _ (abE sA he n1 n2).1 (abE sA he n1 n2).2)⟩⟩⟩⟩
     |some k=>
      rw[ek] at hv
      obtain⟨x,rfl,hx⟩:=hv
      refine⟨_,rfl,rfl,_,rfl,ifF rfl ⟨_,rfl,mk,_,rfl,.inl (SqL.of (s24 _ _ h2m)),rfl,_,rfl,?_⟩⟩
      refine ifI (fun c=>?_) (fun c=>?_)
      ·rw[List.length_map] at c
       have hat:aaY true lo hi l=some i:=ag0 c3 (hsc.trans (by rw[edr];exact agU em ek (by omega)))
       exact⟨_,rfl,(by show 1<=sizeLine;decide),fun e he=>⟨e,_,rfl,aaA,ZZ.xs_NoField,fun dx H' n1 n2 eH=>⟨rfl,dx,(by rw[eH];exact aaA),(by rw[eH];exact hE i hat dx _ (abE sA he n1 n2).1 (abE sA he n1 n2).2)⟩⟩⟩
      rw[List.length_map] at c
      refine⟨_,rfl,.inl ⟨rfl,_,SqL.of (s24 _ _ h2m)⟩,_,rfl,mk,_,_,rfl,rfl,s24 _ _ h2m,(by rw[List.length_map,sizeLine_eq];omega),?_⟩
      exact⟨_,_,_,_,M,qs++[x],rfl,abL hmk (s2.trans s24),by rw[aaD hne];exact s24 _ _ h2c,by rw[List.map_append];exact aaA,by rw[List.length_append,List.length_singleton];omega,by rw[hsc,edr,List.length_append];exact agD em ek (by omega)⟩
 case done=>
  rintro σ H2 ⟨u1,u2,u3,u4,M,qs,rfl,s2,h2c,h2m,hq,hsc⟩
  have sA:Same H H2:=s0.trans s2
  refine⟨_,rfl,ps,_,rfl,.inl (SqL.of (s2 _ _ aaA)),_,_,rfl,rfl,_,rfl,?_⟩
  have eL:((spl 44 l).map fun q=>V.str (Tx q)).length=(spl 44 l).length:=List.length_map _
  rw[eL]
  have hn:abJ wk lo hi ((spl 44 l).take 40) 0 0=none:=hsc.trans (by rw[List.length_map,List.drop_length];rfl)
  by_cases c4:40<(spl 44 l).length
  ·rw[decide_eq_true (show (40:Int)<(((spl 44 l).length:Nat):Int) by omega)]
   have hat:aaY wk lo hi l=some 40:=arG c3 hn c4
   exact aa3 ⟨(by show 1<=sizeLine;decide),fun e he=>⟨e,_,rfl,aaA,ZZ.xs_NoField,fun dx H' n1 n2 eH=>⟨rfl,dx,(by rw[eH];exact aaA),(by rw[eH];exact hE 40 hat dx _ (abE sA he n1 n2).1 (abE sA he n1 n2).2)⟩⟩⟩
  ·rw[decide_eq_false (show ¬(40:Int)<(((spl 44 l).length:Nat):Int) by omega)]
   refine aaO ⟨_,rfl,_,rfl,(by show 2<=sizeLine;decide),fun p hp=>?_⟩
   have s3:=aaB hp (.tup [.int M,.ref mk])
   exact hQ (anV c3 hn c4) p mk M qs _ (sA.trans s3) aaA (s3 _ _ h2m) hq
theorem agV:Df1 P w K mg base "read_days" 8 ["text"] (agI K C_Numbers C_Last C_Near C_LastWork C_Weekdays C_Nth C_LastOne C_Mark C_NoField):=by
 refine ZZ.F_read_days.dfs1 sc_read_days (fun vs H Q E h=>?_) (fun f cdv A outer s H vs Q E hr h=>?_)
 ·obtain⟨v,rfl,hv⟩:=h
  rfl
 obtain⟨v,rfl,hv⟩:=h
 refine⟨_,(ssC (aaM 1 (eD1 (acO ZZ) hr am9 (aC (v_ 0) (aC eI (aC (eGl (v:=.int 31) ZZ.m_MOST_DAY ⟨_,rfl⟩) (aC (eGl (v:=.ref C_read_day_mark) ZZ.m_read_day_mark rfl) aN))))) sc_read_days.nd)
   (ssC (sIf (tCm oEq (v_ 0) (eSx [42])) (ss1 (aaI eN)) ssN)
   (ssC (sIf (tCm oEq (eIx xT (v_ 1) eI) eI) (ss1 (aaI (eIx xT (v_ 1) eI))) ssN)
   (ss1 (aaI (eOp agY (aa0 (aC (eMk ZZ.c_Numbers (acK ZZ) hr (aC (eIx xT (v_ 1) eI) aN)) aN)) (eIx xT (v_ 1) eI))))))),?_⟩
 rcases hv with ⟨kd,hk,ns,hE⟩ | ⟨l,rfl,hl,hE,hQ⟩
 ·exact⟨_,rfl,v,1,31,false,rfl,⟨by decide,by decide,by decide⟩,.inl ⟨kd,hk,ns,hE⟩⟩
 refine⟨_,rfl,_,1,31,false,rfl,⟨by decide,by decide,by decide⟩,.inr ⟨l,rfl,hl,hE,fun hb p m M qs H1 s1 hp hm lq=>?_⟩⟩
 obtain⟨q1,q2⟩:=hQ hb
 refine⟨_,rfl,rfl,_,rfl,ifX (fun c=>q1 c _ s1) (fun c=>?_)⟩
 have q2:=q2 c
 refine⟨_,rfl,p,_,_,_,rfl,rfl,SqT.of hp,rfl,rfl,_,rfl,ifI (fun c0=>⟨_,rfl,p,_,_,_,rfl,rfl,SqT.of hp,rfl,q2 m _ _ s1 hm⟩) (fun c0=>?_)⟩
 refine⟨_,rfl,p,_,_,_,rfl,rfl,SqT.of hp,rfl,fun xo dx nx ndx nex=>⟨xo,dx,_,rfl,aaA,rfl,(by show 1<=sizeLine;decide),fun l1 hl1=>?_⟩⟩
 have n1:Same H1 (upd (upd (upd H1 dx (.own xo)) xo (.ins C_Numbers dx [])) xo (.ins C_Numbers dx [("mask",.int M)])):=abA nx ndx
 have n2:=n1.trans (aaB hl1 (.lst [.ref xo]))
 refine⟨_,rfl,p,_,_,_,rfl,rfl,SqT.of (n2 _ _ hp),rfl,l1,m,_,_,rfl,rfl,aaA,n2 _ _ hm,(by rw[List.length_map,sizeLine_eq];show 1+_<=_;omega),fun l2 hl2=>?_⟩
 exact q2 l2 _ _ (s1.trans (n2.trans (aaB hl2 _))) aaA
theorem adQ:Df1 P w K mg base "read_weekdays" 8 ["text"] (adJ K C_Numbers C_Last C_Near C_LastWork C_Weekdays C_Nth C_LastOne C_Mark C_NoField):=by
 refine ZZ.F_read_weekdays.dfs1 sc_read_weekdays (fun vs H Q E h=>?_) (fun f cdv A outer s H vs Q E hr h=>?_)
 ·obtain⟨v,rfl,hv⟩:=h
  rfl
 obtain⟨v,rfl,hv⟩:=h
 refine⟨_,(ssC (aaM 1 (eD1 (acO ZZ) hr am9 (aC (v_ 0) (aC eI (aC (eGl (v:=.int 7) ZZ.m_SUNDAY_TOO ⟨_,rfl⟩) (aC (eGl (v:=.ref C_read_weekday_mark) ZZ.m_read_weekday_mark rfl) aN))))) sc_read_weekdays.nd)
   (ssC (sIf (tCm oEq (v_ 0) (eSx [42])) (ss1 (aaI eN)) ssN)
   (ssC (sIf (tCm oEq (eIx xT (v_ 1) eI) eI) (ss1 (aaI (eIx xT (v_ 1) eI))) ssN)
   (ssC (aaM 2 (eOp oAnd (eOp oOr (eIx xT (v_ 1) eI) (eOp oShr (eIx xT (v_ 1) eI) (eGl (v:=.int 7) ZZ.m_SUNDAY_TOO ⟨_,rfl⟩))) (eGl (v:=.int 127) ZZ.m_ALL_WEEKDAYS ⟨_,rfl⟩)) sc_read_weekdays.nd)
   (ss1 (aaI (eOp agY (aa0 (aC (eMk ZZ.c_Weekdays (ab4 ZZ) hr (aC (v_ 2) aN)) aN)) (eIx xT (v_ 1) eI)))))))),?_⟩
 rcases hv with ⟨kd,hk,ns,hE⟩ | ⟨l,rfl,hl,hE,hQ⟩
 ·exact⟨_,rfl,v,0,7,true,rfl,⟨by decide,by decide,by decide⟩,.inl ⟨kd,hk,ns,hE⟩⟩
 refine⟨_,rfl,_,0,7,true,rfl,⟨by decide,by decide,by decide⟩,.inr ⟨l,rfl,hl,hE,fun hb p m M qs H1 s1 hp hm lq=>?_⟩⟩
 obtain⟨q1,q2⟩:=hQ hb
 refine⟨_,rfl,rfl,_,rfl,ifX (fun c=>q1 c _ s1) (fun c=>?_)⟩
 have q2:=q2 c
 refine⟨_,rfl,p,_,_,_,rfl,rfl,SqT.of hp,rfl,rfl,_,rfl,ifI (fun c0=>⟨_,rfl,p,_,_,_,rfl,rfl,SqT.of hp,rfl,q2 m _ _ s1 hm⟩) (fun c0=>?_)⟩
 refine⟨_,rfl,p,_,_,_,rfl,rfl,SqT.of hp,rfl,_,rfl,p,_,_,_,rfl,rfl,SqT.of hp,rfl,_,_,rfl,rfl,(by show (0:Int)<=7;decide),_,_,rfl,rfl,_,_,rfl,rfl,?_⟩
 refine⟨_,rfl,fun xo dx nx ndx nex=>⟨xo,dx,_,rfl,aaA,rfl,(by show 1<=sizeLine;decide),fun l1 hl1=>?_⟩⟩
 have n1:Same H1 (upd (upd (upd H1 dx (.own xo)) xo (.ins C_Weekdays dx [])) xo (.ins C_Weekdays dx [("mask",.int (wk7 M))])):=abA nx ndx
 have n2:=n1.trans (aaB hl1 (.lst [.ref xo]))
 refine⟨_,rfl,p,_,_,_,rfl,rfl,SqT.of (n2 _ _ hp),rfl,l1,m,_,_,rfl,rfl,aaA,n2 _ _ hm,(by rw[List.length_map,sizeLine_eq];show 1+_<=_;omega),fun l2 hl2=>?_⟩
 exact q2 l2 _ _ (s1.trans (n2.trans (aaB hl2 _))) aaA
theorem aaZ:Df P w K mg base "_law_cell_at" 1 ["_law_script","_law_k"] (ad5 K):=by
 refine ZZ.F__law_cell_at.dfs aeD (fun vs H Q E h=>?_) (fun f cdv A outer s H vs Q E hr h=>?_)
 ·obtain⟨a,k,rfl,⟨ns,hS⟩,⟨h0,h9⟩,q⟩:=h
  rfl
 obtain⟨a,k,rfl,⟨ns,hS⟩,⟨h0,h9⟩,q⟩:=h
 refine⟨_,(ssC (sIf (tCm oLt (v_ 1) (eCB ahQ ZZ.z_len PySem.boot_len (aC (v_ 0) aN))) (ss1 (aaI (eIx xL (v_ 0) (v_ 1)))) ssN)
   (ss1 (aaI (eOp ab0 (eOp akN (eOp asP (eOp aeE (v_ 1) eI) eI) eI) eI)))),?_⟩
 refine⟨_,rfl,_,rfl,a,_,rfl,.inl hS,_,_,rfl,rfl,_,rfl,?_⟩
 refine ifD (fun c=>?_) (fun c=>?_)
 ·rw[List.length_map] at c
  have hk:k.toNat<ns.length:=by omega
  have ek:k=((k.toNat:Nat):Int):=by omega
  have e:atI (ns.map V.int) k=some (.int ns[k.toNat]):=by
   have z:atI (ns.map V.int) ((k.toNat:Nat):Int)=some (.int ns[k.toNat]):=aeP (by rw[List.getElem?_map,List.getElem?_eq_getElem hk];rfl)
   rw[←ek] at z
   exact z
  refine⟨_,rfl,_,rfl,a,_,_,_,rfl,rfl,hS,e,?_⟩
  exact q _
 ·refine⟨_,rfl,_,_,rfl,rfl,_,_,rfl,rfl,⟨by decide,by decide,(by show (k+2).natAbs<2^64;omega)⟩,_,_,rfl,rfl,.inr ⟨by decide,by decide⟩,_,_,rfl,rfl,(by show (0:Int)<15485863;decide),?_⟩
  exact q _
theorem agL:Df P w K mg base "_law_stir" 1 ["_law_number"] (agP K):=by
 refine ZZ.F__law_stir.dfs sc__law_stir (fun vs H Q E h=>?_) (fun f cdv A outer s H vs Q E hr h=>?_)
 ·obtain⟨n,rfl,q⟩:=h
  rfl
 obtain⟨n,rfl,q⟩:=h
 refine⟨_,(ssC (aaM 1 (eOp ab0 (eOp akN (eOp aeE (eOp ab0 (v_ 0) (eOp asP eI eI)) eI) eI) eI) sc__law_stir.nd)
   (ssC (aaM 2 (eOp ab0 (eOp akN (v_ 1) (eOp aeE (eOp ab0 (v_ 1) eI) eI)) eI) sc__law_stir.nd)
   (ss1 (aaI (eOp ab0 (eOp akN (v_ 2) (eOp aeE (eOp ab0 (v_ 2) eI) eI)) eI))))),?_⟩
 refine⟨_,rfl,_,_,rfl,rfl,⟨by decide,by decide,by decide⟩,_,_,rfl,rfl,(by rw[au8];show (0:Int)<_;decide),_,_,rfl,rfl,_,_,rfl,rfl,.inr ⟨by decide,by decide⟩,_,_,rfl,rfl,(by show (0:Int)<4294967291;decide),?_⟩
 refine⟨_,rfl,_,rfl,_,_,rfl,rfl,(by show (0:Int)<65521;decide),_,_,rfl,rfl,_,_,rfl,rfl,at3 (by decide) (by decide),_,_,rfl,rfl,(by show (0:Int)<999999937;decide),?_⟩
 refine⟨_,rfl,_,rfl,_,_,rfl,rfl,(by show (0:Int)<32749;decide),_,_,rfl,rfl,_,_,rfl,rfl,at3 (by decide) (by decide),_,_,rfl,rfl,(by show (0:Int)<2147483629;decide),?_⟩
 exact q _ (Int.emod_nonneg _ (by decide)) (Int.emod_lt_of_pos _ (by decide))
theorem abV:Df P w K mg base "_law_digits" 2 ["_law_cell","_law_sizes","_law_mixed"] (afD K):=by
 refine ZZ.F__law_digits.dfs sc__law_digits (fun vs H Q E h=>?_) (fun f cdv A outer s H vs Q E hr h=>?_)
 ·obtain⟨c,a,b,ss,rfl,hS,hz,hl,q⟩:=h
  rfl
 obtain⟨c,a,b,ss,rfl,hS,hz,hl,q⟩:=h
 refine⟨_,(ssC (aaM 3 (aa0 aN) sc__law_digits.nd)
   (ssC (aaM 2 (eOr (v_ 2) (ahN (acX oLt (eCB cAbs ZZ.z_abs PyProof.Rows.boot_abs (aC (v_ 0) aN)) (eOp asP eI eI)))) sc__law_digits.nd)
   (ssC (aiE (iL (v_ 1)) (gN 4 sc__law_digits.nd) (ss1 (sIf (tVa (v_ 2)) (ssC (aaM 0 (eD (agL ZZ) hr (aC (v_ 0) aN)) sc__law_digits.nd)
   (ss1 (alZ (am3 (v_ 3) (eOp ab0 (eOp alW (v_ 0) eI) (v_ 4)))))) (ssC (alZ (am3 (v_ 3) (eOp ab0 (v_ 0) (v_ 4))))
   (ss1 (aaM 0 (eOp alW (v_ 0) (v_ 4)) sc__law_digits.nd))))) PassesOwn.never)
   (ss1 (aaI (v_ 3)))))),?_⟩
 refine⟨(by show 0<=sizeLine;decide),fun fl hfl=>?_⟩
 refine⟨_,rfl,_,rfl,as8 (fun _=>?_) (fun _=>⟨_,rfl,_,rfl,_,_,rfl,rfl,⟨by decide,by decide,by decide⟩,_,_,rfl,rfl,?_⟩)⟩
 all_goals
  refine⟨_,rfl,a,rfl,⟨_,(aaB hfl _).seq hS⟩,ahF (K:=K) (a:=a) (xs:=ss.map V.int) (fun i σ H2=>∃(c':Int) (b':Bool) (u:Option V) (ds:List Int),σ=[some (.int c'),some (.ref a),some (.bl b'),some (.ref fl),u]/\Same H H2/\H2 fl=some (.lst (ds.map V.int))/\Digs ds (ss.take i)) ⟨_,_,_,[],rfl,aaB hfl _,aaA,.nil⟩ (fun i σ H2 _ ⟨_,_,_,_,_,s2,_⟩=>s2.seq hS) ?_ ?_⟩
  ·rintro i x σ H2 hx ⟨c',b',u,ds,rfl,s2,hf,hd⟩
   rw[List.getElem?_map] at hx
   cases e:ss[i]? with
   |none=>rw[e] at hx;cases hx
   |some z=>
    rw[e] at hx
    obtain rfl:V.int z=x:=Option.some.inj hx
    have hzz:=hz z (List.mem_of_getElem? e)
    have et:ss.take (i+1)=ss.take i++[z]:=by rw[List.take_succ,e];rfl
    have hdl:(ds.map V.int).length<sizeLine:=by
     have q1:=hd.len
     rw[List.length_take] at q1
     rw[List.length_map,sizeLine_eq]
     omega
    have app:∀d:Int,(ds.map V.int)++[V.int d]=(ds++[d]).map V.int:=fun d=>by rw[List.map_append];rfl
    refine⟨_,rfl,_,rfl,?_⟩
    cases b' with
    |true=>
     refine aa3 ⟨_,rfl,_,rfl,fun r hr0 hr1=>?_⟩
     refine⟨_,rfl,.inl ⟨rfl,_,SqL.of hf⟩,_,rfl,_,_,rfl,rfl,⟨by decide,by decide⟩,_,rfl,_,_,rfl,rfl,hzz.1,fl,_,_,rfl,rfl,hf,hdl,?_⟩
     refine⟨_,_,_,ds++[r / 8%z],rfl,abL hfl s2,by rw[app];exact aaA,?_⟩
     rw[et]
     exact hd.snoc (Int.emod_nonneg _ (Int.ne_of_gt hzz.1)) (Int.emod_lt_of_pos _ hzz.1)
    |false=>
     refine aaO ⟨_,rfl,.inl ⟨rfl,_,SqL.of hf⟩,_,rfl,_,rfl,_,_,rfl,rfl,hzz.1,fl,_,_,rfl,rfl,hf,hdl,?_⟩
     refine⟨_,rfl,_,rfl,_,_,rfl,rfl,hzz,?_⟩
     refine⟨_,_,_,ds++[c'%z],rfl,abL hfl s2,by rw[app];exact aaA,?_⟩
     rw[et]
     exact hd.snoc (Int.emod_nonneg _ (Int.ne_of_gt hzz.1)) (Int.emod_lt_of_pos _ hzz.1)
  ·rintro σ H2 ⟨c',b',u,ds,rfl,s2,hf,hd⟩
   rw[List.length_map,List.take_length] at hd
   exact⟨_,rfl,q ds fl H2 s2 hf hd⟩
theorem aeV:DfQ P w K mg base "_law_whole" 1 ["_law_found"] (afQ K):=by
 refine ZZ.F__law_whole.dfsQ afG (fun vs H Q E h=>?_) (fun f cdv A outer s H vs Q hr h=>?_)
 ·obtain⟨v,k,rfl,hk,q⟩:=h
  rfl
 obtain⟨v,k,rfl,hk,q⟩:=h
 refine⟨_,(ss1 (aaI (ak8 (eCB cIs ZZ.z_isinstance PyProof.Rows.boot_isinstance (aC (v_ 0) (aC (eTy ZZ.z_int PyProof.Rows.boot_int) aN))) (ahN (eNot (eCB cIs ZZ.z_isinstance PyProof.Rows.boot_isinstance (aC (v_ 0) (aC (eTy ZZ.z_bool PyProof.Rows.boot_bool) aN)))))))),?_⟩
 refine⟨_,rfl,v,.int,k,rfl,(by decide),hk,_,rfl,?_⟩
 cases k with
 |int=>exact aa3 ⟨_,rfl,v,.bool,.int,rfl,(by decide),hk,_,rfl,q⟩
 |bool=>exact aa3 ⟨_,rfl,v,.bool,.bool,rfl,(by decide),hk,_,rfl,q⟩
 |str=>exact aaO q
 |non=>exact aaO q
 |list=>exact aaO q
 |tuple=>exact aaO q
 |dict=>exact aaO q
theorem acP:Df P w K mg base "_law_right" 1 ["_law_turn","_law_week","_law_mark"] (afP K):=by
 refine ZZ.F__law_right.dfs afH (fun vs H Q E h=>?_) (fun f cdv A outer s H vs Q E hr h=>?_)
 ·obtain⟨t,wk,mk,rfl,q⟩:=h
  rfl
 obtain⟨t,wk,mk,rfl,q⟩:=h
 refine⟨_,(ssC (sIf (tW (asV (tVa (v_ 2)) (aj8 (tVa (v_ 1))))) (ss1 (aaI (eIx xL (aa0 (aC (eSx [53,76]) (aC (eSx [48,35,49]) (aC (eSx [55,76]) (aC (eSx [55,35,53]) (aC (eSx [54,76]) (aC (eSx [51,35,51]) aN))))))) (eOp ab0 (v_ 0) eI)))) ssN)
   (ssC (sIf (tVa (v_ 2)) (ss1 (aaI (eIx xL (aa0 (aC (eSx [76]) (aC (eSx [76,87]) (aC (eSx [76,45,51,48]) (aC (eSx [51,49,87]) (aC (eSx [49,87]) (aC (eSx [76,45,49]) aN))))))) (eOp ab0 (v_ 0) eI)))) ssN)
   (ssC (sIf (tVa (v_ 1)) (ss1 (aaI (eIx xL (aa0 (aC (eSx [48]) (aC (eSx [55]) (aC (eSx [49,45,53]) (aC (eSx [42,47,50]) (aC (eSx [53,47,50]) (aC (eSx [42]) (aC (eSx [48,45,55]) aN)))))))) (eOp ab0 (v_ 0) eI)))) ssN)
   (ss1 (aaI (eIx xL (aa0 (aC (eSx [49]) (aC (eSx [51,49]) (aC (eSx [50,45,57]) (aC (eSx [42,47,57]) (aC (eSx [49,47,50]) (aC (eSx [42]) (aC (eSx [51,48,45,51,49]) aN)))))))) (eOp ab0 (v_ 0) eI))))))),?_⟩
 cases mk with
 |true=>
  cases wk with
  |true=>
   refine⟨_,rfl,_,rfl,aa3 ⟨_,rfl,_,rfl,aa3 ?_⟩⟩
   refine⟨(by show 6<=sizeLine;decide),fun l hl=>⟨_,rfl,_,_,rfl,rfl,(by show (0:Int)<6;decide),?_⟩⟩
   obtain⟨v,hv,hm⟩:=adD (xs:=(mks true).map fun w=>V.str (Tx w)) (i:=t%6) (by omega) (by show t%6<6;omega)
   obtain⟨w,hw,rfl⟩:=List.mem_map.mp hm
   exact⟨l,_,_,_,rfl,rfl,SqL.of aaA,hv,q w _ (aaB hl _) (List.all_eq_true.mp (ak4 true) w hw)⟩
  |false=>
   refine⟨_,rfl,_,rfl,aa3 ⟨_,rfl,_,rfl,aaO ⟨_,rfl,_,rfl,aa3 ?_⟩⟩⟩
   refine⟨(by show 6<=sizeLine;decide),fun l hl=>⟨_,rfl,_,_,rfl,rfl,(by show (0:Int)<6;decide),?_⟩⟩
   obtain⟨v,hv,hm⟩:=adD (xs:=(mks false).map fun w=>V.str (Tx w)) (i:=t%6) (by omega) (by show t%6<6;omega)
   obtain⟨w,hw,rfl⟩:=List.mem_map.mp hm
   exact⟨l,_,_,_,rfl,rfl,SqL.of aaA,hv,q w _ (aaB hl _) (List.all_eq_true.mp (ak4 false) w hw)⟩
 |false=>
  cases wk with
  |true=>
   refine⟨_,rfl,_,rfl,aaO ⟨_,rfl,_,rfl,aaO ⟨_,rfl,_,rfl,aa3 ?_⟩⟩⟩
   refine⟨(by show 7<=sizeLine;decide),fun l hl=>⟨_,rfl,_,_,rfl,rfl,(by show (0:Int)<7;decide),?_⟩⟩
   obtain⟨v,hv,hm⟩:=adD (xs:=(pls true).map fun w=>V.str (Tx w)) (i:=t%7) (by omega) (by show t%7<7;omega)
   obtain⟨w,hw,rfl⟩:=List.mem_map.mp hm
   exact⟨l,_,_,_,rfl,rfl,SqL.of aaA,hv,q w _ (aaB hl _) (List.all_eq_true.mp (akQ true) w hw)⟩
  |false=>
   refine⟨_,rfl,_,rfl,aaO ⟨_,rfl,_,rfl,aaO ⟨_,rfl,_,rfl,aaO ?_⟩⟩⟩
   refine⟨(by show 7<=sizeLine;decide),fun l hl=>⟨_,rfl,_,_,rfl,rfl,(by show (0:Int)<7;decide),?_⟩⟩
   obtain⟨v,hv,hm⟩:=adD (xs:=(pls false).map fun w=>V.str (Tx w)) (i:=t%7) (by omega) (by show t%7<7;omega)
   obtain⟨w,hw,rfl⟩:=List.mem_map.mp hm
   exact⟨l,_,_,_,rfl,rfl,SqL.of aaA,hv,q w _ (aaB hl _) (List.all_eq_true.mp (akQ false) w hw)⟩
theorem afJ:Df P w K mg base "_law_wrong" 1 ["_law_turn","_law_week"] (afK K):=by
 refine ZZ.F__law_wrong.dfs sc__law_wrong (fun vs H Q E h=>?_) (fun f cdv A outer s H vs Q E hr h=>?_)
 ·obtain⟨t,wk,rfl,ht,q⟩:=h
  rfl
 obtain⟨t,wk,rfl,ht,q⟩:=h
 refine⟨_,(ssC (aaM 2 (aa0 (aC (eSx []) (aC (eSx [32]) (aC (eSx [42,42]) (aC (eSx [49,45]) (aC (eSx [45,49]) (aC (eSx [53,45,52]) (aC (eSx [49,47,48]) (aC (eSx [49,47,49,48,48]) (aC (eSx [48,49]) (aC (eSx [49,47,48,53]) (aC (eSx [120]) (aC (eSx [49,45,45,50]) (aC (eSx [47,50]) (aC (eSx [49,47,50,47,51]) (aC (eSx [108]) (aC (eSx [108,119]) aN))))))))))))))))) sc__law_wrong.nd)
   (ssC (aaM 2 (eOp agY (v_ 2) (aa0 (aC (eSx [53,46]) (aC (eSx [76,42]) (aC (eSx [76,76]) (aC (eSx [76,47,50]) (aC (eSx [49,32]) (aC (eSx [32,49]) (aC (eSx [42,47]) (aC (eSx [49,45,50,45,51]) (aC (eSx [87]) (aC (eSx [35,49]) (aC (eSx [49,35]) (aC (eSx [43,49]) (aC (eSx [76,45]) (aC (eSx [49,53,119]) (aC (eSx [53,108]) (aC (eSx [49,95,48]) aN)))))))))))))))))) sc__law_wrong.nd)
   (ssC (aaM 3 (aa0 (aC (eSx [48]) (aC (eSx [51,50]) (aC (eSx [48,45,53]) (aC (eSx [51,48,45,51,50]) (aC (eSx [76,45,48]) (aC (eSx [76,45,51,49]) (aC (eSx [76,45,48,49]) (aC (eSx [48,87]) (aC (eSx [51,50,87]) (aC (eSx [48,49,87]) (aC (eSx [53,76]) (aC (eSx [49,35,49]) (aC (eSx [76,45,87]) aN)))))))))))))) sc__law_wrong.nd)
   (ssC (sIf (tVa (v_ 1)) (ss1 (aaM 3 (aa0 (aC (eSx [56]) (aC (eSx [48,45,56]) (aC (eSx [56,76]) (aC (eSx [53,35,48]) (aC (eSx [53,35,54]) (aC (eSx [56,35,49]) (aC (eSx [76]) (aC (eSx [76,87]) (aC (eSx [49,87]) (aC (eSx [48,53,76]) (aC (eSx [53,35,48,49]) (aC (eSx [49,76,47,50]) (aC (eSx [54,45,48]) aN)))))))))))))) sc__law_wrong.nd)) ssN)
   (ss1 (aaI (eIx xL (eOp agY (v_ 2) (v_ 3)) (v_ 0)))))))),?_⟩
 obtain⟨v,hv,hm⟩:=adD (xs:=(wrs wk).map fun w=>V.str (Tx w)) (i:=t) (by omega) (by cases wk<;>exact ht.2)
 obtain⟨w,hw,rfl⟩:=List.mem_map.mp hm
 have ck:=List.all_eq_true.mp (aoW wk) w hw
 refine⟨(by show 16<=sizeLine;decide),fun p0 h0=>⟨_,rfl,(by show 16<=sizeLine;decide),fun p1 h1=>⟨p0,p1,_,_,rfl,rfl,(aaB h1 _) _ _ aaA,aaA,(by show 16+16<=sizeLine;decide),fun p2 h2=>⟨(by show 13<=sizeLine;decide),fun p3 h3=>?_⟩⟩⟩⟩
 cases wk with
 |true=>exact⟨_,rfl,_,rfl,aa3 ⟨(by show 13<=sizeLine;decide),fun p4 h4=>⟨_,rfl,_,rfl,p2,p4,_,_,rfl,rfl,(aaB h4 _) _ _ ((aaB h3 _) _ _ aaA),aaA,(by show 32+13<=sizeLine;decide),fun p5 h5=>⟨_,rfl,p5,_,_,_,rfl,rfl,SqL.of aaA,hv,q w _ ((aaB h0 _).trans ((aaB h1 _).trans ((aaB h2 _).trans ((aaB h3 _).trans ((aaB h4 _).trans (aaB h5 _)))))) ck⟩⟩⟩⟩
 |false=>exact⟨_,rfl,_,rfl,aaO ⟨_,rfl,_,rfl,p2,p3,_,_,rfl,rfl,(aaB h3 _) _ _ aaA,aaA,(by show 32+13<=sizeLine;decide),fun p5 h5=>⟨_,rfl,p5,_,_,_,rfl,rfl,SqL.of aaA,hv,q w _ ((aaB h0 _).trans ((aaB h1 _).trans ((aaB h2 _).trans ((aaB h3 _).trans (aaB h5 _))))) ck⟩⟩⟩
theorem ad4:Df P w K mg base "_law_is_mark" 1 ["_law_text"] (aeL K):=by
 refine ZZ.F__law_is_mark.dfs ad9 (fun vs H Q E h=>?_) (fun f cdv A outer s H vs Q E hr h=>?_)
 ·obtain⟨w,rfl,q⟩:=h
  rfl
 obtain⟨w,rfl,q⟩:=h
 refine⟨_,(ss1 (aaI (eOr (acX am1 (eSx [76]) (v_ 0)) (eOr (acX am1 (eSx [87]) (v_ 0)) (ahN (acX am1 (eSx [35]) (v_ 0))))))),?_⟩
 refine⟨_,rfl,76,w,rfl,rfl,_,rfl,ifD (fun c=>?_) (fun c=>⟨_,rfl,87,w,rfl,rfl,_,rfl,ifD (fun d=>?_) (fun d=>⟨_,rfl,35,w,rfl,rfl,?_⟩)⟩)⟩
 ·have e:ad7 w=true:=by unfold ad7;rw[decide_eq_true c];rfl
  rw[e] at q
  exact q
 ·have e:ad7 w=true:=by unfold ad7;rw[decide_eq_false c,decide_eq_true d];rfl
  rw[e] at q
  exact q
 ·have e:ad7 w=decide (35∈w):=by unfold ad7;rw[decide_eq_false c,decide_eq_false d];rfl
  rw[e] at q
  exact q
theorem afM:Df P w K mg base "_law_items" 3 ["_law_cell","_law_turns","_law_week","_law_mixed"] (afI K):=by
 refine ZZ.F__law_items.dfs sc__law_items (fun vs H Q E h=>?_) (fun f cdv A outer s H vs Q E hr h=>?_)
 ·obtain⟨c,t,wk,bm,rfl,q⟩:=h
  rfl
 obtain⟨c,t,wk,bm,rfl,q⟩:=h
 refine⟨_,(ssC (aaM 4 (eD (abV ZZ) hr (aC (v_ 0) (aC (aa0 (avP [4,6,5,3,3,42,42,45,45,9])) (aC (v_ 3) aN)))) sc__law_items.nd)
   (ssC (aaM 5 (eIx xL (aa0 (aC (eOp aeE eI (eIx xL (v_ 4) eI)) (aC (eOp aeE eI (eIx xL (v_ 4) eI)) aN))) (eOp ab0 (eIx xL (v_ 4) eI) eI)) sc__law_items.nd)
   (ssC (aaM 6 (eIx xL (aa0 (aC eI (aC eI (aC eI aN)))) (eIx xL (v_ 4) eI)) sc__law_items.nd)
   (ssC (aaM 7 (aa0 aN) sc__law_items.nd)
   (ssC (aiE (iE ZZ.z_enumerate (eD (abV ZZ) hr (aC (v_ 1) (aC (eOp ahD (aa0 (aC eI aN)) (v_ 5)) (aC (v_ 3) aN))))) (gTu (gsC (gN 8 sc__law_items.nd) (gsC (gN 9 sc__law_items.nd) gsN))) (ss1 (alZ (am3 (v_ 7) (aeW (aC (eD (acP ZZ) hr (aC (v_ 9) (aC (v_ 2) (aC (ak8 (acX oLt (v_ 8) eI) (ahN (acX oLt (eOp alW (v_ 9) eI) (v_ 6)))) aN)))) (aC eB aN)))))) PassesOwn.never)
   (ssC (aiE (iR1 ZZ.z_range (aC (eIx xL (v_ 4) eI) aN)) (gN 8 sc__law_items.nd) (ss1 (awV (aeW (aC (eD (afJ ZZ) hr (aC (eIx xL (v_ 4) (eOp aeE eI (v_ 8))) (aC (v_ 2) aN))) (aC eB aN))) (gSb (v_ 7) (eOp ab0 (eIx xL (v_ 4) (eOp aeE eI (v_ 8))) (v_ 5))))) PassesOwn.never)
   (ssC (sIf (tCm oEq (eIx xL (v_ 4) eI) eI) (ss1 (aaM 7 (eOp agY (v_ 7) (eOp ahD (aa0 (aC (aeW (aC (eSx [49,45,50]) (aC eB aN))) aN)) eI)) sc__law_items.nd)) ssN)
   (ssC (sIf (tCm oEq (eIx xL (v_ 4) eI) eI) (ss1 (aaM 7 (eOp agY (v_ 7) (eOp ahD (aa0 (aC (aeW (aC (eSx [49]) (aC eB aN))) (aC (aeW (aC (eD (acP ZZ) hr (aC eI (aC (v_ 2) (aC eB aN)))) (aC eB aN))) aN))) eI)) sc__law_items.nd)) ssN)
   (ss1 (aaI (v_ 7))))))))))),?_⟩
 have e10:∀z∈([4,6,5,3,3,42,42,45,45,9]:List Int),0<z/\z<1073741824:=by decide
 refine⟨_,rfl,(by show 10<=sizeLine;decide),fun ls hls=>⟨_,rfl,c,ls,bm,[4,6,5,3,3,42,42,45,45,9],rfl,SqL.of aaA,e10,(by decide),fun ds p H1 s1 hp hd=>?_⟩⟩
 obtain⟨d0,d1,d2,d3,d4,d5,d6,d7,d8,d9,rfl,b0,b1,b2,b3,b4,b7,b8⟩:=ten hd
 have t1:Same H H1:=(aaB hls _).trans s1
 obtain⟨n,hn,n1,n42⟩:=amR (d0:=d0) b1 b2
 obtain⟨sh,hsh⟩:=akZ b3
 refine⟨_,rfl,p,_,_,_,rfl,rfl,SqL.of (hp),rfl,_,_,rfl,rfl,_,rfl,p,_,_,_,rfl,rfl,SqL.of (hp),rfl,_,_,rfl,rfl,(by show 2<=sizeLine;decide),fun l2 hl2=>⟨_,rfl,p,_,_,_,rfl,rfl,SqL.of ((aaB hl2 _) _ _ hp),rfl,_,_,rfl,rfl,(by show (0:Int)<2;decide),l2,_,_,_,rfl,rfl,SqL.of aaA,hn,?_⟩⟩
 refine⟨(by show 3<=sizeLine;decide),fun l3 hl3=>⟨_,rfl,p,_,_,_,rfl,rfl,SqL.of ((aaB hl3 _) _ _ ((aaB hl2 _) _ _ hp)),rfl,l3,_,_,_,rfl,rfl,SqL.of aaA,hsh,?_⟩⟩
 have t3:Same H1 _:=(aaB hl2 (.lst [V.int (1+d1),V.int (38+d2)])).trans (aaB hl3 (.lst [V.int 0,V.int 26,V.int 3]))
 obtain⟨H3,eH3⟩:∃H3,H3=upd (upd H1 l2 (.lst [V.int (1+d1),V.int (38+d2)])) l3 (.lst [V.int 0,V.int 26,V.int 3]):=⟨_,rfl⟩
 rw[←eH3] at t3 ⊢
 refine⟨(by show 0<=sizeLine;decide),fun L hL=>?_⟩
 have tL:=aaB hL (.lst [])
 refine⟨_,rfl,(by show 1<=sizeLine;decide),fun q1 v1=>⟨_,rfl,q1,n,_,rfl,rfl,aaA,(by omega),(by omega),(by rw[sizeLine_eq];show 1*((n:Int)).toNat<=_;omega),fun q2 v2=>?_⟩⟩
 have er:(List.replicate ((n:Int)).toNat [V.int 210]).flatten=(List.replicate n (210:Int)).map V.int:=by rw[rep1,List.map_replicate];rfl
 rw[er]
 refine⟨_,rfl,t,q2,bm,List.replicate n 210,rfl,SqL.of aaA,(fun z hz=>by rw[List.eq_of_mem_replicate hz];decide),(by rw[List.length_replicate];omega),fun ds2 p2 H4 s4 hp2 hd2=>?_⟩
 have ln2:ds2.length=n:=by rw[hd2.len,List.length_replicate]
 have tq:Same (upd H3 L (.lst [])) H4:=(aaB v1 _).trans ((aaB v2 _).trans s4)
 have hne:p2≠L:=fun e=>by
  have z:=tq L _ aaA
  rw[←e,hp2] at z
  cases ds2 with
  |nil=>have:(0:Nat)=n:=ln2;omega
  |cons x r=>cases z
 refine⟨p2,rfl,⟨_,SqL.of hp2⟩,ahP (K:=K) (a:=p2) (xs:=ds2.map V.int) (fun i σ H5=>∃(u8 u9:Option V) (us:List Addr) (its:List It2),σ=[some (.int c),some (.int t),some (.bl wk),some (.bl bm),some (.ref p),some (.int n),some (.int sh),some (.ref L),u8,u9]/\Same H3 H5/\H5 L=some (.lst (us.map V.ref))/\H5 p2=some (.lst (ds2.map V.int))/\Its H5 us its/\(∀x∈its,abD wk x=true)/\its.length=i) ⟨_,_,[],[],rfl,tL.trans tq,tq _ _ aaA,hp2,.nil,(fun x h=>nomatch h),rfl⟩ (fun i σ H5 _ ⟨_,_,_,_,_,_,_,h,_⟩=>SqL.of h) ?turn ?done⟩
 case turn=>
  rintro i x σ H5 T hx ⟨u8,u9,us,its,rfl,s3,h3,h3p,hF,hc,li⟩ hT
  rw[List.getElem?_map] at hx
  cases ex:ds2[i]? with
  |none=>rw[ex] at hx;cases hx
  |some tn=>
   rw[ex] at hx
   obtain rfl:V.int tn=x:=Option.some.inj hx
   have hi:i<n:=by rw[←ln2];exact (List.getElem?_eq_some_iff.mp ex).1
   have lu:us.length=its.length:=Paired.length hF
   refine⟨T,_,rfl,SqT.of aaA,rfl,_,_,rfl,_,_,rfl,rfl,?_⟩
   refine⟨_,rfl,.inl ⟨rfl,_,SqL.of ((aaB hT _) _ _ h3)⟩,_,rfl,_,rfl,_,rfl,_,_,rfl,rfl,_,rfl,ifD (fun c1=>⟨_,rfl,_,_,rfl,rfl,⟨by decide,by decide⟩,_,rfl,_,_,rfl,rfl,tn,wk,_,rfl,fun w H4 s4 ck=>⟨(by show 2<=sizeLine;decide),fun tp htp=>?_⟩⟩) (fun c1=>⟨tn,wk,_,rfl,fun w H4 s4 ck=>⟨(by show 2<=sizeLine;decide),fun tp htp=>?_⟩⟩)⟩
   all_goals
    have sT:=(aaB hT _).trans (s4.trans (aaB htp (.tup [.str (Tx w),.bl true])))
    have kp:=ag6 (l':=us.map V.ref++[.ref tp]) (sT _ _ h3)
    exact⟨L,_,_,rfl,rfl,sT _ _ h3,(by rw[List.length_map,sizeLine_eq];omega),_,_,us++[tp],its++[(w,true)],rfl,abL hL (s3.trans sT),(by rw[List.map_append];exact aaA),(by rw[aaD hne];exact sT _ _ h3p),(hF.keep (sT.keep.trans kp)).app (.cons (kp.tup aaA) .nil),agM hc (fun y hy=>by rw[List.mem_singleton.mp hy];exact ck),(by rw[List.length_append,List.length_singleton,li])⟩
 case done=>
  rintro σ H5 ⟨u8,u9,us,its,rfl,s3,h3,_,hF,hc,li⟩
  rw[List.length_map,ln2] at li
  have t15:Same H1 H5:=t3.trans s3
  refine⟨_,rfl,p,_,_,_,rfl,rfl,SqL.of (t15 _ _ hp),rfl,_,rfl,?lo,?hi,afV (fun i σ H6=>∃(u8 u9:Option V) (us:List Addr) (its:List It2),σ=[some (.int c),some (.int t),some (.bl wk),some (.bl bm),some (.ref p),some (.int n),some (.int sh),some (.ref L),u8,u9]/\Same H3 H6/\H6 L=some (.lst (us.map V.ref))/\Its H6 us its/\(∀x∈its,abD wk x=true)/\its.length=n) ⟨_,_,us,its,rfl,s3,h3,hF,hc,li⟩ ?turn2 ?done2⟩
  case lo=>omega
  case hi=>omega
  case turn2=>
   rintro i σ H6 hi ⟨u8,u9,us,its,rfl,s6,h6,hF,hc,li⟩
   have hi2:i<2:=by omega
   have lu:us.length=its.length:=Paired.length hF
   obtain⟨z7,a7,⟨w7,e7,b7'⟩⟩:=atH (xs:=[d0,d1,d2,d3,d4,d5,d6,d7,d8,d9].map V.int) (b:=7) (P:=fun z=>∃y:Int,z=.int y/\0<=y/\y<45) hi2 rfl rfl ⟨d7,rfl,b7⟩ ⟨d8,rfl,b8⟩
   obtain⟨z5,a5,⟨w5,e5⟩⟩:=atH (xs:=[d0,d1,d2,d3,d4,d5,d6,d7,d8,d9].map V.int) (b:=5) (P:=fun z=>∃y:Int,z=.int y) hi2 rfl rfl ⟨d5,rfl⟩ ⟨d6,rfl⟩
   subst e7 e5
   have hp6:=(t3.trans s6) _ _ hp
   refine⟨_,rfl,_,rfl,_,_,rfl,rfl,p,_,_,_,rfl,rfl,SqL.of hp6,a7,_,rfl,w7,wk,rfl,b7',fun w H7 s7 ck=>⟨(by show 2<=sizeLine;decide),fun tp htp=>?_⟩⟩
   have sT:=s7.trans (aaB htp (.tup [.str (Tx w),.bl false]))
   have m0:=Int.emod_nonneg w5 (show (n:Int)≠0 by omega)
   have m1:=Int.emod_lt_of_pos w5 (show (0:Int)<(n:Int) by omega)
   have kp:=ag6 (l':=(us.map V.ref).set (w5%(n:Int)).toNat (.ref tp)) (sT _ _ h6)
   refine⟨_,rfl,_,rfl,_,rfl,_,_,rfl,rfl,p,_,_,_,rfl,rfl,SqL.of (sT _ _ hp6),a5,_,rfl,_,_,rfl,rfl,(by omega),L,_,_,(w5%(n:Int)).toNat,rfl,rfl,sT _ _ h6,(by unfold ixN;rw[if_pos m0,if_pos (by rw[List.length_map,lu,li];exact m1)]),_,_,us.set (w5%(n:Int)).toNat tp,its.set (w5%(n:Int)).toNat (w,false),rfl,abL hL (s6.trans sT),(by rw[List.map_set];exact aaA),(hF.keep (sT.keep.trans kp)).set (kp.tup aaA),al9 hc ck,(by rw[List.length_set,li])⟩
  case done2=>
   rintro σ H6 ⟨u8,u9,us,its,rfl,s6,h6,hF,hc,li⟩
   have lu:us.length=its.length:=Paired.length hF
   have hp6:=(t3.trans s6) _ _ hp
   have tA:Same H H6:=t1.trans (t3.trans s6)
   have hn0:its≠[]:=fun e=>by rw[e] at li;have:(0:Nat)=n:=li;omega
   refine⟨_,rfl,p,_,_,_,rfl,rfl,SqL.of (hp6),rfl,rfl,_,rfl,ifI (fun c5=>?five) (fun c5=>?nofive)⟩
   case five=>
    refine⟨_,rfl,(by show 2<=sizeLine;decide),fun tp htp=>⟨(by show 1<=sizeLine;decide),fun g1 w1=>⟨g1,80,_,rfl,rfl,aaA,(by decide),(by decide),(by show 1*80<=sizeLine;decide),fun g2 w2=>?_⟩⟩⟩
    have sT:Same H6 (upd (upd (upd H6 tp (.tup [.str (Tx [49,45,50]),.bl true])) g1 (.lst [V.ref tp])) g2 (.lst (List.replicate (80:Int).toNat [V.ref tp]).flatten)):=(aaB htp _).trans ((aaB w1 _).trans (aaB w2 _))
    have tpT:=(aaB w2 (.lst (List.replicate (80:Int).toNat [V.ref tp]).flatten)) _ _ ((aaB w1 (.lst [V.ref tp])) _ _ (aaA (H:=H6) (a:=tp) (o:=.tup [.str (Tx [49,45,50]),.bl true])))
    refine⟨L,g2,_,_,rfl,rfl,sT _ _ h6,aaA,(by rw[List.length_map,sizeLine_eq];show us.length+80<=_;omega),fun g3 w3=>?_⟩
    have s9:=aaB w3 (.lst (us.map V.ref++(List.replicate (80:Int).toNat [V.ref tp]).flatten))
    have hp9:=s9 _ _ (sT _ _ hp6)
    refine⟨_,rfl,p,_,_,_,rfl,rfl,SqL.of (hp9),rfl,rfl,_,rfl,ifI (fun c6=>absurd c6 (by omega)) (fun c6=>⟨_,rfl,q g3 (us++(List.replicate 80 [tp]).flatten) (its++(List.replicate 80 [(([49,45,50]:List Nat),true)]).flatten) _ (tA.trans (sT.trans s9)) (by rw[List.map_append];exact aaA) ((hF.keep (sT.trans s9).keep).app (Its.rep (.cons (s9 _ _ tpT) .nil) 80)) (agM hc (ai0 fun y hy=>by rw[List.mem_singleton.mp hy];exact asW wk)) (fun e=>hn0 (List.append_eq_nil_iff.mp e).1) (by rw[List.length_append];show its.length+80<=140;omega)⟩)⟩
   case nofive=>
    refine⟨_,rfl,p,_,_,_,rfl,rfl,SqL.of (hp6),rfl,rfl,_,rfl,ifI (fun c6=>?six) (fun c6=>⟨_,rfl,q L us its H6 tA h6 hF hc hn0 (by omega)⟩)⟩
    refine⟨_,rfl,(by show 2<=sizeLine;decide),fun tp htp=>⟨_,rfl,0,wk,true,rfl,fun w H7 s7 ck=>⟨(by show 2<=sizeLine;decide),fun tr htr=>⟨(by show 2<=sizeLine;decide),fun g1 w1=>⟨g1,45,_,rfl,rfl,aaA,(by decide),(by decide),(by show 2*45<=sizeLine;decide),fun g2 w2=>?_⟩⟩⟩⟩⟩
    have sa:=aaB htp (.tup [.str (Tx [49]),.bl true])
    have sb:=s7.trans (aaB htr (.tup [.str (Tx w),.bl true]))
    have sc:=(aaB w1 (.lst [V.ref tp,V.ref tr])).trans (aaB w2 (.lst (List.replicate (45:Int).toNat [V.ref tp,V.ref tr]).flatten))
    have sT:=sa.trans (sb.trans sc)
    have tpT:=(sb.trans sc) _ _ (aaA (H:=H6) (a:=tp) (o:=.tup [.str (Tx [49]),.bl true]))
    have trT:=sc _ _ (aaA (H:=H7) (a:=tr) (o:=.tup [.str (Tx w),.bl true]))
    refine⟨L,g2,_,_,rfl,rfl,sT _ _ h6,aaA,(by rw[List.length_map,sizeLine_eq];show us.length+90<=_;omega),fun g3 w3=>?_⟩
    have s9:=aaB w3 (.lst (us.map V.ref++(List.replicate (45:Int).toNat [V.ref tp,V.ref tr]).flatten))
    exact⟨_,rfl,q g3 (us++(List.replicate 45 [tp,tr]).flatten) (its++(List.replicate 45 [(([49]:List Nat),true),(w,true)]).flatten) _ (tA.trans (sT.trans s9)) (by rw[List.map_append];exact aaA) ((hF.keep (sT.trans s9).keep).app (Its.rep (.cons (s9 _ _ tpT) (.cons (s9 _ _ trT) .nil)) 45)) (agM hc (ai0 fun y hy=>by
      rcases List.mem_cons.mp hy with rfl | hy
      ·exact au3 wk
      ·rw[List.mem_singleton.mp hy];exact ck)) (fun e=>hn0 (List.append_eq_nil_iff.mp e).1) (by rw[List.length_append];show its.length+90<=140;omega)⟩
theorem adX:Df P w K mg base "_law_due" 2 ["_law_items_here"] (ahU K):=by
 refine ZZ.F__law_due.dfs sc__law_due (fun vs H Q E h=>?_) (fun f cdv A outer s H vs Q E hr h=>?_)
 ·obtain⟨L,us,its,rfl,hS,hF,hlen,h8,q⟩:=h
  rfl
 obtain⟨L,us,its,rfl,hS,hF,hlen,h8,q⟩:=h
 refine⟨_,(ssC (sIf (tCm oGt (eCB anB ZZ.z_len PySem.boot_len (aC (ag8 (eSx [44]) (aj6 ["_law_text","_law_good"] [] [] (iL (v_ 0)) (fun _ _ _ _ _ _=>ayA (K:=K) (n:=2) (gsC (gN 0 (show ((["_law_text","_law_good"]:List Str)++([]:List Str)).Nodup by decide +kernel)) (gsC (gN 1 (show ((["_law_text","_law_good"]:List Str)++([]:List Str)).Nodup by decide +kernel)) gsN))) (fun _ _ _ _ _ _=>fsN) (fun _ _ _ _ _ _=>(v_ 0)))) aN)) eI) (ss1 (aaI eI)) ssN)
   (ssC (aaM 1 eI sc__law_due.nd)
   (ssC (aiE (iR1 ZZ.z_range (aC (eCB cMin ZZ.z_min PyProof.Rows.boot_min (aC eI (aC (eCB ahQ ZZ.z_len PySem.boot_len (aC (v_ 0) aN)) aN))) aN)) (gN 2 sc__law_due.nd) (ssC (awV (eIx xL (v_ 0) (v_ 2)) (gTu (gsC (gN 3 sc__law_due.nd) (gsC (gN 4 sc__law_due.nd) gsN))))
   (ssC (sIf (tW (asV (tVa (v_ 4)) (aj8 (tVa (eD (ad4 ZZ) hr (aC (v_ 3) aN)))))) (ss1 (aaM 1 (eOp aeE (v_ 1) eI) sc__law_due.nd)) ssN)
   (ss1 (sIf (tW (wOr (tNo (tVa (v_ 4))) (afC (tCm oGt (v_ 1) eI)))) (ss1 (aaI (v_ 2))) ssN)))) PassesOwn.never)
   (ss1 (aaI (eIx xL (aa0 (aC eN (aC eI aN))) (eCT amE ZZ.z_int PyProof.Rows.boot_int (aC (acX oGt (eCB ahQ ZZ.z_len PySem.boot_len (aC (v_ 0) aN)) eI) aN)))))))),?_⟩
 have lu:us.length=its.length:=Paired.length hF
 have jb:=ai6 (ws:=its.map (·.1)) fun w hw=>by
  obtain⟨x,hx,rfl⟩:=List.mem_map.mp hw
  exact h8 x hx
 rw[List.length_map] at jb
 refine⟨rfl,_,rfl,L,rfl,⟨_,hS⟩,ae0 (xs:=us.map V.ref) (fun i l=>l=(its.take i).map fun x=>V.str (Tx x.1)) (by rw[List.length_map,sizeLine_eq];omega) rfl hS ?ct ?cd⟩
 case ct=>
  intro i v l D H2 E' F' hv hR hD s2 h2 hE hF'
  rw[List.getElem?_map] at hv
  cases ez:us[i]? with
  |none=>rw[ez] at hv;cases hv
  |some u=>
   rw[ez] at hv
   obtain rfl:V.ref u=v:=Option.some.inj hv
   obtain⟨x,ex,hx⟩:=hF.get ez
   refine⟨u,_,_,rfl,SqT.of (s2 _ _ hx),_,rfl,hE _ _ (Same.refl _) ?_⟩
   rw[List.take_succ,ex,List.map_append,hR]
   rfl
 case cd=>
  intro D H2 l hR hD s2 h2
  rw[List.length_map,lu,List.take_length] at hR
  subst hR
  refine⟨44,D,its.map (·.1),rfl,rfl,SqL.of (by rw[List.map_map];exact h2),(by omega),_,rfl,(by rw[sizeLine_eq];omega),_,_,rfl,rfl,_,rfl,ifD (fun c=>?long) (fun c=>?_)⟩
  case long=>
   have e:ac3 its=some 0:=by unfold ac3;rw[if_pos (by omega)]
   rw[e] at q
   exact q H2 s2
  have hF2:=hF.keep s2.keep
  refine⟨_,rfl,L,_,rfl,.inl (s2.seq hS),_,_,rfl,_,rfl,?lo,?hi,afV (fun i σ H3=>∃(u3 u4 u5:Option V) (m:Nat),σ=[some (.ref L),some (.int m),u3,u4,u5]/\Same H2 H3/\ab9 (its.take 40) 0 0=ab9 ((its.take 40).drop i) i m) ⟨_,_,_,0,rfl,Same.refl _,rfl⟩ ?turn ?done⟩
  case lo=>rw[List.length_map,lu];split<;>omega
  case hi=>rw[List.length_map,lu];split<;>omega
  case done=>
   rintro σ H3 ⟨u3,u4,u5,m,rfl,s3,hsc⟩
   have en:ab9 (its.take 40) 0 0=none:=by
    rw[hsc,List.drop_of_length_le (by rw[List.length_map,lu,List.length_take];split<;>omega)]
    rfl
   refine⟨(by show 2<=sizeLine;decide),fun l2 hl2=>⟨_,rfl,L,_,rfl,.inl ((s2.trans (s3.trans (aaB hl2 _))).seq hS),_,_,rfl,rfl,.inr ⟨_,rfl,l2,_,_,_,rfl,rfl,SqL.of aaA,(show atI [V.non,V.int 40] (if decide (((40:Int))<(((us.map V.ref).length:Nat):Int)) then 1 else 0)=some (nV (ac3 its)) from ?_),q _ (s2.trans (s3.trans (aaB hl2 _)))⟩⟩⟩
   have e:ac3 its=if 40<its.length then some 40 else none:=by unfold ac3;rw[if_neg (by omega),en]
   rw[e,List.length_map,lu]
   by_cases c4:40<its.length
   ·rw[decide_eq_true (by omega),if_pos c4];rfl
   ·rw[decide_eq_false (by omega),if_neg c4];rfl
  case turn=>
   rintro i σ H3 hi ⟨u3,u4,u5,m,rfl,s3,hsc⟩
   rw[List.length_map,lu] at hi
   have hi4:i<40/\i<its.length:=by split at hi<;>omega
   obtain⟨x,ex,hx⟩:=hF2.get (List.getElem?_eq_getElem (show i<us.length by omega))
   generalize eu:us[i]'(by omega)=u at hx
   have au:atI (us.map V.ref) (i:Int)=some (.ref u):=aeP (by rw[List.getElem?_map,List.getElem?_eq_getElem (show i<us.length by omega),eu];rfl)
   have ex4:(its.take 40)[i]? =some x:=by rw[List.getElem?_take_of_lt hi4.1];exact ex
   rw[ajC ex4] at hsc
   have hu:=s3 _ _ hx
   refine⟨_,rfl,_,rfl,L,_,_,_,rfl,rfl,(s2.trans s3).seq hS,(by rw[Int.zero_add];exact au),u,_,rfl,SqT.of hu,rfl,_,_,rfl,_,_,rfl,rfl,?_⟩
   obtain⟨w,g⟩:=x
   cases g with
   |false=>
    have em:mk1 (w,false) m=m:=rfl
    refine⟨_,rfl,_,rfl,aaO ⟨_,rfl,_,rfl,aa3 ⟨_,rfl,?_⟩⟩⟩
    have e:ac3 its=some i:=by unfold ac3;rw[if_neg (by omega),hsc];rfl
    rw[e] at q
    rw[Int.zero_add]
    exact q H3 (s2.trans s3)
   |true=>
    refine⟨_,rfl,_,rfl,aa3 ⟨_,rfl,w,rfl,_,rfl,?_⟩⟩
    cases ek:ad7 w with
    |false=>
     have em:mk1 (w,true) m=m:=by unfold mk1;rw[ek];rfl
     refine aaO ⟨_,rfl,_,rfl,aaO ⟨_,rfl,_,_,rfl,rfl,_,rfl,ifD (fun c2=>⟨_,rfl,?_⟩) (fun c2=>?_)⟩⟩
     ·have e:ac3 its=some i:=by unfold ac3;rw[if_neg (by omega),hsc];unfold ab9;rw[em,decide_eq_true (by omega)];rfl
      rw[e] at q
      rw[Int.zero_add]
      exact q H3 (s2.trans s3)
     ·refine⟨_,_,_,m,rfl,s3,?_⟩
      rw[hsc]
      unfold ab9
      rw[em,decide_eq_false (by omega)]
      cases hd:List.drop (i+1) (its.take 40)<;>rfl
    |true=>
     have em:mk1 (w,true) m=m+1:=by unfold mk1;rw[ek];rfl
     refine aa3 ⟨_,rfl,_,_,rfl,rfl,_,rfl,_,rfl,aaO ⟨_,rfl,_,_,rfl,rfl,_,rfl,ifD (fun c2=>⟨_,rfl,?_⟩) (fun c2=>?_)⟩⟩
     ·have e:ac3 its=some i:=by unfold ac3;rw[if_neg (by omega),hsc];unfold ab9;rw[em,decide_eq_true (by omega)];rfl
      rw[e] at q
      rw[Int.zero_add]
      exact q H3 (s2.trans s3)
     ·refine⟨_,_,_,m+1,rfl,s3,?_⟩
      rw[hsc]
      unfold ab9
      rw[em,decide_eq_false (by omega)]
      cases hd:List.drop (i+1) (its.take 40)<;>rfl
theorem aaL:Df P w K mg base "_law_told" 9 ["_law_text","_law_week"] (agT K C_read_days C_read_weekdays):=by
 refine ZZ.F__law_told.dfs sc__law_told (fun vs H Q E h=>?_) (fun f cdv A outer s H vs Q E hr h=>?_)
 ·obtain⟨v,wk,rfl,hv⟩:=h
  rfl
 obtain⟨v,wk,rfl,hv⟩:=h
 refine⟨_,(ssC (ao0 3 ZZ.m_FieldError ZZ.xb_FieldError (bS 2 (xOr2 (xDS ((agV ZZ).at_ ZZ.m_read_days) hr (eIx xL (aa0 (aC (eGl (v:=.ref C_read_days) ZZ.m_read_days rfl) (aC (eGl (v:=.ref C_read_weekdays) ZZ.m_read_weekdays rfl) aN))) (eCT amE ZZ.z_int PyProof.Rows.boot_int (aC (v_ 1) aN))) (aC (v_ 0) aN)) (xDS ((adQ ZZ).at_ ZZ.m_read_weekdays) hr (eIx xL (aa0 (aC (eGl (v:=.ref C_read_days) ZZ.m_read_days rfl) (aC (eGl (v:=.ref C_read_weekdays) ZZ.m_read_weekdays rfl) aN))) (eCT amE ZZ.z_int PyProof.Rows.boot_int (aC (v_ 1) aN))) (aC (v_ 0) aN))) sc__law_told.nd) (fun _=>(ssC (sIf (tW (wOr (tNo (tVa (eCB cXi ZZ.z_isinstance PyProof.Rows.boot_isinstance (aC (v_ 3) (aC (eGl (v:=.ref C_NoField) ZZ.m_NoField rfl) aN))))) (wOr (tNo (tVa (eCB cXy ZZ.z_isinstance PyProof.Rows.boot_isinstance (aC (v_ 3) (aC (eTy ZZ.z_ValueError aeF) aN))))) (afC (tNo (tVa (eDQ (aeV ZZ) (hr.q.mark _) (aC (axP (v_ 3)) aN)))))))) (ss1 (aaI (eSx [111,116,104,101,114]))) ssN)
   (ssC (sIf (tVa (eCB cXt ZZ.z_isinstance PyProof.Rows.boot_isinstance (aC (v_ 3) (aC (aeW (aC (eGl (v:=.ref C_NoBook) ZZ.m_NoBook rfl) (aC (eGl (v:=.ref C_NoClock) ZZ.m_NoClock rfl) (aC (eGl (v:=.ref C_NoDay) ZZ.m_NoDay rfl) (aC (eGl (v:=.ref C_NoMoment) ZZ.m_NoMoment rfl) (aC (eGl (v:=.ref C_NoName) ZZ.m_NoName rfl) (aC (eGl (v:=.ref C_NoRow) ZZ.m_NoRow rfl) (aC (eGl (v:=.ref C_NoWord) ZZ.m_NoWord rfl) aN)))))))) aN)))) (ss1 (aaI (eSx [111,116,104,101,114]))) ssN)
   (ss1 (aaI (axP (v_ 3))))))) sc__law_told.nd)
   (ssC (sIf (tW (wOr (tVa (eCB cIs ZZ.z_isinstance PyProof.Rows.boot_isinstance (aC (v_ 2) (aC (eTy ZZ.z_list PyProof.Rows.boot_list) aN)))) (afC (tW (asV (tCm oEq (v_ 0) (eSx [42])) (aj8 (tCm aeA (v_ 2) eN))))))) (ss1 (aaI eN)) ssN)
   (ss1 (aaI (eSx [111,100,100]))))),?_⟩
 refine⟨fun e d H'=>∃(dx:Addr) (p:Nat),e=.ref C_NoField/\d=some dx/\Same H H'/\H' dx=some (.xd [(("at":Str),.int p)])/\∀H2,Same H H2->Q (.int p) H2,?_,fun C d b H' ⟨dx,p,hC,hd,s0,hat,qp⟩=>?_⟩
 ·cases wk with
  |false=>
   refine .inl ⟨(by show 2<=sizeLine;decide),fun ls hls=>⟨_,rfl,.inr ⟨_,rfl,ls,_,_,_,rfl,rfl,SqL.of aaA,rfl,rfl,_,rfl,v,rfl,?_⟩⟩⟩
   have sl:=aaB hls (.lst [V.ref C_read_days,V.ref C_read_weekdays])
   rcases hv with ⟨kd,hk,ns,q0⟩ | ⟨l,rfl,hl,q⟩
   ·exact .inl ⟨kd,hk.same sl,ns,fun dx H' s h=>⟨dx,0,rfl,rfl,sl.trans s,h,q0⟩⟩
   refine .inr ⟨l,rfl,hl,fun p hp dx H' s h=>⟨dx,p,rfl,rfl,sl.trans s,h,fun H2 s2=>?_⟩,fun hn=>⟨fun e H' s=>?_,fun ne m ys H' s hm=>?_⟩⟩
   ·have z:=q H2 s2
    rw[show aaY _ (lo_ _) (hi_ _) l=some p from hp] at z
    exact z
   ·have z:=q H' (sl.trans s)
    rw[show aaY _ (lo_ _) (hi_ _) l=none from hn] at z
    subst e
    exact⟨_,rfl,.non,.list,.non,rfl,(by decide),rfl,_,rfl,aaO ⟨_,rfl,rfl,_,rfl,avD ⟨_,rfl,rfl,_,rfl,ifT rfl z⟩⟩⟩
   ·have z:=q H' (sl.trans s)
    rw[show aaY _ (lo_ _) (hi_ _) l=none from hn] at z
    exact⟨_,rfl,.ref m,.list,.list,rfl,(by decide),.inl ⟨rfl,_,SqL.of hm⟩,_,rfl,aa3 z⟩
  |true=>
   refine .inr ⟨(by show 2<=sizeLine;decide),fun ls hls=>⟨_,rfl,.inr ⟨_,rfl,ls,_,_,_,rfl,rfl,SqL.of aaA,rfl,rfl,_,rfl,v,rfl,?_⟩⟩⟩
   have sl:=aaB hls (.lst [V.ref C_read_days,V.ref C_read_weekdays])
   rcases hv with ⟨kd,hk,ns,q0⟩ | ⟨l,rfl,hl,q⟩
   ·exact .inl ⟨kd,hk.same sl,ns,fun dx H' s h=>⟨dx,0,rfl,rfl,sl.trans s,h,q0⟩⟩
   refine .inr ⟨l,rfl,hl,fun p hp dx H' s h=>⟨dx,p,rfl,rfl,sl.trans s,h,fun H2 s2=>?_⟩,fun hn=>⟨fun e H' s=>?_,fun ne m ys H' s hm=>?_⟩⟩
   ·have z:=q H2 s2
    rw[show aaY _ (lo_ _) (hi_ _) l=some p from hp] at z
    exact z
   ·have z:=q H' (sl.trans s)
    rw[show aaY _ (lo_ _) (hi_ _) l=none from hn] at z
    subst e
    exact⟨_,rfl,.non,.list,.non,rfl,(by decide),rfl,_,rfl,aaO ⟨_,rfl,rfl,_,rfl,avD ⟨_,rfl,rfl,_,rfl,ifT rfl z⟩⟩⟩
   ·have z:=q H' (sl.trans s)
    rw[show aaY _ (lo_ _) (hi_ _) l=none from hn] at z
    exact⟨_,rfl,.ref m,.list,.list,rfl,(by decide),.inl ⟨rfl,_,SqL.of hm⟩,_,rfl,aa3 z⟩
 ·obtain⟨rfl,rfl⟩:=aqN hC
  subst hd
  refine⟨ZZ.xk_NoField_FieldError,fun a ha=>?_⟩
  have sn:=aaB ha (xo a C (some dx) true)
  have sa:=s0.trans sn
  refine⟨_,rfl,a,C,C,_,_,true,rfl,aaA,ZZ.xs_NoField.xf,ZZ.xi_NoField,_,rfl,aaO ⟨_,rfl,a,C,"ValueError",_,_,true,rfl,aaA,ZZ.xs_NoField.xf,ZZ.xv_NoField,_,rfl,aaO ?_⟩⟩
  refine⟨_,rfl,a,C,dx,true,_,_,rfl,aaA,sn _ _ hat,ZZ.xs_NoField,rfl,V.int p,.int,rfl,rfl,_,rfl,aaO ?_⟩
  refine⟨_,rfl,(by show 7<=sizeLine;decide),fun tp htp=>⟨a,C,tp,[C_NoBook,C_NoClock,C_NoDay,C_NoMoment,C_NoName,C_NoRow,C_NoWord],_,_,false,rfl,aaB htp _ _ _ aaA,ZZ.xs_NoField.xf,SqT.of aaA,ZZ.xt_NoField,_,rfl,aaO ?_⟩⟩
  have st:=aaB htp (.tup [V.ref C_NoBook,V.ref C_NoClock,V.ref C_NoDay,V.ref C_NoMoment,V.ref C_NoName,V.ref C_NoRow,V.ref C_NoWord])
  exact⟨_,rfl,a,C,dx,true,_,_,rfl,st _ _ aaA,st _ _ (sn _ _ hat),ZZ.xs_NoField,rfl,qp _ (sa.trans st)⟩
theorem aeB:Df P w K mg base "_law_longest" 10 ["_law_week"] (ad6 K):=by
 refine ZZ.F__law_longest.dfs sc__law_longest (fun vs H Q E h=>?_) (fun f cdv A outer s H vs Q E hr h=>?_)
 ·obtain⟨wk,rfl,q⟩:=h
  rfl
 obtain⟨wk,rfl,q⟩:=h
 refine⟨_,(ssC (sIf (tVa (v_ 0)) (ss1 (aaI (ak8 (acX aeA (eD (aaL ZZ) hr (aC (ag8 (eSx [44]) (eOp ahD (aa0 (aC (eSx [48,45,54,47,57,57]) aN)) eI)) (aC eB aN))) eN) (ahN (acX oEq (eD (aaL ZZ) hr (aC (eOp awK (eOp ax3 (eSx [49,45,50,44]) eI) (eSx [49])) (aC eB aN))) eI))))) ssN)
   (ssC (aaM 1 (eOp agY (eOp ahD (aa0 (aC (eSx [49,48,45,50,48,47,50]) aN)) eI) (aa0 (aC (eSx [49,48]) (aC (eSx [49,48]) (aC (eSx [49,48]) aN))))) sc__law_longest.nd)
   (ssC (sIf (tCm au4 (eD (aaL ZZ) hr (aC (ag8 (eSx [44]) (eOp agY (v_ 1) (aa0 (aC (eSx [49,45,50]) aN)))) (aC eB aN))) eN) (ss1 (aaI eB)) ssN)
   (ss1 (aaI (acX oEq (eD (aaL ZZ) hr (aC (ag8 (eSx [44]) (eOp agY (v_ 1) (aa0 (aC (eSx [49,45,49,50]) aN)))) (aC eB aN))) eI)))))),?_⟩
 cases wk with
 |true=>
  refine⟨_,rfl,_,rfl,aa3 ⟨rfl,(by show 1<=sizeLine;decide),fun q1 v1=>⟨q1,40,_,rfl,rfl,aaA,(by decide),(by decide),(by show 1*40<=sizeLine;decide),fun q2 v2=>⟨44,q2,l40,rfl,rfl,SqL.of aaA,(by rw[apR.2];decide),_,true,rfl,.inr ⟨aaN 44 l40,rfl,(by rw[apR.2];decide),fun H3 s3=>?_⟩⟩⟩⟩⟩
  rw[apR.1]
  refine⟨rfl,_,rfl,ifT rfl ⟨_,80,rfl,rfl,(by decide),(by decide),_,_,rfl,rfl,(by rw[sizeLine_eq];decide),_,true,rfl,.inr ⟨t80,rfl,(by rw[at5.2];decide),fun H4 s4=>?_⟩⟩⟩
  rw[at5.1]
  refine⟨rfl,?_⟩
  show Q (.bl true) _
  exact q _ ((aaB v1 _).trans ((aaB v2 _).trans (s3.trans s4)))
 |false=>
  refine⟨_,rfl,_,rfl,aaO ⟨(by show 1<=sizeLine;decide),fun q1 v1=>⟨q1,36,_,rfl,rfl,aaA,(by decide),(by decide),(by show 1*36<=sizeLine;decide),fun q2 v2=>⟨(by show 3<=sizeLine;decide),fun q3 v3=>⟨q2,q3,_,_,rfl,rfl,(aaB v3 _) _ _ aaA,aaA,(by show 36+3<=sizeLine;decide),fun q4 v4=>?_⟩⟩⟩⟩⟩
  refine⟨rfl,_,rfl,(by show 1<=sizeLine;decide),fun q5 v5=>⟨q4,q5,_,_,rfl,rfl,(aaB v5 _) _ _ aaA,aaA,(by show 39+1<=sizeLine;decide),fun q6 v6=>⟨44,q6,l39++[[49,45,50]],rfl,rfl,SqL.of aaA,(by rw[as1.2];decide),_,false,rfl,.inr ⟨aaN 44 (l39++[[49,45,50]]),rfl,(by rw[as1.2];decide),fun H3 s3=>?_⟩⟩⟩⟩
  rw[as1.1]
  refine⟨rfl,_,rfl,ifF rfl ⟨rfl,_,rfl,(by show 1<=sizeLine;decide),fun q7 v7=>⟨q4,q7,_,_,rfl,rfl,(aaB v7 _) _ _ (s3 _ _ ((aaB v6 _) _ _ ((aaB v5 _) _ _ aaA))),aaA,(by show 39+1<=sizeLine;decide),fun q8 v8=>⟨44,q8,l39++[[49,45,49,50]],rfl,rfl,SqL.of aaA,(by rw[aq1.2];decide),_,false,rfl,.inr ⟨aaN 44 (l39++[[49,45,49,50]]),rfl,(by rw[aq1.2];decide),fun H4 s4=>?_⟩⟩⟩⟩⟩
  rw[aq1.1]
  refine⟨rfl,?_⟩
  show Q (.bl true) _
  exact q _ ((aaB v1 _).trans ((aaB v2 _).trans ((aaB v3 _).trans ((aaB v4 _).trans ((aaB v5 _).trans ((aaB v6 _).trans (s3.trans ((aaB v7 _).trans ((aaB v8 _).trans s4)))))))))
theorem asM{fL:Addr}{fdL:FuncData}(F:Fun K "law" "law" af3 fL fdL):FnOk P w K mg base CX0 11 fL fdL ["_law_script"] (sp_law K):=by
 refine F.oks sc_law (fun vs H Q E h=>?_) (fun cdv A outer s H vs Q E hr h=>?_)
 ·obtain⟨a,ns,rfl,hS,hlen,q⟩:=h
  rfl
 obtain⟨a,ns,rfl,hS,hlen,q⟩:=h
 refine⟨_,(ssC (aaM 1 (acX oEq (eOp ab0 (eD (aaZ ZZ) hr (aC (v_ 0) (aC eI aN))) eI) eI) sc_law.nd)
   (ssC (aiE (iT (aeW (aC eB (aC eB aN)))) (gN 2 sc_law.nd) (ssC (aaM 3 (eOp aeE eI (eOp akN eI (eCT amE ZZ.z_int PyProof.Rows.boot_int (aC (v_ 2) aN)))) sc_law.nd)
   (ssC (aaM 4 (eD (afM ZZ) hr (aC (eD (aaZ ZZ) hr (aC (v_ 0) (aC (v_ 3) aN))) (aC (eD (aaZ ZZ) hr (aC (v_ 0) (aC (eOp aeE (v_ 3) eI) aN))) (aC (v_ 2) (aC (v_ 1) aN))))) sc_law.nd)
   (ssC (aaM 5 (ag8 (eSx [44]) (aj6 ["_law_one","_law_good"] [] [] (iL (v_ 4)) (fun _ _ _ _ _ _=>ayA (K:=K) (n:=2) (gsC (gN 0 (show ((["_law_one","_law_good"]:List Str)++([]:List Str)).Nodup by decide +kernel)) (gsC (gN 1 (show ((["_law_one","_law_good"]:List Str)++([]:List Str)).Nodup by decide +kernel)) gsN))) (fun _ _ _ _ _ _=>fsN) (fun _ _ _ _ _ _=>(v_ 0)))) sc_law.nd)
   (ssC (sIf (tW (wOr (tCm oNe (eD (aaL ZZ) hr (aC (v_ 5) (aC (v_ 2) aN))) (eD (adX ZZ) hr (aC (v_ 4) aN))) (afC (tNo (tVa (eD (aeB ZZ) hr (aC (v_ 2) aN))))))) (ss1 (aaI eB)) ssN)
   (ssC (aaM 6 (eIx xL (aa0 (aC eN (aC eI (aC eB (aC (aa0 (aC (eSx [49]) aN)) (aC (aeW (aC (eSx [49]) aN)) (aC eDi aN))))))) (eOp ab0 (eOp alW (eD (aaZ ZZ) hr (aC (v_ 0) (aC eI aN))) eI) eI)) sc_law.nd)
   (ssC (sIf (tW (wOr (tCm oNe (eD (aaL ZZ) hr (aC (v_ 6) (aC (v_ 2) aN))) eI) (afC (tCm oNe (eD (aaL ZZ) hr (aC (v_ 5) (aC (v_ 2) aN))) (eD (adX ZZ) hr (aC (v_ 4) aN)))))) (ss1 (aaI eB)) ssN)
   (ss1 (sIf (tW (wOr (tCm oNe (eD (aaL ZZ) hr (aC (eSx [49,44,42,10]) (aC (v_ 2) aN))) eI) (afC (tCm oNe (eD (aaL ZZ) hr (aC (eSx [10,42]) (aC (v_ 2) aN))) eI)))) (ss1 (aaI eB)) ssN)))))))) PassesOwn.never)
   (ss1 (aaI eB)))),?_⟩
 refine⟨_,rfl,a,_,rfl,⟨ns,hS⟩,⟨by decide,by decide⟩,fun c0=>⟨_,_,rfl,rfl,(by show (0:Int)<2;decide),rfl,?_⟩⟩
 obtain⟨bm,ebm⟩:∃bm,bm=decide (V.int (c0%2)=V.int 1):=⟨_,rfl⟩
 show acT 1 (V.bl (decide (V.int (c0%2)=V.int 1))) _ _ _
 rw[←ebm]
 refine⟨(by show 2<=sizeLine;decide),fun tt htt=>⟨tt,rfl,⟨_,SqT.of aaA⟩,al5 (K:=K) (a:=tt) (xs:=[.bl false,.bl true]) (fun i σ H5=>∃(v2 v3 v4 v5 v6:Option V),σ=[some (.ref a),some (.bl bm),v2,v3,v4,v5,v6]/\Same (upd H tt (.tup [.bl false,.bl true])) H5) ⟨_,_,_,_,_,rfl,Same.refl _⟩ (fun i σ H5 _ ⟨_,_,_,_,_,_,s5⟩=>SqT.of (s5 _ _ aaA)) ?turn ?done⟩⟩
 case done=>
  rintro σ H5 ⟨v2,v3,v4,v5,v6,rfl,s5⟩
  exact q H5
 case turn=>
  rintro i x σ H5 hx ⟨v2,v3,v4,v5,v6,rfl,s5⟩
  obtain⟨b,rfl⟩:∃b,x=.bl b:=by
   match i,hx with
   |0,hx=>cases hx;exact⟨_,rfl⟩
   |1,hx=>cases hx;exact⟨_,rfl⟩
   |i+2,hx=>cases hx
  have s15:Same H H5:=(aaB htt _).trans s5
  refine⟨_,rfl,.inr ⟨_,rfl,_,_,rfl,rfl,.inl ⟨by decide,by decide⟩,_,_,rfl,rfl,?_⟩⟩
  obtain⟨at_,eat,hat⟩:∃at_:Int,at_=1+2*(if b then 1 else 0)/\0<=at_/\at_<=10:=⟨_,rfl,by cases b<;>decide,by cases b<;>decide⟩
  show acT 3 (V.int (1+2*(if b then 1 else 0))) _ _ _
  rw[←eat]
  refine⟨_,rfl,_,rfl,a,_,rfl,⟨ns,s15.seq hS⟩,⟨by omega,by omega⟩,fun c1=>⟨_,rfl,_,rfl,_,_,rfl,rfl,a,_,rfl,⟨ns,s15.seq hS⟩,⟨by omega,by omega⟩,fun c2=>⟨_,rfl,_,rfl,c1,c2,b,bm,rfl,fun L us its H6 s6 hL hF hc hne hl=>?_⟩⟩⟩
  have lu:us.length=its.length:=Paired.length hF
  have h8:∀x∈its,x.1.length<=8:=fun x hx=>(ag2 (hc x hx)).2.1
  have jb:=ai6 (ws:=its.map (·.1)) fun w hw=>by
   obtain⟨x,hx,rfl⟩:=List.mem_map.mp hw
   exact h8 x hx
  rw[List.length_map] at jb
  refine⟨rfl,_,rfl,L,rfl,⟨_,SqL.of hL⟩,ae0 (xs:=us.map V.ref) (fun i l=>l=(its.take i).map fun x=>V.str (Tx x.1)) (by rw[List.length_map,sizeLine_eq];omega) rfl (SqL.of hL) ?ct ?cd⟩
  case ct=>
   intro i v l D H2 E' F' hv hR hD s2 h2 hE hF'
   rw[List.getElem?_map] at hv
   cases ez:us[i]? with
   |none=>rw[ez] at hv;cases hv
   |some u=>
    rw[ez] at hv
    obtain rfl:V.ref u=v:=Option.some.inj hv
    obtain⟨x,ex,hx⟩:=hF.get ez
    refine⟨u,_,_,rfl,SqT.of (s2 _ _ hx),_,rfl,hE _ _ (Same.refl _) ?_⟩
    rw[List.take_succ,ex,List.map_append,hR]
    rfl
  case cd=>
   intro Dz H7 l hR hD s7 h7
   rw[List.length_map,lu,List.take_length] at hR
   subst hR
   have jl:(aaN 44 (its.map (·.1))).length<=100000:=by omega
   have eb:=ap0 hc hne
   refine⟨44,Dz,its.map (·.1),rfl,rfl,SqL.of (by rw[List.map_map];exact h7),(by omega),?_⟩
   show acT 5 (V.str (Tx (aaN 44 (its.map (·.1))))) _ _ _
   generalize aaN 44 (its.map (·.1))=tx at jl eb ⊢
   have hLz:=s7 _ _ hL
   have hFz:=hF.keep s7.keep
   refine⟨_,rfl,_,rfl,_,b,rfl,.inr ⟨tx,rfl,jl,fun H8 s8=>⟨_,rfl,L,us,its,rfl,SqL.of (s8 _ _ hLz),hFz.keep s8.keep,hl,h8,fun H9 s9=>?_⟩⟩⟩
   rw[eb]
   refine⟨nvs _,_,rfl,?_⟩
   rw[decide_eq_true rfl]
   refine aaO ⟨_,rfl,b,rfl,fun HA sA=>⟨_,rfl,aaO ?_⟩⟩
   have s6A:Same H6 HA:=s7.trans (s8.trans (s9.trans sA))
   refine⟨(by show 1<=sizeLine;decide),fun z1 u1=>⟨(by show 1<=sizeLine;decide),fun z2 u2=>fun z3 u3=>⟨(by show 6<=sizeLine;decide),fun z4 u4=>?_⟩⟩⟩
   have w1:=aaB u1 (.lst [V.str (Tx [49])])
   have w2:=aaB u2 (.tup [V.str (Tx [49])])
   have w3:=aaB u3 (.dK [])
   have w4:=aaB u4 (.lst [V.non,.int 5,.bl true,.ref z1,.ref z2,.ref z3])
   have wA:=w1.trans (w2.trans (w3.trans w4))
   refine⟨_,rfl,a,_,rfl,⟨ns,((s15.trans (s6.trans s6A)).trans wA).seq hS⟩,⟨by decide,by decide⟩,fun c3=>⟨_,_,rfl,rfl,⟨by decide,by decide⟩,_,_,rfl,rfl,(by show (0:Int)<6;decide),?_⟩⟩
   obtain⟨v,hv,hm⟩:=adD (xs:=[V.non,.int 5,.bl true,.ref z1,.ref z2,.ref z3]) (i:=c3 / 2%6) (by omega) (by show c3 / 2%6<6;omega)
   have hk:∃kd,KindV K (upd (upd (upd (upd HA z1 (.lst [V.str (Tx [49])])) z2 (.tup [V.str (Tx [49])])) z3 (.dK [])) z4 (.lst [V.non,.int 5,.bl true,.ref z1,.ref z2,.ref z3])) v kd/\kd≠ .str:=by
    simp only[List.mem_cons,List.not_mem_nil,or_false] at hm
    rcases hm with rfl | rfl | rfl | rfl | rfl | rfl
    ·exact⟨.non,rfl,fun z=>nomatch z⟩
    ·exact⟨.int,rfl,fun z=>nomatch z⟩
    ·exact⟨.bool,rfl,fun z=>nomatch z⟩
    ·exact⟨.list,.inl ⟨rfl,_,SqL.of (w4 _ _ (w3 _ _ (w2 _ _ aaA)))⟩,fun z=>nomatch z⟩
    ·exact⟨.tuple,.inr (.inl ⟨rfl,_,SqT.of (w4 _ _ (w3 _ _ aaA))⟩),fun z=>nomatch z⟩
    ·exact⟨.dict,.inr (.inr ⟨rfl,_,w4 _ _ aaA⟩),fun z=>nomatch z⟩
   obtain⟨kd,hk,nk⟩:=hk
   refine⟨z4,_,_,v,rfl,rfl,SqL.of aaA,hv,?_⟩
   refine⟨_,rfl,_,rfl,v,b,rfl,.inl ⟨kd,hk,nk,fun HB sB=>⟨rfl,_,rfl,?_⟩⟩⟩
   rw[decide_eq_true rfl]
   have s6B:Same H6 HB:=s6A.trans (wA.trans sB)
   have s7B:Same H7 HB:=s8.trans (s9.trans (sA.trans (wA.trans sB)))
   refine aaO ⟨_,rfl,_,rfl,_,b,rfl,.inr ⟨tx,rfl,jl,fun HC sC=>⟨_,rfl,L,us,its,rfl,SqL.of (sC _ _ (s7B _ _ hLz)),(hFz.keep s7B.keep).keep sC.keep,hl,h8,fun HD sD=>?_⟩⟩⟩
   rw[eb]
   refine⟨nvs _,_,rfl,?_⟩
   rw[decide_eq_true rfl]
   refine aaO ⟨_,rfl,_,b,rfl,.inr ⟨[49,44,42,10],rfl,(by decide),fun HE sE=>?_⟩⟩
   rw[(axC b).1]
   refine⟨rfl,_,rfl,?_⟩
   show if (!decide (V.int ((1:Nat):Int)=V.int 1))=true then _ else _
   rw[show decide (V.int ((1:Nat):Int)=V.int 1)=true from decide_eq_true rfl]
   refine aaO ⟨_,rfl,_,b,rfl,.inr ⟨[10,42],rfl,(by decide),fun HG sG=>?_⟩⟩
   rw[(axC b).2]
   refine⟨rfl,_,rfl,?_⟩
   show if (!decide (V.int ((0:Nat):Int)=V.int 0))=true then _ else _
   rw[show decide (V.int ((0:Nat):Int)=V.int 0)=true from decide_eq_true rfl]
   exact aaO ⟨_,_,_,_,_,rfl,s5.trans (s6.trans (s6B.trans (sC.trans (sD.trans (sE.trans sG)))))⟩
end
theorem all_mk{l:PySem.W.OpenLaw}{w:World}{K:PySem.W.Frag}{h:Heap}{mg:Str->Option Value}{fa f:Addr}{C_Numbers C_Last C_Near C_Weekdays C_Nth C_LastOne C_LastWork C_Mark C_NoField C_read_weekday_mark C_read_day_mark C_FieldError C_read_days C_read_weekdays C_NoBook C_NoClock C_NoDay C_NoMoment C_NoName C_NoRow C_NoWord:Addr}{t_FIGURES t_MOST_STRIDE t_MOST_BACK t_MOST_DAY t_SUNDAY_TOO t_SUNDAY t_MOST_NTH t_MOST_SIGNS t_MOST_ITEMS t_MOST_MARKS t_ALL_WEEKDAYS:Tok}{oc kV dc pm cd ct:Value}{od an:Option Addr}{sl:Array (Option Value)}(X:K.In h)(G:h.Ns mainGlobals mg)(hfa:mg "law"=some (.ref fa))(ZZ:Fs K mg C_Numbers C_Last C_Near C_Weekdays C_Nth C_LastOne C_LastWork C_Mark C_NoField C_read_weekday_mark C_read_day_mark C_FieldError C_read_days C_read_weekdays C_NoBook C_NoClock C_NoDay C_NoMoment C_NoName C_NoRow C_NoWord t_FIGURES t_MOST_STRIDE t_MOST_BACK t_MOST_DAY t_SUNDAY_TOO t_SUNDAY t_MOST_NTH t_MOST_SIGNS t_MOST_ITEMS t_MOST_MARKS t_ALL_WEEKDAYS)
  (a:PySem.W.nsIn K mainGlobals "law"=some (some (.ref f))) (lk:K.lookup f=some ⟨oc,od,.func (PySem.W.fnOf "law" "law" (aaW af3) (aaJ af3) (aaC af3) .none kV dc pm an cd ct),sl⟩) (c:PySem.W.codeIn K cd "law"=true) (k:PySem.W.keepIn K (.ref f)=true):
  ∃fd:FuncData,(∀(s:Shared) (v:Value),BindsTo s fd ⟨[v],[]⟩ [("_law_script",v)])/\∀base:Heap,K.In base->base.Ns mainGlobals mg->FnOk l.prog w K mg base CX0 11 fa fd ["_law_script"] (sp_law K):=by
 cases hfa.symm.trans (PySem.W.mg_of X G a)
 exact⟨_,fun s v=>.of_eq rfl,fun base _ _=>asM ZZ (ah6 (st:=af3) lk c k)⟩
theorem walk{l:PySem.W.OpenLaw}{q:Program}{loose:List Str}{XP:(Str->Option Value)->Heap->Prop}{YP:World->Heap->Prop}{d:DefRec}{K:Params->PySem.W.Frag}(hn:l.most=some 63)(hdf:d.params.defaults=[])
  (hY:∀(w:World) (h:Heap),YP w h->(K w.params).In h)
  (F:∀(w:World) (mg:Str->Option Value) (fa:Addr) (h:Heap),(K w.params).In h->h.Ns mainGlobals mg->mg d.name=some (.ref fa)->
   ∃fd:FuncData,(∀(s:Shared) (u:Value),BindsTo s fd ⟨[u],[]⟩ [("_law_script",u)])/\∀base:Heap,(K w.params).In base->base.Ns mainGlobals mg->FnOk l.prog w (K w.params) mg base CX0 11 fa fd ["_law_script"] (sp_law (K w.params))):
  PySem.W.WalkO q loose XP YP l.row.toRowW d [] (fun f vs=>PySem.call f vs):=
 L2.walk_of (n:=63) (k:=11) (x:="_law_script") (CX:=fun _=>CX0) (sp:=fun w=>sp_law (K w.params)) hn (by decide) hdf ⟨rfl,by decide,by decide⟩ hY F (fun _ _ a ns hl _ hS=>⟨a,ns,rfl,hS,hl,fun _=>rfl⟩) fun _ _ _ _ _ z=>z
end K38
open PySem PySem.W PyProof.Rows
local macro_rules
  | `(tactic| o_head $H) => `(tactic| (
      refine holds_open (q := Hd.seenBy) (loose := Hd.free) (N := 11090)
        (Xt := Hd.XT)
        (XP := XL Hd.seenBy Hd.read)
        (Yf := Hook.obs $H) (Ya := Hook.val $H) (YP := Hook.says $H)
        ?hl (Hook.of $H) (Hook.keeps $H)
        (fun z y => xl_of z (Bool.and_eq_true_iff.mp y).1) XL.keeps
        (by rfl) (by rfl) (by rfl)
        (fun z y => recFacts_of (Bool.and_eq_true_iff.mp y).2)
        (by rfl) (by first | assumption | decide +kernel) (by decide +kernel)
        ⟨rfl,rfl,rfl,rfl,rfl,by decide +kernel⟩ ?hw ?hc
      (case hl =>
        refine LeftO.of_pieces Hd.opn Hd.siz Hd.run rfl ?_
        intro w
        funext os
        refine looks_pair (Hd.lk0 w os) (looks_pair (Hd.look w os) ?_)
        as_aux_lemma => kernel_rfl)))
open PySem PySem.W PyProof.Rows L2
set_option maxRecDepth 100000 in
set_option maxHeartbeats 0 in
theorem PySem.Challenge.cw_fivefields_k38_marks_refused_holds : PySem.Challenge.rw_fivefields_k38_marks_refused.Holds := by
 w_on;o_law;k_head;(case hw=>w_witness2)
 k_fill
 refine K38.walk (l:=PySem.Challenge.rw_fivefields_k38_marks_refused) rfl rfl (fun w h Y=>PySem.W.kIn_of Y) ?F
 case F=>
  intro w mg fa h KX G hmg
  refine' K38.all_mk KX G hmg ⟨
   ⟨PySem.W.mg_of KX G ?_,⟨?_,?_,?_,?_⟩,?_,?_⟩,
   ?_,
   ⟨PySem.W.mg_of KX G ?_,⟨?_,?_,?_,?_⟩,?_,?_⟩,
   ?_,
   ⟨PySem.W.mg_of KX G ?_,⟨?_,?_,?_,?_⟩,?_,?_⟩,
   ?_,
   ⟨PySem.W.mg_of KX G ?_,⟨?_,?_,?_,?_⟩,?_,?_⟩,
   ?_,
   ⟨PySem.W.mg_of KX G ?_,⟨?_,?_,?_,?_⟩,?_,?_⟩,
   ?_,
   ?_,
   ⟨PySem.W.mg_of KX G ?_,⟨?_,?_,?_,?_⟩,?_,?_⟩,
   ?_,
   ⟨PySem.W.mg_of KX G ?_,⟨?_,?_,?_,?_⟩,?_,?_⟩,
   ?_,
   ⟨PySem.W.mg_of KX G ?_,⟨?_,?_,?_,?_⟩,?_,?_⟩,
   ?_,
   PySem.W.mg_of KX G ?_,
   PySem.W.mg_of KX G ?_,
   PySem.W.mg_of KX G ?_,
   PySem.W.mg_of KX G ?_,
   PySem.W.mg_of KX G ?_,
   PySem.W.mg_of KX G ?_,
   PySem.W.mg_of KX G ?_,
   PySem.W.mg_of KX G ?_,
   PySem.W.mg_of KX G ?_,
   PySem.W.mg_of KX G ?_,
   PySem.W.mg_of KX G ?_,
   PySem.W.mg_of KX G ?_,
   PySem.W.mg_of KX G ?_,
   ⟨⟨?f0_NoField,?_,?_,?_,?_,?_,?_,?_⟩,?fd_NoField,?_,?_⟩,
   ?xj0_NoField,
   ?_,
   ?rxk_NoField_FieldError,
   ?rxi_NoField,
   ?rxv_NoField,
   ?rxt_NoField,
   K38.mg_tx (x:="0123456789") KX G (by decide +kernel) ?_,
   PySem.W.mg_of KX G ?_,
   PySem.W.mg_of KX G ?_,
   PySem.W.mg_of KX G ?_,
   PySem.W.mg_of KX G ?_,
   PySem.W.mg_of KX G ?_,
   PySem.W.mg_of KX G ?_,
   PySem.W.mg_of KX G ?_,
   PySem.W.mg_of KX G ?_,
   PySem.W.mg_of KX G ?_,
   PySem.W.mg_of KX G ?_,
   PySem.W.mg_none_of KX G ?_,
   PySem.W.mg_none_of KX G ?_,
   PySem.W.mg_none_of KX G ?_,
   PySem.W.mg_none_of KX G ?_,
   PySem.W.mg_none_of KX G ?_,
   PySem.W.mg_none_of KX G ?_,
   PySem.W.mg_none_of KX G ?_,
   PySem.W.mg_none_of KX G ?_,
   PySem.W.mg_none_of KX G ?_,
   PySem.W.mg_none_of KX G ?_,
   PySem.W.mg_none_of KX G ?_,
   PySem.W.mg_none_of KX G ?_,
   aaV KX G ?_ ?_ ?_ ?_ fun _ _ _ _ _ _ us hl=>by obtain⟨_,rfl⟩:=ac4 hl;rfl,
   aaV KX G ?_ ?_ ?_ ?_ fun _ _ _ _ _ _ us hl=>by obtain⟨_,rfl⟩:=ac4 hl;rfl,
   aaV KX G ?_ ?_ ?_ ?_ fun _ _ _ _ _ _ us hl=>by obtain⟨_,rfl⟩:=ac4 hl;rfl,
   aaV KX G ?_ ?_ ?_ ?_ fun _ _ _ _ _ _ us hl=>by obtain⟨_,_,_,rfl⟩:=ahG hl;rfl,
   aaV KX G ?_ ?_ ?_ ?_ fun _ _ _ _ _ _ us hl=>by obtain⟨_,_,_,rfl⟩:=ahG hl;rfl,
   aaV KX G ?_ ?_ ?_ ?_ fun _ _ _ _ _ _ us hl=>by obtain⟨_,_,_,rfl⟩:=ahG hl;rfl,
   aaV KX G ?_ ?_ ?_ ?_ fun _ _ _ _ _ _ us hl=>by obtain⟨_,_,_,_,rfl⟩:=ao3 hl;rfl,
   aaV KX G ?_ ?_ ?_ ?_ fun _ _ _ _ _ _ us hl=>by obtain⟨_,_,_,rfl⟩:=ahG hl;rfl,
   adL ?_ ?_ ?_ ?_ ?_ fun _ _ _ _ _ _ us hl=>by obtain⟨_,_,rfl⟩:=agQ hl;rfl,
   K38.md_Last___init__ ?_ ?_ ?_ ?_ ?_ ?_,
   adL ?_ ?_ ?_ ?_ ?_ fun _ _ _ _ _ _ us hl=>by obtain⟨_,_,rfl⟩:=agQ hl;rfl,
   adL ?_ ?_ ?_ ?_ ?_ fun _ _ _ _ _ _ us hl=>by obtain⟨_,_,rfl⟩:=agQ hl;rfl,
   adL ?_ ?_ ?_ ?_ ?_ fun _ _ _ _ _ _ us hl=>by obtain⟨_,_,_,rfl⟩:=ahG hl;rfl,
   adL ?_ ?_ ?_ ?_ ?_ fun _ _ _ _ _ _ us hl=>by obtain⟨_,_,rfl⟩:=agQ hl;rfl,
   aaV KX G ?_ ?_ ?_ ?_ fun _ _ _ _ _ _ us hl=>by obtain⟨_,rfl⟩:=ac4 hl;rfl,
   aaV KX G ?_ ?_ ?_ ?_ fun _ _ _ _ _ _ us hl=>by obtain⟨_,rfl⟩:=ac4 hl;rfl,
   aaV KX G ?_ ?_ ?_ ?_ fun _ _ _ _ _ _ us hl=>by obtain⟨_,rfl⟩:=ac4 hl;rfl,
   adL ?_ ?_ ?_ ?_ ?_ fun _ _ _ _ _ _ us hl=>by obtain⟨_,_,rfl⟩:=agQ hl;rfl,
   aaV KX G ?_ ?_ ?_ ?_ fun _ _ _ _ _ _ us hl=>by obtain⟨_,_,_,_,rfl⟩:=ao3 hl;rfl,
   aaV KX G ?_ ?_ ?_ ?_ fun _ _ _ _ _ _ us hl=>by obtain⟨_,rfl⟩:=ac4 hl;rfl,
   aaV KX G ?_ ?_ ?_ ?_ fun _ _ _ _ _ _ us hl=>by obtain⟨_,rfl⟩:=ac4 hl;rfl,
   aaV KX G ?_ ?_ ?_ ?_ fun _ _ _ _ _ _ us hl=>by obtain⟨_,_,rfl⟩:=agQ hl;rfl,
   aaV KX G ?_ ?_ ?_ ?_ fun _ _ _ _ _ _ us hl=>by obtain⟨_,rfl⟩:=ac4 hl;rfl,
   aaV KX G ?_ ?_ ?_ ?_ fun _ _ _ _ _ _ us hl=>by obtain⟨_,_,_,rfl⟩:=ahG hl;rfl,
   aaV KX G ?_ ?_ ?_ ?_ fun _ _ _ _ _ _ us hl=>by obtain⟨_,rfl⟩:=ac4 hl;rfl,
   aaV KX G ?_ ?_ ?_ ?_ fun _ _ _ _ _ _ us hl=>by obtain⟨_,_,_,rfl⟩:=ahG hl;rfl,
   aaV KX G ?_ ?_ ?_ ?_ fun _ _ _ _ _ _ us hl=>by obtain⟨_,_,rfl⟩:=agQ hl;rfl,
   aaV KX G ?_ ?_ ?_ ?_ fun _ _ _ _ _ _ us hl=>by obtain⟨_,rfl⟩:=ac4 hl;rfl,
   aaV KX G ?_ ?_ ?_ ?_ fun _ _ _ _ _ _ us hl=>by obtain⟨_,_,_,_,rfl⟩:=ao3 hl;rfl,
   aaV KX G ?_ ?_ ?_ ?_ fun _ _ _ _ _ _ us hl=>by obtain⟨_,rfl⟩:=ac4 hl;rfl,
   aaV KX G ?_ ?_ ?_ ?_ fun _ _ _ _ _ _ us hl=>by obtain⟨_,_,rfl⟩:=agQ hl;rfl,
   aaV KX G ?_ ?_ ?_ ?_ fun _ _ _ _ _ _ us hl=>by obtain⟨_,rfl⟩:=ac4 hl;rfl⟩ ?_ ?_ ?_ ?_
  (case f0_NoField=>kernel_rfl)
  (case fd_NoField=>kernel_rfl)
  (case xj0_NoField=>kernel_rfl)
  (case rxk_NoField_FieldError=>kernel_rfl)
  (case rxi_NoField=>kernel_rfl)
  (case rxv_NoField=>kernel_rfl)
  (case rxt_NoField=>kernel_rfl)
  all_goals try (as_aux_lemma=>k_is)
