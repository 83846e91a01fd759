import PyProof.Rows.All
import Wide.All
import OpenK.AllK
import Wide.FinOn
import Lean
import PyProof.EqAt
import PyProof.EqKinds
import PyProof.TupleCall
import PySem.Challenge.RW_fivefields_k46_rows_refused
set_option maxHeartbeats 4000000
set_option compiler.extract_closed false
namespace Hd
open PySem PySem.W PySem.Calls PyProof.Rows
section
set_option maxHeartbeats 0
set_option maxRecDepth 100000
set_option linter.all false
noncomputable section
noncomputable abbrev pw:Program:=PySem.Challenge.pw_fivefields_k46_rows_refused
noncomputable abbrev bi:List Stmt:=behindTheImports pw
noncomputable def nth:List Stmt->Nat->Stmt
 |s::_,0=>s
 |_::r,n+1=>nth r n
 |[],_=>.Pass default
noncomputable def tp(i:Nat):Stmt:=nth pw.main.body i
noncomputable def bd:Stmt->List Stmt
 |.FunctionDef _ _ b _ _ _ _ _ _ _=>b
 |.ClassDef _ _ _ b _ _ _ _ _ _ _=>b
 |_=>[]
noncomputable def ag:Stmt->Arguments
 |.FunctionDef _ a _ _ _ _ _ _ _ _=>a
 |_=>⟨[],[],none,[],[],none,[]⟩
noncomputable def sc:Stmt->Scope
 |.FunctionDef _ _ _ _ _ _ s _ _ _=>s
 |.ClassDef _ _ _ _ _ _ s _ _ _ _=>s
 |_=>pw.main.scope
noncomputable def r(a:Addr):Value:=.ref a
noncomputable def i(n:Int):Value:=.int n 0
noncomputable def de(P:Params)(k:Str)(t:Tok)(v:Value):DictEntry:=⟨PyData.keyHash P k,.str k t,v⟩
noncomputable def tu(l:List Value):Obj:=⟨.type "tuple",none,.seq l.toArray 0,#[]⟩
noncomputable def di(l:List DictEntry)(n:Nat):Obj:=⟨.type "dict",none,.dict l.toArray n,#[]⟩
noncomputable def co(l:List Value):Obj:=⟨.type "code",none,.fields l.toArray,#[]⟩
noncomputable def fd(l:List Value):Obj:=⟨.none,none,.fields l.toArray,#[]⟩
noncomputable def lf(x:Obj):BT:=.node x .nil .nil
noncomputable abbrev nd:Obj->BT->BT->BT:=BT.node
noncomputable def sf(t:Tok):Value:=.str "/claim/cut.py" t
noncomputable def fz(n q:Str)(s:Stmt):Obj:=⟨.none,none,.func ⟨n,q,ag s,.stmts (bd s),sc s,0,[],.none,.none,.none,.none,none,.none,.none,0⟩,#[]⟩
noncomputable def fn(n q:Str)(s:Stmt)(g:Addr)(c:List (Str×Addr))(d k o m:Value)(a:Option Addr)(x y:Value)(b:Addr):Obj:=⟨.type "function",none,.func ⟨n,q,ag s,.stmts (bd s),sc s,g,c,d,k,o,m,a,x,y,b⟩,#[]⟩
noncomputable def ib(s:Stmt)(i:Nat):Stmt:=nth (bd s) i
noncomputable def ev:Env:={scope:=pw.main.scope,locals:=mainNs,globals:=mainNs,cells:=[],code:=(r 13),frame:=some 14}
noncomputable def cd:Code:=.body bi ev
noncomputable abbrev an:Option Value:=(some (r 6))
noncomputable abbrev bk:List Frame:=[topFrame ⟨0,0,0,0⟩]
def o0:Obj:=tu []
def o1:Obj:=fd []
def o2:Obj:=co [(.str "<module>" 182),(.str "<module>" 183),(sf 184),(i 1),(i 0),(i 0),(i 0),(i 0),(r 11),(.bool false),(i 181),(r 12),.none,.none,.none,.none,(i 185),(i 1),(sf 186)]
def o3:Obj:=⟨(.type "frame"),none,.plain,#[(some (r 13)),(some (r 3)),(some (r 3)),none,(some (.str "__main__" 164)),none,(some (r 0))]⟩
def hA(P:Params):Heap:=⟨⟨[(boot_o_0 P),(boot_o_1 P),(boot_o_2 P),(boot_o_3 P),(boot_o_4 P),(boot_o_5 P),(boot_o_6 P),(boot_o_7 P),(boot_o_8 P),(boot_o_9 P),(boot_o_10 P),o0,o1,o2,o3]⟩,⟨[],[],[],0,[],[],false,#[],[],0,false,false,false,0,[2000,10,10],false,0,true,[],[],0,false⟩⟩
def sA(w:World)(os:OsState):Shared:=⟨hA w.params,#[],⟨0,0,0,0⟩,187,os⟩
theorem pre(w:World)(os:OsState):
  topGo treeTable pw w 11 an 12 ⟨boot_heap w.params,⟨[]⟩,boot_drawn,boot_toks,os⟩ (topStub pw) =
  some (sA w os,⟨denote treeTable cd,cd,⟨0,0,0,0⟩,bk⟩):=by kernel_rfl
def t0(P:Params):BT:=(nd (boot_o_0 P) (nd (boot_o_1 P) (nd (boot_o_3 P) (lf (boot_o_7 P)) (lf o0)) (nd (boot_o_5 P) (lf (boot_o_9 P)) (lf o2))) (nd (boot_o_2 P) (nd (boot_o_4 P) (lf (boot_o_8 P)) (lf o1)) (nd (boot_o_6 P) (lf (boot_o_10 P)) (lf o3))))
def s0(w:World)(os:OsState):SharedT:=⟨t0 w.params,15,⟨[],[],[],0,[],[],false,#[],[],0,false,false,false,0,[2000,10,10],false,0,true,[],[],0,false⟩,#[],⟨0,0,0,0⟩,187,os⟩
theorem blk(w:World)(os:OsState):
  segRun treeTable pw w 11 an 1 1 (sA w os) (blockOf bi ev cd ⟨0,0,0,0⟩ bk) =
  some (.next,(s0 w os).abs,cd,⟨0,0,0,0⟩):=by kernel_rfl
def o4(P:Params):Obj:=di [(de P "__name__" 165 (.str "fivefields.errors" 194)),(de P "__doc__" 166 .none),(de P "__package__" 167 .none),(de P "__loader__" 168 (.builtin "__main__.__loader__#opaque")),(de P "__spec__" 169 .none),(de P "__annotations__" 170 (r 6)),(de P "__builtins__" 171 (r 4)),(de P "__file__" 173 (sf 172)),(de P "__cached__" 174 .none),(de P "_wall" 193 (r 21)),(de P "FieldError" 213 (r 31)),(de P "NoDay" 229 (r 44)),(de P "NoMoment" 245 (r 56)),(de P "NoField" 270 (r 75)),(de P "NoRow" 295 (r 94)),(de P "NoBook" 311 (r 106)),(de P "NoClock" 327 (r 118)),(de P "NoName" 352 (r 137))] 18
def o5:Obj:=fd [(i 1),(i 0),(r 20),(i 5),(i 0),(r 27),(i 7),(i 0),(r 40),(i 9),(i 0),(r 52),(i 11),(i 0),(r 64),(i 15),(i 0),(r 83),(i 19),(i 0),(r 102),(i 21),(i 0),(r 114),(i 23),(i 0),(r 126)]
def o6:Obj:=tu [(.str "k" 190)]
def o7:Obj:=fz "_wall" "_wall" (tp 0)
def o8:Obj:=co [(.str "_wall" 187),(.str "_wall" 188),(sf 189),(i 1),(i 1),(i 0),(i 0),(i 3),(r 15),(.bool true),(i 181),(r 16),.none,(r 17),(r 18),(r 19),(i 191),(i 1),(sf 192)]
def o9:Obj:=fn "_wall" "_wall" (tp 0) 3 [] .none .none .none (.str "__main__" 164) none (r 20) .none 0
def o10:Obj:=tu [(.type "ValueError")]
def o11:Obj:=⟨(.type "builtin_function_or_method"),none,(.fields #[(.builtin "type.__prepare__"),(.type "type")]),#[]⟩
def o12(P:Params):Obj:=di [(de P "__module__" 203 (.str "fivefields.errors" 194)),(de P "__qualname__" 205 (.str "FieldError" 204)),(de P "__firstlineno__" 207 (.int 5 206)),(de P "__static_attributes__" 208 (r 29))] 4
def o13:Obj:=co [(.str "FieldError" 198),(.str "FieldError" 199),(sf 200),(i 5),(i 0),(i 0),(i 0),(i 0),(r 25),(.bool false),(i 181),(r 26),.none,.none,.none,.none,(i 201),(i 5),(sf 202)]
def o14:Obj:=⟨(.type "frame"),none,.plain,#[(some (r 27)),(some (r 3)),(some (r 24)),none,(some (.str "fivefields.errors" 194)),none,(some (r 0))]⟩
def o15(P:Params):Obj:=di [(de P "__module__" 203 (.str "fivefields.errors" 194)),(de P "__firstlineno__" 207 (.int 5 206)),(de P "__static_attributes__" 208 (r 29)),(de P "__weakref__" 210 (r 32)),(de P "__doc__" 211 .none)] 3
def o16:Obj:=⟨(.type "type"),none,(.cls ⟨"FieldError",[(.type "ValueError")],[(r 31),(.type "ValueError"),(.type "Exception"),(.type "BaseException"),(.type "object")],30,"FieldError",true,[],[(r 44),(r 56),(r 75),(r 94),(r 106),(r 118),(r 137)],false,none,false⟩),#[(some (r 22)),none,(some (.str "FieldError" 196)),(some (.str "FieldError" 204)),(some (.builtin "ValueError.__new__")),(some (.bool true))]⟩
def o17:Obj:=⟨(.type "getset_descriptor"),none,(.fields #[(.str "__weakref__" 209),(r 31),(.builtin "ExceptionGroup.__weakref__"),.none]),#[]⟩
def o18:Obj:=⟨(.type "super"),none,(.fields #[(r 31),(r 31),(r 31)]),#[]⟩
def o19:Obj:=⟨(.type "builtin_function_or_method"),none,(.fields #[(.builtin "object.__init_subclass__"),(r 31)]),#[]⟩
def o20:Obj:=tu [(r 31)]
def o21(P:Params):Obj:=di [(de P "__module__" 221 (.str "fivefields.errors" 194)),(de P "__qualname__" 223 (.str "NoDay" 222)),(de P "__firstlineno__" 225 (.int 7 224)),(de P "__static_attributes__" 226 (r 42))] 4
def o22:Obj:=co [(.str "NoDay" 216),(.str "NoDay" 217),(sf 218),(i 7),(i 0),(i 0),(i 0),(i 0),(r 38),(.bool false),(i 181),(r 39),.none,.none,.none,.none,(i 219),(i 7),(sf 220)]
def o23:Obj:=⟨(.type "frame"),none,.plain,#[(some (r 40)),(some (r 3)),(some (r 37)),none,(some (.str "fivefields.errors" 194)),none,(some (r 0))]⟩
def o24(P:Params):Obj:=di [(de P "__module__" 221 (.str "fivefields.errors" 194)),(de P "__firstlineno__" 225 (.int 7 224)),(de P "__static_attributes__" 226 (r 42)),(de P "__doc__" 227 .none)] 2
def o25:Obj:=⟨(.type "type"),none,(.cls ⟨"NoDay",[(r 31)],[(r 44),(r 31),(.type "ValueError"),(.type "Exception"),(.type "BaseException"),(.type "object")],43,"NoDay",true,[],[],false,none,false⟩),#[(some (r 35)),none,(some (.str "NoDay" 214)),(some (.str "NoDay" 222)),(some (.builtin "ValueError.__new__")),(some (.bool true))]⟩
def o26:Obj:=⟨(.type "super"),none,(.fields #[(r 44),(r 44),(r 44)]),#[]⟩
def o27:Obj:=⟨(.type "builtin_function_or_method"),none,(.fields #[(.builtin "object.__init_subclass__"),(r 44)]),#[]⟩
def o28(P:Params):Obj:=di [(de P "__module__" 237 (.str "fivefields.errors" 194)),(de P "__qualname__" 239 (.str "NoMoment" 238)),(de P "__firstlineno__" 241 (.int 9 240)),(de P "__static_attributes__" 242 (r 54))] 4
def o29:Obj:=co [(.str "NoMoment" 232),(.str "NoMoment" 233),(sf 234),(i 9),(i 0),(i 0),(i 0),(i 0),(r 50),(.bool false),(i 181),(r 51),.none,.none,.none,.none,(i 235),(i 9),(sf 236)]
def o30:Obj:=⟨(.type "frame"),none,.plain,#[(some (r 52)),(some (r 3)),(some (r 49)),none,(some (.str "fivefields.errors" 194)),none,(some (r 0))]⟩
def o31(P:Params):Obj:=di [(de P "__module__" 237 (.str "fivefields.errors" 194)),(de P "__firstlineno__" 241 (.int 9 240)),(de P "__static_attributes__" 242 (r 54)),(de P "__doc__" 243 .none)] 2
def o32:Obj:=⟨(.type "type"),none,(.cls ⟨"NoMoment",[(r 31)],[(r 56),(r 31),(.type "ValueError"),(.type "Exception"),(.type "BaseException"),(.type "object")],55,"NoMoment",true,[],[],false,none,false⟩),#[(some (r 47)),none,(some (.str "NoMoment" 230)),(some (.str "NoMoment" 238)),(some (.builtin "ValueError.__new__")),(some (.bool true))]⟩
def o33:Obj:=⟨(.type "super"),none,(.fields #[(r 56),(r 56),(r 56)]),#[]⟩
def o34:Obj:=⟨(.type "builtin_function_or_method"),none,(.fields #[(.builtin "object.__init_subclass__"),(r 56)]),#[]⟩
def o35(P:Params):Obj:=di [(de P "__module__" 253 (.str "fivefields.errors" 194)),(de P "__qualname__" 255 (.str "NoField" 254)),(de P "__firstlineno__" 257 (.int 11 256)),(de P "__init__" 265 (r 72)),(de P "__static_attributes__" 267 (r 73))] 5
def o36:Obj:=fd [(i 13),(i 4),(r 71)]
def o37:Obj:=co [(.str "NoField" 248),(.str "NoField" 249),(sf 250),(i 11),(i 0),(i 0),(i 0),(i 0),(r 62),(.bool false),(i 181),(r 63),.none,.none,.none,.none,(i 251),(i 11),(sf 252)]
def o38:Obj:=⟨(.type "frame"),none,.plain,#[(some (r 64)),(some (r 3)),(some (r 61)),none,(some (.str "fivefields.errors" 194)),none,(some (r 0))]⟩
def o39:Obj:=tu [(.str "self" 261),(.str "at" 262)]
def o40:Obj:=fz "__init__" "NoField.__init__" (ib (tp 5) 0)
def o41:Obj:=co [(.str "__init__" 258),(.str "NoField.__init__" 259),(sf 260),(i 13),(i 2),(i 0),(i 0),(i 3),(r 66),(.bool true),(i 181),(r 67),.none,(r 68),(r 69),(r 70),(i 263),(i 13),(sf 264)]
def o42:Obj:=fn "__init__" "NoField.__init__" (ib (tp 5) 0) 3 [] .none .none .none (.str "fivefields.errors" 194) none (r 71) .none 0
def o43:Obj:=tu [(.str "at" 266)]
def o44(P:Params):Obj:=di [(de P "__module__" 253 (.str "fivefields.errors" 194)),(de P "__firstlineno__" 257 (.int 11 256)),(de P "__init__" 265 (r 72)),(de P "__static_attributes__" 267 (r 73)),(de P "__doc__" 268 .none)] 2
def o45:Obj:=⟨(.type "type"),none,(.cls ⟨"NoField",[(r 31)],[(r 75),(r 31),(.type "ValueError"),(.type "Exception"),(.type "BaseException"),(.type "object")],74,"NoField",true,[],[],false,none,false⟩),#[(some (r 59)),none,(some (.str "NoField" 246)),(some (.str "NoField" 254)),(some (.builtin "ValueError.__new__")),(some (.bool true))]⟩
def o46:Obj:=⟨(.type "super"),none,(.fields #[(r 75),(r 75),(r 75)]),#[]⟩
def o47:Obj:=⟨(.type "builtin_function_or_method"),none,(.fields #[(.builtin "object.__init_subclass__"),(r 75)]),#[]⟩
def o48(P:Params):Obj:=di [(de P "__module__" 278 (.str "fivefields.errors" 194)),(de P "__qualname__" 280 (.str "NoRow" 279)),(de P "__firstlineno__" 282 (.int 15 281)),(de P "__init__" 290 (r 91)),(de P "__static_attributes__" 292 (r 92))] 5
def o49:Obj:=fd [(i 17),(i 4),(r 90)]
def o50:Obj:=co [(.str "NoRow" 273),(.str "NoRow" 274),(sf 275),(i 15),(i 0),(i 0),(i 0),(i 0),(r 81),(.bool false),(i 181),(r 82),.none,.none,.none,.none,(i 276),(i 15),(sf 277)]
def o51:Obj:=⟨(.type "frame"),none,.plain,#[(some (r 83)),(some (r 3)),(some (r 80)),none,(some (.str "fivefields.errors" 194)),none,(some (r 0))]⟩
def o52:Obj:=tu [(.str "self" 286),(.str "place" 287)]
def o53:Obj:=fz "__init__" "NoRow.__init__" (ib (tp 6) 0)
def o54:Obj:=co [(.str "__init__" 283),(.str "NoRow.__init__" 284),(sf 285),(i 17),(i 2),(i 0),(i 0),(i 3),(r 85),(.bool true),(i 181),(r 86),.none,(r 87),(r 88),(r 89),(i 288),(i 17),(sf 289)]
def o55:Obj:=fn "__init__" "NoRow.__init__" (ib (tp 6) 0) 3 [] .none .none .none (.str "fivefields.errors" 194) none (r 90) .none 0
def o56:Obj:=tu [(.str "place" 291)]
def o57(P:Params):Obj:=di [(de P "__module__" 278 (.str "fivefields.errors" 194)),(de P "__firstlineno__" 282 (.int 15 281)),(de P "__init__" 290 (r 91)),(de P "__static_attributes__" 292 (r 92)),(de P "__doc__" 293 .none)] 2
def o58:Obj:=⟨(.type "type"),none,(.cls ⟨"NoRow",[(r 31)],[(r 94),(r 31),(.type "ValueError"),(.type "Exception"),(.type "BaseException"),(.type "object")],93,"NoRow",true,[],[],false,none,false⟩),#[(some (r 78)),none,(some (.str "NoRow" 271)),(some (.str "NoRow" 279)),(some (.builtin "ValueError.__new__")),(some (.bool true))]⟩
def o59:Obj:=⟨(.type "super"),none,(.fields #[(r 94),(r 94),(r 94)]),#[]⟩
def o60:Obj:=⟨(.type "builtin_function_or_method"),none,(.fields #[(.builtin "object.__init_subclass__"),(r 94)]),#[]⟩
def o61(P:Params):Obj:=di [(de P "__module__" 303 (.str "fivefields.errors" 194)),(de P "__qualname__" 305 (.str "NoBook" 304)),(de P "__firstlineno__" 307 (.int 19 306)),(de P "__static_attributes__" 308 (r 104))] 4
def o62:Obj:=co [(.str "NoBook" 298),(.str "NoBook" 299),(sf 300),(i 19),(i 0),(i 0),(i 0),(i 0),(r 100),(.bool false),(i 181),(r 101),.none,.none,.none,.none,(i 301),(i 19),(sf 302)]
def o63:Obj:=⟨(.type "frame"),none,.plain,#[(some (r 102)),(some (r 3)),(some (r 99)),none,(some (.str "fivefields.errors" 194)),none,(some (r 0))]⟩
def o64(P:Params):Obj:=di [(de P "__module__" 303 (.str "fivefields.errors" 194)),(de P "__firstlineno__" 307 (.int 19 306)),(de P "__static_attributes__" 308 (r 104)),(de P "__doc__" 309 .none)] 2
def o65:Obj:=⟨(.type "type"),none,(.cls ⟨"NoBook",[(r 31)],[(r 106),(r 31),(.type "ValueError"),(.type "Exception"),(.type "BaseException"),(.type "object")],105,"NoBook",true,[],[],false,none,false⟩),#[(some (r 97)),none,(some (.str "NoBook" 296)),(some (.str "NoBook" 304)),(some (.builtin "ValueError.__new__")),(some (.bool true))]⟩
def o66:Obj:=⟨(.type "super"),none,(.fields #[(r 106),(r 106),(r 106)]),#[]⟩
def o67:Obj:=⟨(.type "builtin_function_or_method"),none,(.fields #[(.builtin "object.__init_subclass__"),(r 106)]),#[]⟩
def o68(P:Params):Obj:=di [(de P "__module__" 319 (.str "fivefields.errors" 194)),(de P "__qualname__" 321 (.str "NoClock" 320)),(de P "__firstlineno__" 323 (.int 21 322)),(de P "__static_attributes__" 324 (r 116))] 4
def o69:Obj:=co [(.str "NoClock" 314),(.str "NoClock" 315),(sf 316),(i 21),(i 0),(i 0),(i 0),(i 0),(r 112),(.bool false),(i 181),(r 113),.none,.none,.none,.none,(i 317),(i 21),(sf 318)]
def o70:Obj:=⟨(.type "frame"),none,.plain,#[(some (r 114)),(some (r 3)),(some (r 111)),none,(some (.str "fivefields.errors" 194)),none,(some (r 0))]⟩
def o71(P:Params):Obj:=di [(de P "__module__" 319 (.str "fivefields.errors" 194)),(de P "__firstlineno__" 323 (.int 21 322)),(de P "__static_attributes__" 324 (r 116)),(de P "__doc__" 325 .none)] 2
def o72:Obj:=⟨(.type "type"),none,(.cls ⟨"NoClock",[(r 31)],[(r 118),(r 31),(.type "ValueError"),(.type "Exception"),(.type "BaseException"),(.type "object")],117,"NoClock",true,[],[],false,none,false⟩),#[(some (r 109)),none,(some (.str "NoClock" 312)),(some (.str "NoClock" 320)),(some (.builtin "ValueError.__new__")),(some (.bool true))]⟩
def o73:Obj:=⟨(.type "super"),none,(.fields #[(r 118),(r 118),(r 118)]),#[]⟩
def o74:Obj:=⟨(.type "builtin_function_or_method"),none,(.fields #[(.builtin "object.__init_subclass__"),(r 118)]),#[]⟩
def o75(P:Params):Obj:=di [(de P "__module__" 335 (.str "fivefields.errors" 194)),(de P "__qualname__" 337 (.str "NoName" 336)),(de P "__firstlineno__" 339 (.int 23 338)),(de P "__init__" 347 (r 134)),(de P "__static_attributes__" 349 (r 135))] 5
def o76:Obj:=fd [(i 25),(i 4),(r 133)]
def o77:Obj:=co [(.str "NoName" 330),(.str "NoName" 331),(sf 332),(i 23),(i 0),(i 0),(i 0),(i 0),(r 124),(.bool false),(i 181),(r 125),.none,.none,.none,.none,(i 333),(i 23),(sf 334)]
def o78:Obj:=⟨(.type "frame"),none,.plain,#[(some (r 126)),(some (r 3)),(some (r 123)),none,(some (.str "fivefields.errors" 194)),none,(some (r 0))]⟩
def o79:Obj:=tu [(.str "self" 343),(.str "name" 344)]
def o80:Obj:=fz "__init__" "NoName.__init__" (ib (tp 9) 0)
def o81:Obj:=co [(.str "__init__" 340),(.str "NoName.__init__" 341),(sf 342),(i 25),(i 2),(i 0),(i 0),(i 3),(r 128),(.bool true),(i 181),(r 129),.none,(r 130),(r 131),(r 132),(i 345),(i 25),(sf 346)]
def o82:Obj:=fn "__init__" "NoName.__init__" (ib (tp 9) 0) 3 [] .none .none .none (.str "fivefields.errors" 194) none (r 133) .none 0
def o83:Obj:=tu [(.str "name" 348)]
def o84(P:Params):Obj:=di [(de P "__module__" 335 (.str "fivefields.errors" 194)),(de P "__firstlineno__" 339 (.int 23 338)),(de P "__init__" 347 (r 134)),(de P "__static_attributes__" 349 (r 135)),(de P "__doc__" 350 .none)] 2
def o85:Obj:=⟨(.type "type"),none,(.cls ⟨"NoName",[(r 31)],[(r 137),(r 31),(.type "ValueError"),(.type "Exception"),(.type "BaseException"),(.type "object")],136,"NoName",true,[],[],false,none,false⟩),#[(some (r 121)),none,(some (.str "NoName" 328)),(some (.str "NoName" 336)),(some (.builtin "ValueError.__new__")),(some (.bool true))]⟩
def o86:Obj:=⟨(.type "super"),none,(.fields #[(r 137),(r 137),(r 137)]),#[]⟩
def o87:Obj:=⟨(.type "builtin_function_or_method"),none,(.fields #[(.builtin "object.__init_subclass__"),(r 137)]),#[]⟩
def t1(P:Params):BT:=(nd (boot_o_0 P) (nd (boot_o_1 P) (nd (o4 P) (nd (boot_o_7 P) (nd o0 (nd o16 (nd o36 (lf o78) .nil) (lf o59)) (nd o20 (lf o11) (lf (o68 P)))) (nd o11 (nd o1 (nd o41 (lf o83) .nil) (lf o63)) (nd (o31 P) (lf o52) (lf o73)))) (nd o0 (nd o7 (nd o20 (nd o1 (lf o0) .nil) (lf (o61 P))) (nd o1 (lf o50) (lf o70))) (nd o13 (nd (o24 P) (nd o45 (lf o87) .nil) (lf o66)) (nd o20 (lf o55) (lf (o75 P)))))) (nd (boot_o_5 P) (nd (boot_o_9 P) (nd o6 (nd o18 (nd o38 (lf o1) .nil) (lf o20)) (nd (o28 P) (lf o0) (lf o1))) (nd o0 (nd o23 (nd o43 (lf o85) .nil) (lf (o64 P))) (nd o33 (lf o53) (lf o20)))) (nd o2 (nd o9 (nd (o21 P) (nd o0 (lf o81) .nil) (lf o1)) (nd o30 (lf o0) (lf (o71 P)))) (nd o0 (nd o26 (lf o47) (lf o20)) (nd (o35 P) (lf (o57 P)) (lf o76)))))) (nd (boot_o_2 P) (nd (boot_o_4 P) (nd (boot_o_8 P) (nd o1 (nd o17 (nd o37 (lf o0) .nil) (lf o60)) (nd o11 (lf (o48 P)) (lf o0))) (nd (o12 P) (nd o22 (nd o42 (lf (o84 P)) .nil) (lf o0)) (nd o32 (lf o0) (lf o74)))) (nd o5 (nd o8 (nd o11 (nd o39 (lf o80) .nil) (lf o0)) (nd o29 (lf o51) (lf o0))) (nd o14 (nd o25 (lf o46) (lf o67)) (nd o11 (lf o56) (lf o0))))) (nd (boot_o_6 P) (nd (boot_o_10 P) (nd o0 (nd o19 (nd o0 (lf o79) .nil) (lf o11)) (nd o0 (lf o49) (lf o69))) (nd o1 (nd o0 (nd (o44 P) (lf o86) .nil) (lf o65)) (nd o34 (lf o54) (lf o11)))) (nd o3 (nd o10 (nd o0 (nd o40 (lf o82) .nil) (lf o62)) (nd o0 (lf o1) (lf o72))) (nd (o15 P) (nd o27 (lf o20) (lf o11)) (nd o0 (lf o58) (lf o77)))))))
def s1(w:World)(os:OsState):SharedT:=⟨t1 w.params,140,⟨[],[],[],0,[],[],false,#[],[],0,false,false,false,0,[2000,10,10],false,0,true,[],[],0,false⟩,#[],⟨0,0,0,0⟩,353,os⟩
def l0:List Stmt:=(bi.drop 0).take 10
theorem r0(w:World)(os:OsState):
  segRunT treeTable pw w 11 an 1 1812 (s0 w os) (piecesOf l0 ev cd ⟨0,0,0,0⟩ bk) =
  some (.next,s1 w os,cd,⟨23,0,26,24⟩):=by kernel_rfl
def o88(P:Params):Obj:=di [(de P "__name__" 165 (.str "fivefields.marks" 517)),(de P "__doc__" 166 .none),(de P "__package__" 167 .none),(de P "__loader__" 168 (.builtin "__main__.__loader__#opaque")),(de P "__spec__" 169 .none),(de P "__annotations__" 170 (r 6)),(de P "__builtins__" 171 (r 4)),(de P "__file__" 173 (sf 172)),(de P "__cached__" 174 .none),(de P "_wall" 193 (r 21)),(de P "FieldError" 213 (r 31)),(de P "NoDay" 229 (r 44)),(de P "NoMoment" 245 (r 56)),(de P "NoField" 270 (r 75)),(de P "NoRow" 295 (r 94)),(de P "NoBook" 311 (r 106)),(de P "NoClock" 327 (r 118)),(de P "NoName" 352 (r 137)),(de P "NoWord" 368 (r 149)),(de P "FIGURES" 372 (.str "0123456789" 371)),(de P "all_figures" 378 (r 156)),(de P "is_written" 385 (r 163)),(de P "has" 395 (r 170)),(de P "starts_of" 401 (r 175)),(de P "end_from" 410 (r 182)),(de P "ranges_of" 416 (r 187)),(de P "shown_range" 424 (r 194)),(de P "shown_ranges" 430 (r 199)),(de P "MOST_SIGNS" 434 (.int 300 433)),(de P "MOST_ITEMS" 436 (.int 40 435)),(de P "MOST_STRIDE" 438 (.int 99 437)),(de P "mask_of" 447 (r 206)),(de P "numbers_in" 453 (r 211)),(de P "run_mask" 462 (r 218)),(de P "read_number" 472 (r 225)),(de P "read_run" 478 (r 230)),(de P "read_strided" 491 (r 237)),(de P "read_item" 502 (r 244)),(de P "read_field" 516 (r 251)),(de P "MOST_MARKS" 520 (.int 20 519)),(de P "MOST_DAY" 522 (.int 31 521)),(de P "MOST_BACK" 524 (.int 30 523)),(de P "MOST_NTH" 526 (.int 5 525)),(de P "SUNDAY" 528 (.int 0 527)),(de P "SATURDAY" 530 (.int 6 529)),(de P "SUNDAY_TOO" 532 (.int 7 531)),(de P "ALL_WEEKDAYS" 534 (.int 127 533)),(de P "weekday_at" 542 (r 258)),(de P "all_days" 549 (r 265)),(de P "nearest_work" 559 (r 272)),(de P "first_one" 567 (r 279)),(de P "Mark" 603 (r 303)),(de P "Numbers" 644 (r 338)),(de P "Last" 686 (r 372))] 54
def o89:Obj:=fd [(i 1),(i 0),(r 20),(i 5),(i 0),(r 27),(i 7),(i 0),(r 40),(i 9),(i 0),(r 52),(i 11),(i 0),(r 64),(i 15),(i 0),(r 83),(i 19),(i 0),(r 102),(i 21),(i 0),(r 114),(i 23),(i 0),(r 126),(i 27),(i 0),(r 145),(i 31),(i 0),(r 155),(i 33),(i 0),(r 162),(i 36),(i 0),(r 169),(i 38),(i 0),(r 174),(i 41),(i 0),(r 181),(i 46),(i 0),(r 186),(i 48),(i 0),(r 193),(i 52),(i 0),(r 198),(i 58),(i 0),(r 205),(i 63),(i 0),(r 210),(i 65),(i 0),(r 217),(i 67),(i 0),(r 224),(i 74),(i 0),(r 229),(i 81),(i 0),(r 236),(i 88),(i 0),(r 243),(i 96),(i 0),(r 250),(i 118),(i 0),(r 257),(i 120),(i 0),(r 264),(i 122),(i 0),(r 271),(i 129),(i 0),(r 278),(i 131),(i 0),(r 285),(i 138),(i 0),(r 313),(i 148),(i 0),(r 346)]
def o90:Obj:=⟨(.type "type"),none,(.cls ⟨"FieldError",[(.type "ValueError")],[(r 31),(.type "ValueError"),(.type "Exception"),(.type "BaseException"),(.type "object")],30,"FieldError",true,[],[(r 44),(r 56),(r 75),(r 94),(r 106),(r 118),(r 137),(r 149)],false,none,false⟩),#[(some (r 22)),none,(some (.str "FieldError" 196)),(some (.str "FieldError" 204)),(some (.builtin "ValueError.__new__")),(some (.bool true))]⟩
def o91(P:Params):Obj:=di [(de P "__module__" 360 (.str "fivefields.errors" 194)),(de P "__qualname__" 362 (.str "NoWord" 361)),(de P "__firstlineno__" 364 (.int 27 363)),(de P "__static_attributes__" 365 (r 147))] 4
def o92:Obj:=co [(.str "NoWord" 355),(.str "NoWord" 356),(sf 357),(i 27),(i 0),(i 0),(i 0),(i 0),(r 143),(.bool false),(i 181),(r 144),.none,.none,.none,.none,(i 358),(i 27),(sf 359)]
def o93:Obj:=⟨(.type "frame"),none,.plain,#[(some (r 145)),(some (r 3)),(some (r 142)),none,(some (.str "fivefields.errors" 194)),none,(some (r 0))]⟩
def o94(P:Params):Obj:=di [(de P "__module__" 360 (.str "fivefields.errors" 194)),(de P "__firstlineno__" 364 (.int 27 363)),(de P "__static_attributes__" 365 (r 147)),(de P "__doc__" 366 .none)] 2
def o95:Obj:=⟨(.type "type"),none,(.cls ⟨"NoWord",[(r 31)],[(r 149),(r 31),(.type "ValueError"),(.type "Exception"),(.type "BaseException"),(.type "object")],148,"NoWord",true,[],[],false,none,false⟩),#[(some (r 140)),none,(some (.str "NoWord" 353)),(some (.str "NoWord" 361)),(some (.builtin "ValueError.__new__")),(some (.bool true))]⟩
def o96:Obj:=⟨(.type "super"),none,(.fields #[(r 149),(r 149),(r 149)]),#[]⟩
def o97:Obj:=⟨(.type "builtin_function_or_method"),none,(.fields #[(.builtin "object.__init_subclass__"),(r 149)]),#[]⟩
def o98:Obj:=fz "all_figures" "all_figures" (tp 13)
def o99:Obj:=co [(.str "all_figures" 373),(.str "all_figures" 374),(sf 375),(i 31),(i 1),(i 0),(i 0),(i 3),(r 152),(.bool true),(i 181),(r 153),.none,.none,.none,(r 154),(i 376),(i 31),(sf 377)]
def atB:Obj:=fn "all_figures" "all_figures" (tp 13) 3 [] .none .none .none (.str "fivefields.figures" 369) none (r 155) .none 0
def asI:Obj:=tu [(.str "text" 382)]
def aw6:Obj:=fz "is_written" "is_written" (tp 14)
def as6:Obj:=co [(.str "is_written" 379),(.str "is_written" 380),(sf 381),(i 33),(i 1),(i 0),(i 0),(i 3),(r 157),(.bool true),(i 181),(r 158),.none,(r 159),(r 160),(r 161),(i 383),(i 33),(sf 384)]
def axC:Obj:=fn "is_written" "is_written" (tp 14) 3 [] .none .none .none (.str "fivefields.figures" 369) none (r 162) .none 0
def at8:Obj:=tu [(.str "mask" 391),(.str "number" 392)]
def av4:Obj:=fz "has" "has" (tp 16)
def au8:Obj:=co [(.str "has" 388),(.str "has" 389),(sf 390),(i 36),(i 2),(i 0),(i 0),(i 3),(r 164),(.bool true),(i 181),(r 165),.none,(r 166),(r 167),(r 168),(i 393),(i 36),(sf 394)]
def avQ:Obj:=fn "has" "has" (tp 16) 3 [] .none .none .none (.str "fivefields.ranges" 386) none (r 169) .none 0
def as3:Obj:=fz "starts_of" "starts_of" (tp 17)
def avY:Obj:=co [(.str "starts_of" 396),(.str "starts_of" 397),(sf 398),(i 38),(i 1),(i 0),(i 0),(i 3),(r 171),(.bool true),(i 181),(r 172),.none,.none,.none,(r 173),(i 399),(i 38),(sf 400)]
def aw5:Obj:=fn "starts_of" "starts_of" (tp 17) 3 [] .none .none .none (.str "fivefields.ranges" 386) none (r 174) .none 0
def avX:Obj:=tu [(.str "mask" 405),(.str "start" 406),(.str "end" 407)]
def at9:Obj:=fz "end_from" "end_from" (tp 18)
def av8:Obj:=co [(.str "end_from" 402),(.str "end_from" 403),(sf 404),(i 41),(i 2),(i 0),(i 0),(i 3),(r 176),(.bool true),(i 181),(r 177),.none,(r 178),(r 179),(r 180),(i 408),(i 41),(sf 409)]
def avC:Obj:=fn "end_from" "end_from" (tp 18) 3 [] .none .none .none (.str "fivefields.ranges" 386) none (r 181) .none 0
def auK:Obj:=fz "ranges_of" "ranges_of" (tp 19)
def atP:Obj:=co [(.str "ranges_of" 411),(.str "ranges_of" 412),(sf 413),(i 46),(i 1),(i 0),(i 0),(i 3),(r 183),(.bool true),(i 181),(r 184),.none,.none,.none,(r 185),(i 414),(i 46),(sf 415)]
def asN:Obj:=fn "ranges_of" "ranges_of" (tp 19) 3 [] .none .none .none (.str "fivefields.ranges" 386) none (r 186) .none 0
def ar6:Obj:=tu [(.str "first" 420),(.str "last" 421)]
def av3:Obj:=fz "shown_range" "shown_range" (tp 20)
def aw7:Obj:=co [(.str "shown_range" 417),(.str "shown_range" 418),(sf 419),(i 48),(i 2),(i 0),(i 0),(i 3),(r 188),(.bool true),(i 181),(r 189),.none,(r 190),(r 191),(r 192),(i 422),(i 48),(sf 423)]
def au2:Obj:=fn "shown_range" "shown_range" (tp 20) 3 [] .none .none .none (.str "fivefields.ranges" 386) none (r 193) .none 0
def awP:Obj:=fz "shown_ranges" "shown_ranges" (tp 21)
def auT:Obj:=co [(.str "shown_ranges" 425),(.str "shown_ranges" 426),(sf 427),(i 52),(i 1),(i 0),(i 0),(i 3),(r 195),(.bool true),(i 181),(r 196),.none,.none,.none,(r 197),(i 428),(i 52),(sf 429)]
def asW:Obj:=fn "shown_ranges" "shown_ranges" (tp 21) 3 [] .none .none .none (.str "fivefields.ranges" 386) none (r 198) .none 0
def awL:Obj:=tu [(.str "numbers" 442),(.str "mask" 443),(.str "number" 444)]
def awV:Obj:=fz "mask_of" "mask_of" (tp 26)
def avR:Obj:=co [(.str "mask_of" 439),(.str "mask_of" 440),(sf 441),(i 58),(i 1),(i 0),(i 0),(i 3),(r 200),(.bool true),(i 181),(r 201),.none,(r 202),(r 203),(r 204),(i 445),(i 58),(sf 446)]
def ar1:Obj:=fn "mask_of" "mask_of" (tp 26) 3 [] .none .none .none (.str "fivefields.fields" 431) none (r 205) .none 0
def as5:Obj:=fz "numbers_in" "numbers_in" (tp 27)
def asH:Obj:=co [(.str "numbers_in" 448),(.str "numbers_in" 449),(sf 450),(i 63),(i 1),(i 0),(i 0),(i 3),(r 207),(.bool true),(i 181),(r 208),.none,.none,.none,(r 209),(i 451),(i 63),(sf 452)]
def auM:Obj:=fn "numbers_in" "numbers_in" (tp 27) 3 [] .none .none .none (.str "fivefields.fields" 431) none (r 210) .none 0
def atF:Obj:=tu [(.str "first" 457),(.str "last" 458),(.str "stride" 459)]
def atK:Obj:=fz "run_mask" "run_mask" (tp 28)
def au5:Obj:=co [(.str "run_mask" 454),(.str "run_mask" 455),(sf 456),(i 65),(i 3),(i 0),(i 0),(i 3),(r 212),(.bool true),(i 181),(r 213),.none,(r 214),(r 215),(r 216),(i 460),(i 65),(sf 461)]
def ar9:Obj:=fn "run_mask" "run_mask" (tp 28) 3 [] .none .none .none (.str "fivefields.fields" 431) none (r 217) .none 0
def avF:Obj:=tu [(.str "text" 466),(.str "low" 467),(.str "high" 468),(.str "number" 469)]
def at4:Obj:=fz "read_number" "read_number" (tp 29)
def avG:Obj:=co [(.str "read_number" 463),(.str "read_number" 464),(sf 465),(i 67),(i 3),(i 0),(i 0),(i 3),(r 219),(.bool true),(i 181),(r 220),.none,(r 221),(r 222),(r 223),(i 470),(i 67),(sf 471)]
def auZ:Obj:=fn "read_number" "read_number" (tp 29) 3 [] .none .none .none (.str "fivefields.fields" 431) none (r 224) .none 0
def auH:Obj:=fz "read_run" "read_run" (tp 30)
def avZ:Obj:=co [(.str "read_run" 473),(.str "read_run" 474),(sf 475),(i 74),(i 3),(i 0),(i 0),(i 3),(r 226),(.bool true),(i 181),(r 227),.none,.none,.none,(r 228),(i 476),(i 74),(sf 477)]
def aw8:Obj:=fn "read_run" "read_run" (tp 30) 3 [] .none .none .none (.str "fivefields.fields" 431) none (r 229) .none 0
def atC:Obj:=tu [(.str "run_text" 482),(.str "stride_text" 483),(.str "low" 484),(.str "high" 485),(.str "run" 486),(.str "stride" 487),(.str "last" 488)]
def au9:Obj:=fz "read_strided" "read_strided" (tp 31)
def avU:Obj:=co [(.str "read_strided" 479),(.str "read_strided" 480),(sf 481),(i 81),(i 4),(i 0),(i 0),(i 3),(r 231),(.bool true),(i 181),(r 232),.none,(r 233),(r 234),(r 235),(i 489),(i 81),(sf 490)]
def au7:Obj:=fn "read_strided" "read_strided" (tp 31) 3 [] .none .none .none (.str "fivefields.fields" 431) none (r 236) .none 0
def avB:Obj:=tu [(.str "item" 495),(.str "low" 496),(.str "high" 497),(.str "parts" 498),(.str "run" 499)]
def awK:Obj:=fz "read_item" "read_item" (tp 32)
def asJ:Obj:=co [(.str "read_item" 492),(.str "read_item" 493),(sf 494),(i 88),(i 3),(i 0),(i 0),(i 3),(r 238),(.bool true),(i 181),(r 239),.none,(r 240),(r 241),(r 242),(i 500),(i 88),(sf 501)]
def avT:Obj:=fn "read_item" "read_item" (tp 32) 3 [] .none .none .none (.str "fivefields.fields" 431) none (r 243) .none 0
def avS:Obj:=tu [(.str "text" 506),(.str "low" 507),(.str "high" 508),(.str "items" 509),(.str "mask" 510),(.str "place" 511),(.str "item" 512),(.str "told" 513)]
def atM:Obj:=fz "read_field" "read_field" (tp 33)
def auD:Obj:=co [(.str "read_field" 503),(.str "read_field" 504),(sf 505),(i 96),(i 3),(i 0),(i 0),(i 3),(r 245),(.bool true),(i 181),(r 246),.none,(r 247),(r 248),(r 249),(i 514),(i 96),(sf 515)]
def atJ:Obj:=fn "read_field" "read_field" (tp 33) 3 [] .none .none .none (.str "fivefields.fields" 431) none (r 250) .none 0
def axE:Obj:=tu [(.str "day" 538),(.str "first" 539)]
def at5:Obj:=fz "weekday_at" "weekday_at" (tp 43)
def awC:Obj:=co [(.str "weekday_at" 535),(.str "weekday_at" 536),(sf 537),(i 118),(i 2),(i 0),(i 0),(i 3),(r 252),(.bool true),(i 181),(r 253),.none,(r 254),(r 255),(r 256),(i 540),(i 118),(sf 541)]
def avH:Obj:=fn "weekday_at" "weekday_at" (tp 43) 3 [] .none .none .none (.str "fivefields.marks" 517) none (r 257) .none 0
def avV:Obj:=tu [(.str "last" 546)]
def asM:Obj:=fz "all_days" "all_days" (tp 44)
def asU:Obj:=co [(.str "all_days" 543),(.str "all_days" 544),(sf 545),(i 120),(i 1),(i 0),(i 0),(i 3),(r 259),(.bool true),(i 181),(r 260),.none,(r 261),(r 262),(r 263),(i 547),(i 120),(sf 548)]
def auF:Obj:=fn "all_days" "all_days" (tp 44) 3 [] .none .none .none (.str "fivefields.marks" 517) none (r 264) .none 0
def asV:Obj:=tu [(.str "day" 553),(.str "last" 554),(.str "first" 555),(.str "of_week" 556)]
def au3:Obj:=fz "nearest_work" "nearest_work" (tp 45)
def ar4:Obj:=co [(.str "nearest_work" 550),(.str "nearest_work" 551),(sf 552),(i 122),(i 3),(i 0),(i 0),(i 3),(r 266),(.bool true),(i 181),(r 267),.none,(r 268),(r 269),(r 270),(i 557),(i 122),(sf 558)]
def av0:Obj:=fn "nearest_work" "nearest_work" (tp 45) 3 [] .none .none .none (.str "fivefields.marks" 517) none (r 271) .none 0
def axB:Obj:=tu [(.str "weekday" 563),(.str "first" 564)]
def auN:Obj:=fz "first_one" "first_one" (tp 46)
def awH:Obj:=co [(.str "first_one" 560),(.str "first_one" 561),(sf 562),(i 129),(i 2),(i 0),(i 0),(i 3),(r 273),(.bool true),(i 181),(r 274),.none,(r 275),(r 276),(r 277),(i 565),(i 129),(sf 566)]
def ar2:Obj:=fn "first_one" "first_one" (tp 46) 3 [] .none .none .none (.str "fivefields.marks" 517) none (r 278) .none 0
def awQ(P:Params):Obj:=di [(de P "__module__" 575 (.str "fivefields.marks" 517)),(de P "__qualname__" 577 (.str "Mark" 576)),(de P "__firstlineno__" 579 (.int 131 578)),(de P "days" 588 (r 293)),(de P "told" 595 (r 300)),(de P "__static_attributes__" 596 (r 301))] 6
def awA:Obj:=fd [(i 133),(i 4),(r 292),(i 136),(i 4),(r 299)]
def aw3:Obj:=co [(.str "Mark" 570),(.str "Mark" 571),(sf 572),(i 131),(i 0),(i 0),(i 0),(i 0),(r 283),(.bool false),(i 181),(r 284),.none,.none,.none,.none,(i 573),(i 131),(sf 574)]
def asK:Obj:=⟨(.type "frame"),none,.plain,#[(some (r 285)),(some (r 3)),(some (r 282)),none,(some (.str "fivefields.marks" 517)),none,(some (r 0))]⟩
def awO:Obj:=tu [(.str "self" 583),(.str "last" 584),(.str "first" 585)]
def avK:Obj:=fz "days" "Mark.days" (ib (tp 47) 0)
def ar0:Obj:=co [(.str "days" 580),(.str "Mark.days" 581),(sf 582),(i 133),(i 3),(i 0),(i 0),(i 3),(r 287),(.bool true),(i 181),(r 288),.none,(r 289),(r 290),(r 291),(i 586),(i 133),(sf 587)]
def awM:Obj:=fn "days" "Mark.days" (ib (tp 47) 0) 3 [] .none .none .none (.str "fivefields.marks" 517) none (r 292) .none 0
def avW:Obj:=tu [(.str "self" 592)]
def at0:Obj:=fz "told" "Mark.told" (ib (tp 47) 1)
def atG:Obj:=co [(.str "told" 589),(.str "Mark.told" 590),(sf 591),(i 136),(i 1),(i 0),(i 0),(i 3),(r 294),(.bool true),(i 181),(r 295),.none,(r 296),(r 297),(r 298),(i 593),(i 136),(sf 594)]
def awR:Obj:=fn "told" "Mark.told" (ib (tp 47) 1) 3 [] .none .none .none (.str "fivefields.marks" 517) none (r 299) .none 0
def auU(P:Params):Obj:=di [(de P "__module__" 575 (.str "fivefields.marks" 517)),(de P "__firstlineno__" 579 (.int 131 578)),(de P "days" 588 (r 293)),(de P "told" 595 (r 300)),(de P "__static_attributes__" 596 (r 301)),(de P "__dict__" 598 (r 304)),(de P "__weakref__" 600 (r 305)),(de P "__doc__" 601 .none)] 4
def o185:Obj:=⟨(.type "type"),none,(.cls ⟨"Mark",[(.type "object")],[(r 303),(.type "object")],302,"Mark",true,[],[(r 338),(r 372)],false,none,false⟩),#[none,none,(some (.str "Mark" 568)),(some (.str "Mark" 576)),(some (.builtin "object.__new__")),(some (.bool true))]⟩
def avJ:Obj:=⟨(.type "getset_descriptor"),none,(.fields #[(.str "__dict__" 597),(r 303),(.builtin "function.__dict__"),(.builtin "function.__dict__#set")]),#[]⟩
def axD:Obj:=⟨(.type "getset_descriptor"),none,(.fields #[(.str "__weakref__" 599),(r 303),(.builtin "ExceptionGroup.__weakref__"),.none]),#[]⟩
def as8:Obj:=⟨(.type "super"),none,(.fields #[(r 303),(r 303),(r 303)]),#[]⟩
def auV:Obj:=⟨(.type "builtin_function_or_method"),none,(.fields #[(.builtin "object.__init_subclass__"),(r 303)]),#[]⟩
def ab6:Obj:=tu [(r 303)]
def awU(P:Params):Obj:=di [(de P "__module__" 611 (.str "fivefields.marks" 517)),(de P "__qualname__" 613 (.str "Numbers" 612)),(de P "__firstlineno__" 615 (.int 138 614)),(de P "__init__" 623 (r 321)),(de P "days" 632 (r 328)),(de P "told" 639 (r 335)),(de P "__static_attributes__" 641 (r 336))] 7
def as0:Obj:=fd [(i 140),(i 4),(r 320),(i 143),(i 4),(r 327),(i 146),(i 4),(r 334)]
def aw0:Obj:=co [(.str "Numbers" 606),(.str "Numbers" 607),(sf 608),(i 138),(i 0),(i 0),(i 0),(i 0),(r 311),(.bool false),(i 181),(r 312),.none,.none,.none,.none,(i 609),(i 138),(sf 610)]
def awZ:Obj:=⟨(.type "frame"),none,.plain,#[(some (r 313)),(some (r 3)),(some (r 310)),none,(some (.str "fivefields.marks" 517)),none,(some (r 0))]⟩
def av6:Obj:=tu [(.str "self" 619),(.str "mask" 620)]
def arX:Obj:=fz "__init__" "Numbers.__init__" (ib (tp 48) 0)
def as4:Obj:=co [(.str "__init__" 616),(.str "Numbers.__init__" 617),(sf 618),(i 140),(i 2),(i 0),(i 0),(i 3),(r 315),(.bool true),(i 181),(r 316),.none,(r 317),(r 318),(r 319),(i 621),(i 140),(sf 622)]
def awT:Obj:=fn "__init__" "Numbers.__init__" (ib (tp 48) 0) 3 [] .none .none .none (.str "fivefields.marks" 517) none (r 320) .none 0
def arY:Obj:=tu [(.str "self" 627),(.str "last" 628),(.str "first" 629)]
def arZ:Obj:=fz "days" "Numbers.days" (ib (tp 48) 1)
def aw4:Obj:=co [(.str "days" 624),(.str "Numbers.days" 625),(sf 626),(i 143),(i 3),(i 0),(i 0),(i 3),(r 322),(.bool true),(i 181),(r 323),.none,(r 324),(r 325),(r 326),(i 630),(i 143),(sf 631)]
def awX:Obj:=fn "days" "Numbers.days" (ib (tp 48) 1) 3 [] .none .none .none (.str "fivefields.marks" 517) none (r 327) .none 0
def auS:Obj:=tu [(.str "self" 636)]
def ar5:Obj:=fz "told" "Numbers.told" (ib (tp 48) 2)
def auB:Obj:=co [(.str "told" 633),(.str "Numbers.told" 634),(sf 635),(i 146),(i 1),(i 0),(i 0),(i 3),(r 329),(.bool true),(i 181),(r 330),.none,(r 331),(r 332),(r 333),(i 637),(i 146),(sf 638)]
def atS:Obj:=fn "told" "Numbers.told" (ib (tp 48) 2) 3 [] .none .none .none (.str "fivefields.marks" 517) none (r 334) .none 0
def axA:Obj:=tu [(.str "mask" 640)]
def atW(P:Params):Obj:=di [(de P "__module__" 611 (.str "fivefields.marks" 517)),(de P "__firstlineno__" 615 (.int 138 614)),(de P "__init__" 623 (r 321)),(de P "days" 632 (r 328)),(de P "told" 639 (r 335)),(de P "__static_attributes__" 641 (r 336)),(de P "__doc__" 642 .none)] 2
def asB:Obj:=⟨(.type "type"),none,(.cls ⟨"Numbers",[(r 303)],[(r 338),(r 303),(.type "object")],337,"Numbers",true,[],[],false,none,false⟩),#[(some (r 308)),none,(some (.str "Numbers" 604)),(some (.str "Numbers" 612)),(some (.builtin "object.__new__")),(some (.bool true))]⟩
def atV:Obj:=⟨(.type "super"),none,(.fields #[(r 338),(r 338),(r 338)]),#[]⟩
def au4:Obj:=⟨(.type "builtin_function_or_method"),none,(.fields #[(.builtin "object.__init_subclass__"),(r 338)]),#[]⟩
def avM(P:Params):Obj:=di [(de P "__module__" 652 (.str "fivefields.marks" 517)),(de P "__qualname__" 654 (.str "Last" 653)),(de P "__firstlineno__" 656 (.int 148 655)),(de P "__init__" 665 (r 355)),(de P "days" 674 (r 362)),(de P "told" 681 (r 369)),(de P "__static_attributes__" 683 (r 370))] 7
def av9:Obj:=fd [(i 150),(i 4),(r 354),(i 153),(i 4),(r 361),(i 158),(i 4),(r 368)]
def ar7:Obj:=co [(.str "Last" 647),(.str "Last" 648),(sf 649),(i 148),(i 0),(i 0),(i 0),(i 0),(r 344),(.bool false),(i 181),(r 345),.none,.none,.none,.none,(i 650),(i 148),(sf 651)]
def atT:Obj:=⟨(.type "frame"),none,.plain,#[(some (r 346)),(some (r 3)),(some (r 343)),none,(some (.str "fivefields.marks" 517)),none,(some (r 0))]⟩
def asO:Obj:=tu [(.int 0 657)]
def asA:Obj:=tu [(.str "self" 661),(.str "back" 662)]
def au0:Obj:=fz "__init__" "Last.__init__" (ib (tp 49) 0)
def atD:Obj:=co [(.str "__init__" 658),(.str "Last.__init__" 659),(sf 660),(i 150),(i 2),(i 0),(i 0),(i 3),(r 349),(.bool true),(i 181),(r 350),.none,(r 351),(r 352),(r 353),(i 663),(i 150),(sf 664)]
def asE:Obj:=fn "__init__" "Last.__init__" (ib (tp 49) 0) 3 [] (r 348) .none .none (.str "fivefields.marks" 517) none (r 354) .none 0
def avE:Obj:=tu [(.str "self" 669),(.str "last" 670),(.str "first" 671)]
def awW:Obj:=⟨.none,none,(.func ⟨"days","Last.days",(ag (ib (tp 49) 1)),(.stmts (bd (ib (tp 49) 1))),(sc (ib (tp 47) 0)),0,[],.none,.none,.none,.none,none,.none,.none,0⟩),#[]⟩
def atX:Obj:=co [(.str "days" 666),(.str "Last.days" 667),(sf 668),(i 153),(i 3),(i 0),(i 0),(i 3),(r 356),(.bool true),(i 181),(r 357),.none,(r 358),(r 359),(r 360),(i 672),(i 153),(sf 673)]
def au6:Obj:=⟨(.type "function"),none,(.func ⟨"days","Last.days",(ag (ib (tp 49) 1)),(.stmts (bd (ib (tp 49) 1))),(sc (ib (tp 47) 0)),3,[],.none,.none,.none,(.str "fivefields.marks" 517),none,(r 361),.none,0⟩),#[]⟩
def auO:Obj:=tu [(.str "self" 678)]
def awI:Obj:=fz "told" "Last.told" (ib (tp 49) 2)
def arW:Obj:=co [(.str "told" 675),(.str "Last.told" 676),(sf 677),(i 158),(i 1),(i 0),(i 0),(i 3),(r 363),(.bool true),(i 181),(r 364),.none,(r 365),(r 366),(r 367),(i 679),(i 158),(sf 680)]
def av7:Obj:=fn "told" "Last.told" (ib (tp 49) 2) 3 [] .none .none .none (.str "fivefields.marks" 517) none (r 368) .none 0
def asG:Obj:=tu [(.str "back" 682)]
def atL(P:Params):Obj:=di [(de P "__module__" 652 (.str "fivefields.marks" 517)),(de P "__firstlineno__" 656 (.int 148 655)),(de P "__init__" 665 (r 355)),(de P "days" 674 (r 362)),(de P "told" 681 (r 369)),(de P "__static_attributes__" 683 (r 370)),(de P "__doc__" 684 .none)] 2
def auL:Obj:=⟨(.type "type"),none,(.cls ⟨"Last",[(r 303)],[(r 372),(r 303),(.type "object")],371,"Last",true,[],[],false,none,false⟩),#[(some (r 341)),none,(some (.str "Last" 645)),(some (.str "Last" 653)),(some (.builtin "object.__new__")),(some (.bool true))]⟩
def as7:Obj:=⟨(.type "super"),none,(.fields #[(r 372),(r 372),(r 372)]),#[]⟩
def at6:Obj:=⟨(.type "builtin_function_or_method"),none,(.fields #[(.builtin "object.__init_subclass__"),(r 372)]),#[]⟩
def t2(P:Params):BT:=(nd (boot_o_0 P) (nd (boot_o_1 P) (nd (o88 P) (nd (boot_o_7 P) (nd o0 (nd o90 (nd o36 (nd o78 (lf o0) .nil) (nd o0 (lf arX) .nil)) (nd o59 (nd asI (lf o0) .nil) (nd at4 (lf asA) .nil))) (nd o20 (nd o11 (nd o0 (lf ar4) .nil) (nd o0 (lf atS) .nil)) (nd (o68 P) (nd aw5 (lf o185) .nil) (nd o1 (lf awI) .nil)))) (nd o11 (nd o1 (nd o41 (nd o83 (lf asM) .nil) (nd asW (lf aw4) .nil)) (nd o63 (nd o0 (lf o1) .nil) (nd o0 (lf o0) .nil))) (nd (o31 P) (nd o52 (nd o97 (lf ar2) .nil) (nd o0 (lf (avM P)) .nil)) (nd o73 (nd o0 (lf o0) .nil) (lf avS))))) (nd o0 (nd o7 (nd o20 (nd o1 (nd o0 (lf o0) .nil) (nd o0 (lf o1) .nil)) (nd (o61 P) (nd axC (lf avK) .nil) (nd o1 (lf asE) .nil))) (nd o1 (nd o50 (nd o0 (lf axB) .nil) (nd auM (lf atV) .nil)) (nd o70 (nd o0 (lf auV) .nil) (nd asJ (lf (atL P)) .nil)))) (nd o13 (nd (o24 P) (nd o45 (nd o87 (lf o1) .nil) (nd o0 (lf auS) .nil)) (nd o66 (nd o0 (lf atG) .nil) (nd au9 (lf o0) .nil))) (nd o20 (nd o55 (nd o99 (lf o0) .nil) (nd o0 (lf atT) .nil)) (nd (o75 P) (nd asN (lf o0) .nil) (lf atJ)))))) (nd (boot_o_5 P) (nd (boot_o_9 P) (nd o6 (nd o18 (nd o38 (nd o1 (lf awC) .nil) (nd aw7 (lf awT) .nil)) (nd o20 (nd aw6 (lf awO) .nil) (nd auZ (lf au0) .nil))) (nd (o28 P) (nd o0 (nd o92 (lf o0) .nil) (nd as5 (lf (atW P)) .nil)) (nd o1 (nd o1 (lf axD) .nil) (nd o0 (lf av7) .nil)))) (nd o0 (nd o23 (nd o43 (nd o85 (lf auF) .nil) (nd o1 (lf o0) .nil)) (nd (o64 P) (nd au8 (lf o0) .nil) (nd atC (lf atX) .nil))) (nd o33 (nd o53 (nd o1 (lf o11) .nil) (nd au5 (lf av9) .nil)) (nd o20 (nd auK (lf aw0) .nil) (lf atM))))) (nd o2 (nd o9 (nd (o21 P) (nd o0 (nd o81 (lf avV) .nil) (nd awP (lf o0) .nil)) (nd o1 (nd o1 (lf awM) .nil) (nd avZ (lf o1) .nil))) (nd o30 (nd o0 (nd o95 (lf auN) .nil) (nd o1 (lf ab6) .nil)) (nd (o71 P) (nd av8 (lf o11) .nil) (nd o0 (lf as7) .nil)))) (nd o0 (nd o26 (nd o47 (nd o11 (lf o0) .nil) (nd avR (lf ar5) .nil)) (nd o20 (nd as3 (lf o0) .nil) (nd au7 (lf auO) .nil))) (nd (o35 P) (nd (o57 P) (nd o0 (lf aw3) .nil) (nd avF (lf o0) .nil)) (nd o76 (nd o1 (lf av6) .nil) (lf o1))))))) (nd (boot_o_2 P) (nd (boot_o_4 P) (nd (boot_o_8 P) (nd o1 (nd o17 (nd o37 (nd o0 (lf at5) .nil) (nd av3 (lf as4) .nil)) (nd o60 (nd o0 (lf o1) .nil) (nd avG (lf o0) .nil))) (nd o11 (nd (o48 P) (nd o1 (lf av0) .nil) (nd o1 (lf axA) .nil)) (nd o0 (nd o0 (lf avJ) .nil) (nd avB (lf arW) .nil)))) (nd (o12 P) (nd o22 (nd o42 (nd (o84 P) (lf asU) .nil) (nd o0 (lf awX) .nil)) (nd o0 (nd av4 (lf avW) .nil) (nd o1 (lf awW) .nil))) (nd o32 (nd o0 (nd o0 (lf o0) .nil) (nd atK (lf o0) .nil)) (nd o74 (nd o1 (lf as0) .nil) (lf o0))))) (nd o89 (nd o8 (nd o11 (nd o39 (nd o80 (lf o1) .nil) (nd o1 (lf arY) .nil)) (nd o0 (nd o0 (lf ar0) .nil) (nd auH (lf o0) .nil))) (nd o29 (nd o51 (nd (o94 P) (lf o0) .nil) (nd o0 (lf au4) .nil)) (nd o0 (nd at9 (lf ab6) .nil) (nd avT (lf auL) .nil)))) (nd o14 (nd o25 (nd o46 (nd o20 (lf asV) .nil) (nd awV (lf o0) .nil)) (nd o67 (nd o1 (lf awR) .nil) (nd avU (lf o1) .nil))) (nd o11 (nd o56 (nd atB (lf awA) .nil) (nd o1 (lf asO) .nil)) (nd o0 (nd o0 (lf o1) .nil) (lf o0)))))) (nd (boot_o_6 P) (nd (boot_o_10 P) (nd o0 (nd o19 (nd o0 (nd o79 (lf avH) .nil) (nd au2 (lf o0) .nil)) (nd o11 (nd as6 (lf o0) .nil) (nd o0 (lf atD) .nil))) (nd o0 (nd o49 (nd o93 (lf o1) .nil) (nd asH (lf asB) .nil)) (nd o69 (nd avX (lf as8) .nil) (nd awK (lf asG) .nil)))) (nd o1 (nd o0 (nd (o44 P) (nd o86 (lf o0) .nil) (nd awL (lf o1) .nil)) (nd o65 (nd avQ (lf at0) .nil) (nd o0 (lf au6) .nil))) (nd o34 (nd o54 (nd o98 (lf (awQ P)) .nil) (nd ar9 (lf ar7) .nil)) (nd o11 (nd atP (lf awZ) .nil) (lf auD))))) (nd o3 (nd o10 (nd o0 (nd o40 (nd o82 (lf o0) .nil) (nd auT (lf arZ) .nil)) (nd o62 (nd at8 (lf o0) .nil) (nd aw8 (lf avE) .nil))) (nd o0 (nd o1 (nd o96 (lf awH) .nil) (nd atF (lf o11) .nil)) (nd o72 (nd avC (lf (awU P)) .nil) (nd o1 (lf at6) .nil)))) (nd (o15 P) (nd o27 (nd o20 (nd (o91 P) (lf au3) .nil) (nd ar1 (lf auB) .nil)) (nd o11 (nd avY (lf (auU P)) .nil) (nd o0 (lf o0) .nil))) (nd o0 (nd o58 (nd o1 (lf asK) .nil) (nd o0 (lf o1) .nil)) (nd o77 (nd ar6 (lf o0) .nil) (lf axE))))))))
def s2(w:World)(os:OsState):SharedT:=⟨t2 w.params,375,⟨[],[],[],0,[],[],false,#[],[],0,false,false,false,0,[2000,10,10],false,0,true,[],[],0,false⟩,#[],⟨0,0,0,0⟩,687,os⟩
def l1:List Stmt:=(bi.drop 10).take 40
theorem r1(w:World)(os:OsState):
  segRunT treeTable pw w 11 an 1 1826 (s1 w os) (piecesOf l1 ev cd ⟨23,0,26,24⟩ bk) =
  some (.next,s2 w os,cd,⟨148,0,161,36⟩):=by kernel_rfl
def o234(P:Params):Obj:=di [(de P "__name__" 165 (.str "fivefields.rows" 951)),(de P "__doc__" 166 .none),(de P "__package__" 167 .none),(de P "__loader__" 168 (.builtin "__main__.__loader__#opaque")),(de P "__spec__" 169 .none),(de P "__annotations__" 170 (r 6)),(de P "__builtins__" 171 (r 4)),(de P "__file__" 173 (sf 172)),(de P "__cached__" 174 .none),(de P "_wall" 193 (r 21)),(de P "FieldError" 213 (r 31)),(de P "NoDay" 229 (r 44)),(de P "NoMoment" 245 (r 56)),(de P "NoField" 270 (r 75)),(de P "NoRow" 295 (r 94)),(de P "NoBook" 311 (r 106)),(de P "NoClock" 327 (r 118)),(de P "NoName" 352 (r 137)),(de P "NoWord" 368 (r 149)),(de P "FIGURES" 372 (.str "0123456789" 371)),(de P "all_figures" 378 (r 156)),(de P "is_written" 385 (r 163)),(de P "has" 395 (r 170)),(de P "starts_of" 401 (r 175)),(de P "end_from" 410 (r 182)),(de P "ranges_of" 416 (r 187)),(de P "shown_range" 424 (r 194)),(de P "shown_ranges" 430 (r 199)),(de P "MOST_SIGNS" 434 (.int 300 433)),(de P "MOST_ITEMS" 436 (.int 40 435)),(de P "MOST_STRIDE" 438 (.int 99 437)),(de P "mask_of" 447 (r 206)),(de P "numbers_in" 453 (r 211)),(de P "run_mask" 462 (r 218)),(de P "read_number" 472 (r 225)),(de P "read_run" 478 (r 230)),(de P "read_strided" 491 (r 237)),(de P "read_item" 502 (r 244)),(de P "read_field" 516 (r 251)),(de P "MOST_MARKS" 520 (.int 20 519)),(de P "MOST_DAY" 522 (.int 31 521)),(de P "MOST_BACK" 524 (.int 30 523)),(de P "MOST_NTH" 526 (.int 5 525)),(de P "SUNDAY" 528 (.int 0 527)),(de P "SATURDAY" 530 (.int 6 529)),(de P "SUNDAY_TOO" 532 (.int 7 531)),(de P "ALL_WEEKDAYS" 534 (.int 127 533)),(de P "weekday_at" 542 (r 258)),(de P "all_days" 549 (r 265)),(de P "nearest_work" 559 (r 272)),(de P "first_one" 567 (r 279)),(de P "Mark" 603 (r 303)),(de P "Numbers" 644 (r 338)),(de P "Last" 686 (r 372)),(de P "Near" 727 (r 405)),(de P "LastWork" 759 (r 431)),(de P "Weekdays" 802 (r 464)),(de P "Nth" 846 (r 497)),(de P "LastOne" 887 (r 530)),(de P "read_day_mark" 896 (r 539)),(de P "read_weekday" 904 (r 546)),(de P "read_weekday_mark" 914 (r 553)),(de P "read_items" 931 (r 560)),(de P "read_days" 939 (r 567)),(de P "read_weekdays" 948 (r 574)),(de P "HOUR_MINUTES" 950 (.int 60 949)),(de P "MOST_ROW_SIGNS" 954 (.int 1600 953)),(de P "MINUTE" 956 (.int 0 955)),(de P "HOUR" 958 (.int 1 957)),(de P "DAY" 960 (.int 2 959)),(de P "MONTH" 962 (.int 3 961)),(de P "WEEKDAY" 964 (.int 4 963)),(de P "NO_PLACE" 966 (.int 5 965)),(de P "BOUNDS" 979 (r 575)),(de P "times_of" 989 (r 585))] 75
def o235:Obj:=fd [(i 1),(i 0),(r 20),(i 5),(i 0),(r 27),(i 7),(i 0),(r 40),(i 9),(i 0),(r 52),(i 11),(i 0),(r 64),(i 15),(i 0),(r 83),(i 19),(i 0),(r 102),(i 21),(i 0),(r 114),(i 23),(i 0),(r 126),(i 27),(i 0),(r 145),(i 31),(i 0),(r 155),(i 33),(i 0),(r 162),(i 36),(i 0),(r 169),(i 38),(i 0),(r 174),(i 41),(i 0),(r 181),(i 46),(i 0),(r 186),(i 48),(i 0),(r 193),(i 52),(i 0),(r 198),(i 58),(i 0),(r 205),(i 63),(i 0),(r 210),(i 65),(i 0),(r 217),(i 67),(i 0),(r 224),(i 74),(i 0),(r 229),(i 81),(i 0),(r 236),(i 88),(i 0),(r 243),(i 96),(i 0),(r 250),(i 118),(i 0),(r 257),(i 120),(i 0),(r 264),(i 122),(i 0),(r 271),(i 129),(i 0),(r 278),(i 131),(i 0),(r 285),(i 138),(i 0),(r 313),(i 148),(i 0),(r 346),(i 162),(i 0),(r 380),(i 174),(i 0),(r 413),(i 181),(i 0),(r 439),(i 194),(i 0),(r 472),(i 208),(i 0),(r 505),(i 218),(i 0),(r 538),(i 230),(i 0),(r 545),(i 233),(i 0),(r 552),(i 245),(i 0),(r 559),(i 263),(i 0),(r 566),(i 270),(i 0),(r 573),(i 288),(i 0),(r 584)]
def ayL:Obj:=⟨(.type "type"),none,(.cls ⟨"Mark",[(.type "object")],[(r 303),(.type "object")],302,"Mark",true,[],[(r 338),(r 372),(r 405),(r 431),(r 464),(r 497),(r 530)],false,none,false⟩),#[none,none,(some (.str "Mark" 568)),(some (.str "Mark" 576)),(some (.builtin "object.__new__")),(some (.bool true))]⟩
def aBJ(P:Params):Obj:=di [(de P "__module__" 694 (.str "fivefields.marks" 517)),(de P "__qualname__" 696 (.str "Near" 695)),(de P "__firstlineno__" 698 (.int 162 697)),(de P "__init__" 706 (r 388)),(de P "days" 715 (r 395)),(de P "told" 722 (r 402)),(de P "__static_attributes__" 724 (r 403))] 7
def az5:Obj:=fd [(i 164),(i 4),(r 387),(i 167),(i 4),(r 394),(i 172),(i 4),(r 401)]
def ay2:Obj:=co [(.str "Near" 689),(.str "Near" 690),(sf 691),(i 162),(i 0),(i 0),(i 0),(i 0),(r 378),(.bool false),(i 181),(r 379),.none,.none,.none,.none,(i 692),(i 162),(sf 693)]
def aDE:Obj:=⟨(.type "frame"),none,.plain,#[(some (r 380)),(some (r 3)),(some (r 377)),none,(some (.str "fivefields.marks" 517)),none,(some (r 0))]⟩
def aA7:Obj:=tu [(.str "self" 702),(.str "day" 703)]
def azT:Obj:=fz "__init__" "Near.__init__" (ib (tp 50) 0)
def aB2:Obj:=co [(.str "__init__" 699),(.str "Near.__init__" 700),(sf 701),(i 164),(i 2),(i 0),(i 0),(i 3),(r 382),(.bool true),(i 181),(r 383),.none,(r 384),(r 385),(r 386),(i 704),(i 164),(sf 705)]
def aBP:Obj:=fn "__init__" "Near.__init__" (ib (tp 50) 0) 3 [] .none .none .none (.str "fivefields.marks" 517) none (r 387) .none 0
def ayK:Obj:=tu [(.str "self" 710),(.str "last" 711),(.str "first" 712)]
def aBB:Obj:=fz "days" "Near.days" (ib (tp 50) 1)
def aAG:Obj:=co [(.str "days" 707),(.str "Near.days" 708),(sf 709),(i 167),(i 3),(i 0),(i 0),(i 3),(r 389),(.bool true),(i 181),(r 390),.none,(r 391),(r 392),(r 393),(i 713),(i 167),(sf 714)]
def azY:Obj:=fn "days" "Near.days" (ib (tp 50) 1) 3 [] .none .none .none (.str "fivefields.marks" 517) none (r 394) .none 0
def aBA:Obj:=tu [(.str "self" 719)]
def azO:Obj:=⟨.none,none,(.func ⟨"told","Near.told",(ag (ib (tp 50) 2)),(.stmts (bd (ib (tp 50) 2))),(sc (ib (tp 49) 2)),0,[],.none,.none,.none,.none,none,.none,.none,0⟩),#[]⟩
def aA9:Obj:=co [(.str "told" 716),(.str "Near.told" 717),(sf 718),(i 172),(i 1),(i 0),(i 0),(i 3),(r 396),(.bool true),(i 181),(r 397),.none,(r 398),(r 399),(r 400),(i 720),(i 172),(sf 721)]
def ayB:Obj:=⟨(.type "function"),none,(.func ⟨"told","Near.told",(ag (ib (tp 50) 2)),(.stmts (bd (ib (tp 50) 2))),(sc (ib (tp 49) 2)),3,[],.none,.none,.none,(.str "fivefields.marks" 517),none,(r 401),.none,0⟩),#[]⟩
def az3:Obj:=tu [(.str "day" 723)]
def aDP(P:Params):Obj:=di [(de P "__module__" 694 (.str "fivefields.marks" 517)),(de P "__firstlineno__" 698 (.int 162 697)),(de P "__init__" 706 (r 388)),(de P "days" 715 (r 395)),(de P "told" 722 (r 402)),(de P "__static_attributes__" 724 (r 403)),(de P "__doc__" 725 .none)] 2
def ay9:Obj:=⟨(.type "type"),none,(.cls ⟨"Near",[(r 303)],[(r 405),(r 303),(.type "object")],404,"Near",true,[],[],false,none,false⟩),#[(some (r 375)),none,(some (.str "Near" 687)),(some (.str "Near" 695)),(some (.builtin "object.__new__")),(some (.bool true))]⟩
def ayQ:Obj:=⟨(.type "super"),none,(.fields #[(r 405),(r 405),(r 405)]),#[]⟩
def ayW:Obj:=⟨(.type "builtin_function_or_method"),none,(.fields #[(.builtin "object.__init_subclass__"),(r 405)]),#[]⟩
def aBV(P:Params):Obj:=di [(de P "__module__" 735 (.str "fivefields.marks" 517)),(de P "__qualname__" 737 (.str "LastWork" 736)),(de P "__firstlineno__" 739 (.int 174 738)),(de P "days" 748 (r 421)),(de P "told" 755 (r 428)),(de P "__static_attributes__" 756 (r 429))] 6
def aCF:Obj:=fd [(i 176),(i 4),(r 420),(i 179),(i 4),(r 427)]
def aCN:Obj:=co [(.str "LastWork" 730),(.str "LastWork" 731),(sf 732),(i 174),(i 0),(i 0),(i 0),(i 0),(r 411),(.bool false),(i 181),(r 412),.none,.none,.none,.none,(i 733),(i 174),(sf 734)]
def azL:Obj:=⟨(.type "frame"),none,.plain,#[(some (r 413)),(some (r 3)),(some (r 410)),none,(some (.str "fivefields.marks" 517)),none,(some (r 0))]⟩
def aAD:Obj:=tu [(.str "self" 743),(.str "last" 744),(.str "first" 745)]
def aD9:Obj:=⟨.none,none,(.func ⟨"days","LastWork.days",(ag (ib (tp 51) 0)),(.stmts (bd (ib (tp 51) 0))),(sc (ib (tp 50) 1)),0,[],.none,.none,.none,.none,none,.none,.none,0⟩),#[]⟩
def aD0:Obj:=co [(.str "days" 740),(.str "LastWork.days" 741),(sf 742),(i 176),(i 3),(i 0),(i 0),(i 3),(r 415),(.bool true),(i 181),(r 416),.none,(r 417),(r 418),(r 419),(i 746),(i 176),(sf 747)]
def aDT:Obj:=⟨(.type "function"),none,(.func ⟨"days","LastWork.days",(ag (ib (tp 51) 0)),(.stmts (bd (ib (tp 51) 0))),(sc (ib (tp 50) 1)),3,[],.none,.none,.none,(.str "fivefields.marks" 517),none,(r 420),.none,0⟩),#[]⟩
def ayN:Obj:=tu [(.str "self" 752)]
def ay4:Obj:=⟨.none,none,(.func ⟨"told","LastWork.told",(ag (ib (tp 51) 1)),(.stmts (bd (ib (tp 51) 1))),(sc (ib (tp 47) 1)),0,[],.none,.none,.none,.none,none,.none,.none,0⟩),#[]⟩
def azK:Obj:=co [(.str "told" 749),(.str "LastWork.told" 750),(sf 751),(i 179),(i 1),(i 0),(i 0),(i 3),(r 422),(.bool true),(i 181),(r 423),.none,(r 424),(r 425),(r 426),(i 753),(i 179),(sf 754)]
def aCI:Obj:=⟨(.type "function"),none,(.func ⟨"told","LastWork.told",(ag (ib (tp 51) 1)),(.stmts (bd (ib (tp 51) 1))),(sc (ib (tp 47) 1)),3,[],.none,.none,.none,(.str "fivefields.marks" 517),none,(r 427),.none,0⟩),#[]⟩
def aAP(P:Params):Obj:=di [(de P "__module__" 735 (.str "fivefields.marks" 517)),(de P "__firstlineno__" 739 (.int 174 738)),(de P "days" 748 (r 421)),(de P "told" 755 (r 428)),(de P "__static_attributes__" 756 (r 429)),(de P "__doc__" 757 .none)] 2
def aAM:Obj:=⟨(.type "type"),none,(.cls ⟨"LastWork",[(r 303)],[(r 431),(r 303),(.type "object")],430,"LastWork",true,[],[],false,none,false⟩),#[(some (r 408)),none,(some (.str "LastWork" 728)),(some (.str "LastWork" 736)),(some (.builtin "object.__new__")),(some (.bool true))]⟩
def aC8:Obj:=⟨(.type "super"),none,(.fields #[(r 431),(r 431),(r 431)]),#[]⟩
def aAY:Obj:=⟨(.type "builtin_function_or_method"),none,(.fields #[(.builtin "object.__init_subclass__"),(r 431)]),#[]⟩
def aDH(P:Params):Obj:=di [(de P "__module__" 767 (.str "fivefields.marks" 517)),(de P "__qualname__" 769 (.str "Weekdays" 768)),(de P "__firstlineno__" 771 (.int 181 770)),(de P "__init__" 779 (r 447)),(de P "days" 790 (r 454)),(de P "told" 797 (r 461)),(de P "__static_attributes__" 799 (r 462))] 7
def aA6:Obj:=fd [(i 183),(i 4),(r 446),(i 186),(i 4),(r 453),(i 192),(i 4),(r 460)]
def aD8:Obj:=co [(.str "Weekdays" 762),(.str "Weekdays" 763),(sf 764),(i 181),(i 0),(i 0),(i 0),(i 0),(r 437),(.bool false),(i 181),(r 438),.none,.none,.none,.none,(i 765),(i 181),(sf 766)]
def aDQ:Obj:=⟨(.type "frame"),none,.plain,#[(some (r 439)),(some (r 3)),(some (r 436)),none,(some (.str "fivefields.marks" 517)),none,(some (r 0))]⟩
def ay1:Obj:=tu [(.str "self" 775),(.str "mask" 776)]
def aAT:Obj:=⟨.none,none,(.func ⟨"__init__","Weekdays.__init__",(ag (ib (tp 52) 0)),(.stmts (bd (ib (tp 52) 0))),(sc (ib (tp 48) 0)),0,[],.none,.none,.none,.none,none,.none,.none,0⟩),#[]⟩
def aAH:Obj:=co [(.str "__init__" 772),(.str "Weekdays.__init__" 773),(sf 774),(i 183),(i 2),(i 0),(i 0),(i 3),(r 441),(.bool true),(i 181),(r 442),.none,(r 443),(r 444),(r 445),(i 777),(i 183),(sf 778)]
def ayX:Obj:=⟨(.type "function"),none,(.func ⟨"__init__","Weekdays.__init__",(ag (ib (tp 52) 0)),(.stmts (bd (ib (tp 52) 0))),(sc (ib (tp 48) 0)),3,[],.none,.none,.none,(.str "fivefields.marks" 517),none,(r 446),.none,0⟩),#[]⟩
def azA:Obj:=tu [(.str "self" 783),(.str "last" 784),(.str "first" 785),(.str "weeks" 786),(.str "week" 787)]
def aA0:Obj:=fz "days" "Weekdays.days" (ib (tp 52) 1)
def ay0:Obj:=co [(.str "days" 780),(.str "Weekdays.days" 781),(sf 782),(i 186),(i 3),(i 0),(i 0),(i 3),(r 448),(.bool true),(i 181),(r 449),.none,(r 450),(r 451),(r 452),(i 788),(i 186),(sf 789)]
def aDO:Obj:=fn "days" "Weekdays.days" (ib (tp 52) 1) 3 [] .none .none .none (.str "fivefields.marks" 517) none (r 453) .none 0
def ayV:Obj:=tu [(.str "self" 794)]
def aB0:Obj:=⟨.none,none,(.func ⟨"told","Weekdays.told",(ag (ib (tp 52) 2)),(.stmts (bd (ib (tp 52) 2))),(sc (ib (tp 48) 2)),0,[],.none,.none,.none,.none,none,.none,.none,0⟩),#[]⟩
def aDS:Obj:=co [(.str "told" 791),(.str "Weekdays.told" 792),(sf 793),(i 192),(i 1),(i 0),(i 0),(i 3),(r 455),(.bool true),(i 181),(r 456),.none,(r 457),(r 458),(r 459),(i 795),(i 192),(sf 796)]
def aDC:Obj:=⟨(.type "function"),none,(.func ⟨"told","Weekdays.told",(ag (ib (tp 52) 2)),(.stmts (bd (ib (tp 52) 2))),(sc (ib (tp 48) 2)),3,[],.none,.none,.none,(.str "fivefields.marks" 517),none,(r 460),.none,0⟩),#[]⟩
def azD:Obj:=tu [(.str "mask" 798)]
def aA8(P:Params):Obj:=di [(de P "__module__" 767 (.str "fivefields.marks" 517)),(de P "__firstlineno__" 771 (.int 181 770)),(de P "__init__" 779 (r 447)),(de P "days" 790 (r 454)),(de P "told" 797 (r 461)),(de P "__static_attributes__" 799 (r 462)),(de P "__doc__" 800 .none)] 2
def ax9:Obj:=⟨(.type "type"),none,(.cls ⟨"Weekdays",[(r 303)],[(r 464),(r 303),(.type "object")],463,"Weekdays",true,[],[],false,none,false⟩),#[(some (r 434)),none,(some (.str "Weekdays" 760)),(some (.str "Weekdays" 768)),(some (.builtin "object.__new__")),(some (.bool true))]⟩
def azX:Obj:=⟨(.type "super"),none,(.fields #[(r 464),(r 464),(r 464)]),#[]⟩
def az6:Obj:=⟨(.type "builtin_function_or_method"),none,(.fields #[(.builtin "object.__init_subclass__"),(r 464)]),#[]⟩
def aDW(P:Params):Obj:=di [(de P "__module__" 810 (.str "fivefields.marks" 517)),(de P "__qualname__" 812 (.str "Nth" 811)),(de P "__firstlineno__" 814 (.int 194 813)),(de P "__init__" 823 (r 480)),(de P "days" 833 (r 487)),(de P "told" 840 (r 494)),(de P "__static_attributes__" 843 (r 495))] 7
def azU:Obj:=fd [(i 196),(i 4),(r 479),(i 200),(i 4),(r 486),(i 206),(i 4),(r 493)]
def aAF:Obj:=co [(.str "Nth" 805),(.str "Nth" 806),(sf 807),(i 194),(i 0),(i 0),(i 0),(i 0),(r 470),(.bool false),(i 181),(r 471),.none,.none,.none,.none,(i 808),(i 194),(sf 809)]
def aAS:Obj:=⟨(.type "frame"),none,.plain,#[(some (r 472)),(some (r 3)),(some (r 469)),none,(some (.str "fivefields.marks" 517)),none,(some (r 0))]⟩
def aAX:Obj:=tu [(.str "self" 818),(.str "weekday" 819),(.str "many" 820)]
def aCE:Obj:=fz "__init__" "Nth.__init__" (ib (tp 53) 0)
def aCX:Obj:=co [(.str "__init__" 815),(.str "Nth.__init__" 816),(sf 817),(i 196),(i 3),(i 0),(i 0),(i 3),(r 474),(.bool true),(i 181),(r 475),.none,(r 476),(r 477),(r 478),(i 821),(i 196),(sf 822)]
def aBK:Obj:=fn "__init__" "Nth.__init__" (ib (tp 53) 0) 3 [] .none .none .none (.str "fivefields.marks" 517) none (r 479) .none 0
def aAO:Obj:=tu [(.str "self" 827),(.str "last" 828),(.str "first" 829),(.str "day" 830)]
def ayE:Obj:=fz "days" "Nth.days" (ib (tp 53) 1)
def aDR:Obj:=co [(.str "days" 824),(.str "Nth.days" 825),(sf 826),(i 200),(i 3),(i 0),(i 0),(i 3),(r 481),(.bool true),(i 181),(r 482),.none,(r 483),(r 484),(r 485),(i 831),(i 200),(sf 832)]
def aBN:Obj:=fn "days" "Nth.days" (ib (tp 53) 1) 3 [] .none .none .none (.str "fivefields.marks" 517) none (r 486) .none 0
def ayY:Obj:=tu [(.str "self" 837)]
def aBE:Obj:=⟨.none,none,(.func ⟨"told","Nth.told",(ag (ib (tp 53) 2)),(.stmts (bd (ib (tp 53) 2))),(sc (ib (tp 49) 2)),0,[],.none,.none,.none,.none,none,.none,.none,0⟩),#[]⟩
def aBZ:Obj:=co [(.str "told" 834),(.str "Nth.told" 835),(sf 836),(i 206),(i 1),(i 0),(i 0),(i 3),(r 488),(.bool true),(i 181),(r 489),.none,(r 490),(r 491),(r 492),(i 838),(i 206),(sf 839)]
def aDM:Obj:=⟨(.type "function"),none,(.func ⟨"told","Nth.told",(ag (ib (tp 53) 2)),(.stmts (bd (ib (tp 53) 2))),(sc (ib (tp 49) 2)),3,[],.none,.none,.none,(.str "fivefields.marks" 517),none,(r 493),.none,0⟩),#[]⟩
def ayM:Obj:=tu [(.str "many" 841),(.str "weekday" 842)]
def ayA(P:Params):Obj:=di [(de P "__module__" 810 (.str "fivefields.marks" 517)),(de P "__firstlineno__" 814 (.int 194 813)),(de P "__init__" 823 (r 480)),(de P "days" 833 (r 487)),(de P "told" 840 (r 494)),(de P "__static_attributes__" 843 (r 495)),(de P "__doc__" 844 .none)] 2
def ayP:Obj:=⟨(.type "type"),none,(.cls ⟨"Nth",[(r 303)],[(r 497),(r 303),(.type "object")],496,"Nth",true,[],[],false,none,false⟩),#[(some (r 467)),none,(some (.str "Nth" 803)),(some (.str "Nth" 811)),(some (.builtin "object.__new__")),(some (.bool true))]⟩
def aCC:Obj:=⟨(.type "super"),none,(.fields #[(r 497),(r 497),(r 497)]),#[]⟩
def aBT:Obj:=⟨(.type "builtin_function_or_method"),none,(.fields #[(.builtin "object.__init_subclass__"),(r 497)]),#[]⟩
def aB9(P:Params):Obj:=di [(de P "__module__" 854 (.str "fivefields.marks" 517)),(de P "__qualname__" 856 (.str "LastOne" 855)),(de P "__firstlineno__" 858 (.int 208 857)),(de P "__init__" 866 (r 513)),(de P "days" 875 (r 520)),(de P "told" 882 (r 527)),(de P "__static_attributes__" 884 (r 528))] 7
def ayU:Obj:=fd [(i 210),(i 4),(r 512),(i 213),(i 4),(r 519),(i 216),(i 4),(r 526)]
def aDY:Obj:=co [(.str "LastOne" 849),(.str "LastOne" 850),(sf 851),(i 208),(i 0),(i 0),(i 0),(i 0),(r 503),(.bool false),(i 181),(r 504),.none,.none,.none,.none,(i 852),(i 208),(sf 853)]
def aBS:Obj:=⟨(.type "frame"),none,.plain,#[(some (r 505)),(some (r 3)),(some (r 502)),none,(some (.str "fivefields.marks" 517)),none,(some (r 0))]⟩
def aDL:Obj:=tu [(.str "self" 862),(.str "weekday" 863)]
def aCA:Obj:=fz "__init__" "LastOne.__init__" (ib (tp 54) 0)
def aDD:Obj:=co [(.str "__init__" 859),(.str "LastOne.__init__" 860),(sf 861),(i 210),(i 2),(i 0),(i 0),(i 3),(r 507),(.bool true),(i 181),(r 508),.none,(r 509),(r 510),(r 511),(i 864),(i 210),(sf 865)]
def azI:Obj:=fn "__init__" "LastOne.__init__" (ib (tp 54) 0) 3 [] .none .none .none (.str "fivefields.marks" 517) none (r 512) .none 0
def aC6:Obj:=tu [(.str "self" 870),(.str "last" 871),(.str "first" 872)]
def aBY:Obj:=fz "days" "LastOne.days" (ib (tp 54) 1)
def aAA:Obj:=co [(.str "days" 867),(.str "LastOne.days" 868),(sf 869),(i 213),(i 3),(i 0),(i 0),(i 3),(r 514),(.bool true),(i 181),(r 515),.none,(r 516),(r 517),(r 518),(i 873),(i 213),(sf 874)]
def aA3:Obj:=fn "days" "LastOne.days" (ib (tp 54) 1) 3 [] .none .none .none (.str "fivefields.marks" 517) none (r 519) .none 0
def aDV:Obj:=tu [(.str "self" 879)]
def aBW:Obj:=⟨.none,none,(.func ⟨"told","LastOne.told",(ag (ib (tp 54) 2)),(.stmts (bd (ib (tp 54) 2))),(sc (ib (tp 49) 2)),0,[],.none,.none,.none,.none,none,.none,.none,0⟩),#[]⟩
def azM:Obj:=co [(.str "told" 876),(.str "LastOne.told" 877),(sf 878),(i 216),(i 1),(i 0),(i 0),(i 3),(r 521),(.bool true),(i 181),(r 522),.none,(r 523),(r 524),(r 525),(i 880),(i 216),(sf 881)]
def aAB:Obj:=⟨(.type "function"),none,(.func ⟨"told","LastOne.told",(ag (ib (tp 54) 2)),(.stmts (bd (ib (tp 54) 2))),(sc (ib (tp 49) 2)),3,[],.none,.none,.none,(.str "fivefields.marks" 517),none,(r 526),.none,0⟩),#[]⟩
def aDG:Obj:=tu [(.str "weekday" 883)]
def aC1(P:Params):Obj:=di [(de P "__module__" 854 (.str "fivefields.marks" 517)),(de P "__firstlineno__" 858 (.int 208 857)),(de P "__init__" 866 (r 513)),(de P "days" 875 (r 520)),(de P "told" 882 (r 527)),(de P "__static_attributes__" 884 (r 528)),(de P "__doc__" 885 .none)] 2
def aD4:Obj:=⟨(.type "type"),none,(.cls ⟨"LastOne",[(r 303)],[(r 530),(r 303),(.type "object")],529,"LastOne",true,[],[],false,none,false⟩),#[(some (r 500)),none,(some (.str "LastOne" 847)),(some (.str "LastOne" 855)),(some (.builtin "object.__new__")),(some (.bool true))]⟩
def aCW:Obj:=⟨(.type "super"),none,(.fields #[(r 530),(r 530),(r 530)]),#[]⟩
def aC5:Obj:=⟨(.type "builtin_function_or_method"),none,(.fields #[(.builtin "object.__init_subclass__"),(r 530)]),#[]⟩
def ayJ:Obj:=tu [(.str "item" 891),(.str "back" 892),(.str "day" 893)]
def aD3:Obj:=fz "read_day_mark" "read_day_mark" (tp 55)
def ayD:Obj:=co [(.str "read_day_mark" 888),(.str "read_day_mark" 889),(sf 890),(i 218),(i 1),(i 0),(i 0),(i 3),(r 533),(.bool true),(i 181),(r 534),.none,(r 535),(r 536),(r 537),(i 894),(i 218),(sf 895)]
def ay6:Obj:=fn "read_day_mark" "read_day_mark" (tp 55) 3 [] .none .none .none (.str "fivefields.marks" 517) none (r 538) .none 0
def aB1:Obj:=tu [(.str "text" 900),(.str "number" 901)]
def aD6:Obj:=fz "read_weekday" "read_weekday" (tp 56)
def aCM:Obj:=co [(.str "read_weekday" 897),(.str "read_weekday" 898),(sf 899),(i 230),(i 1),(i 0),(i 0),(i 3),(r 540),(.bool true),(i 181),(r 541),.none,(r 542),(r 543),(r 544),(i 902),(i 230),(sf 903)]
def aDJ:Obj:=fn "read_weekday" "read_weekday" (tp 56) 3 [] .none .none .none (.str "fivefields.marks" 517) none (r 545) .none 0
def aAJ:Obj:=tu [(.str "item" 908),(.str "weekday" 909),(.str "parts" 910),(.str "many" 911)]
def aC4:Obj:=fz "read_weekday_mark" "read_weekday_mark" (tp 57)
def aBM:Obj:=co [(.str "read_weekday_mark" 905),(.str "read_weekday_mark" 906),(sf 907),(i 233),(i 1),(i 0),(i 0),(i 3),(r 547),(.bool true),(i 181),(r 548),.none,(r 549),(r 550),(r 551),(i 912),(i 233),(sf 913)]
def aB5:Obj:=fn "read_weekday_mark" "read_weekday_mark" (tp 57) 3 [] .none .none .none (.str "fivefields.marks" 517) none (r 552) .none 0
def azN:Obj:=tu [(.str "text" 918),(.str "low" 919),(.str "high" 920),(.str "read_mark" 921),(.str "items" 922),(.str "mask" 923),(.str "marks" 924),(.str "place" 925),(.str "item" 926),(.str "plain" 927),(.str "mark" 928)]
def aD7:Obj:=fz "read_items" "read_items" (tp 58)
def aBQ:Obj:=co [(.str "read_items" 915),(.str "read_items" 916),(sf 917),(i 245),(i 4),(i 0),(i 0),(i 3),(r 554),(.bool true),(i 181),(r 555),.none,(r 556),(r 557),(r 558),(i 929),(i 245),(sf 930)]
def aCJ:Obj:=fn "read_items" "read_items" (tp 58) 3 [] .none .none .none (.str "fivefields.marks" 517) none (r 559) .none 0
def aCH:Obj:=tu [(.str "text" 935),(.str "read" 936)]
def aAQ:Obj:=fz "read_days" "read_days" (tp 59)
def aA5:Obj:=co [(.str "read_days" 932),(.str "read_days" 933),(sf 934),(i 263),(i 1),(i 0),(i 0),(i 3),(r 561),(.bool true),(i 181),(r 562),.none,(r 563),(r 564),(r 565),(i 937),(i 263),(sf 938)]
def aDB:Obj:=fn "read_days" "read_days" (tp 59) 3 [] .none .none .none (.str "fivefields.marks" 517) none (r 566) .none 0
def aBF:Obj:=tu [(.str "text" 943),(.str "read" 944),(.str "mask" 945)]
def aB7:Obj:=fz "read_weekdays" "read_weekdays" (tp 60)
def aAL:Obj:=co [(.str "read_weekdays" 940),(.str "read_weekdays" 941),(sf 942),(i 270),(i 1),(i 0),(i 0),(i 3),(r 568),(.bool true),(i 181),(r 569),.none,(r 570),(r 571),(r 572),(i 946),(i 270),(sf 947)]
def azJ:Obj:=fn "read_weekdays" "read_weekdays" (tp 60) 3 [] .none .none .none (.str "fivefields.marks" 517) none (r 573) .none 0
def aDU:Obj:=di [⟨0,(.int 0 967),(r 576)⟩,⟨1,(.int 1 970),(r 577)⟩,⟨3,(.int 3 973),(r 578)⟩] 3
def aBX:Obj:=tu [(.int 0 968),(.int 59 969)]
def aD2:Obj:=tu [(.int 0 971),(.int 23 972)]
def aDK:Obj:=tu [(.int 1 974),(.int 12 975)]
def aDI:Obj:=tu [(.str "hours" 983),(.str "minutes" 984),(.str "times" 985),(.str "hour" 986)]
def ayI:Obj:=fz "times_of" "times_of" (tp 71)
def aBD:Obj:=co [(.str "times_of" 980),(.str "times_of" 981),(sf 982),(i 288),(i 2),(i 0),(i 0),(i 3),(r 579),(.bool true),(i 181),(r 580),.none,(r 581),(r 582),(r 583),(i 987),(i 288),(sf 988)]
def aB8:Obj:=fn "times_of" "times_of" (tp 71) 3 [] .none .none .none (.str "fivefields.rows" 951) none (r 584) .none 0
def t3(P:Params):BT:=(nd (boot_o_0 P) (nd (boot_o_1 P) (nd (o234 P) (nd (boot_o_7 P) (nd o0 (nd o90 (nd o36 (nd o78 (nd o0 (lf aCA) .nil) (lf o1)) (nd o0 (nd arX (lf aDU) .nil) (lf ayX))) (nd o59 (nd asI (nd o0 (lf o0) .nil) (lf o0)) (nd at4 (lf asA) (lf aCX)))) (nd o20 (nd o11 (nd o0 (nd ar4 (lf aAB) .nil) (lf o0)) (nd o0 (lf atS) (lf (aA8 P)))) (nd (o68 P) (nd aw5 (nd ayL (lf aBQ) .nil) (lf aAM)) (nd o1 (lf awI) (lf ayM))))) (nd o11 (nd o1 (nd o41 (nd o83 (nd asM (lf aAA) .nil) (lf ayK)) (nd asW (nd aw4 (lf ayI) .nil) (lf o0))) (nd o63 (nd o0 (nd o1 (lf aC4) .nil) (lf o1)) (nd o0 (lf o0) (lf aBN)))) (nd (o31 P) (nd o52 (nd o97 (nd ar2 (lf ayJ) .nil) (lf ayW)) (nd o0 (lf (avM P)) (lf azU))) (nd o73 (nd o0 (nd o0 (lf aDB) .nil) (lf aD8)) (nd avS (lf ab6) (lf o0)))))) (nd o0 (nd o7 (nd o20 (nd o1 (nd o0 (nd o0 (lf o1) .nil) (lf aB2)) (nd o0 (nd o1 (lf o0) .nil) (lf o0))) (nd (o61 P) (nd axC (nd avK (lf o0) .nil) (lf aD9)) (nd o1 (lf asE) (lf aAO)))) (nd o1 (nd o50 (nd o0 (nd axB (lf aCW) .nil) (lf az3)) (nd auM (lf atV) (lf ab6))) (nd o70 (nd o0 (nd auV (lf aCH) .nil) (lf o11)) (nd asJ (lf (atL P)) (lf aBT))))) (nd o13 (nd (o24 P) (nd o45 (nd o87 (nd o1 (lf aDV) .nil) (lf azY)) (nd o0 (lf auS) (lf aB0))) (nd o66 (nd o0 (nd atG (lf o1) .nil) (lf azK)) (nd au9 (lf o0) (lf o0)))) (nd o20 (nd o55 (nd o99 (nd o0 (lf ay6) .nil) (lf o0)) (nd o0 (lf atT) (lf o1))) (nd (o75 P) (nd asN (nd o0 (lf o0) .nil) (lf ay1)) (nd atJ (lf az5) (lf o0))))))) (nd (boot_o_5 P) (nd (boot_o_9 P) (nd o6 (nd o18 (nd o38 (nd o1 (nd awC (lf azI) .nil) (lf o0)) (nd aw7 (nd awT (lf aD2) .nil) (lf o1))) (nd o20 (nd aw6 (nd awO (lf aCM) .nil) (lf aAD)) (nd auZ (lf au0) (lf o0)))) (nd (o28 P) (nd o0 (nd o92 (nd o0 (lf (aC1 P)) .nil) (lf aA9)) (nd as5 (lf (atW P)) (lf azX))) (nd o1 (nd o1 (nd axD (lf o0) .nil) (lf aAY)) (nd o0 (lf av7) (lf ayP))))) (nd o0 (nd o23 (nd o43 (nd o85 (nd auF (lf o0) .nil) (lf aBB)) (nd o1 (nd o0 (lf aB8) .nil) (lf ayV))) (nd (o64 P) (nd au8 (nd o0 (lf aB5) .nil) (lf o0)) (nd atC (lf atX) (lf o1)))) (nd o33 (nd o53 (nd o1 (nd o11 (lf aD3) .nil) (lf o11)) (nd au5 (lf av9) (lf aAS))) (nd o20 (nd auK (nd aw0 (lf o1) .nil) (lf o0)) (nd atM (lf (aBJ P)) (lf aDY)))))) (nd o2 (nd o9 (nd (o21 P) (nd o0 (nd o81 (nd avV (lf o0) .nil) (lf o0)) (nd awP (nd o0 (lf aDI) .nil) (lf ay0))) (nd o1 (nd o1 (nd awM (lf aAJ) .nil) (lf aDT)) (nd avZ (lf o1) (lf ayE)))) (nd o30 (nd o0 (nd o95 (nd auN (lf o0) .nil) (lf ay9)) (nd o1 (lf ab6) (lf (aDW P)))) (nd (o71 P) (nd av8 (nd o11 (lf aAQ) .nil) (lf o0)) (nd o0 (lf as7) (lf o11))))) (nd o0 (nd o26 (nd o47 (nd o11 (nd o0 (lf aBW) .nil) (lf o1)) (nd avR (lf ar5) (lf aDC))) (nd o20 (nd as3 (nd o0 (lf o0) .nil) (lf o0)) (nd au7 (lf auO) (lf aBZ)))) (nd (o35 P) (nd (o57 P) (nd o0 (nd aw3 (lf o1) .nil) (lf aCN)) (nd avF (lf o0) (lf o0))) (nd o76 (nd o1 (nd av6 (lf aAL) .nil) (lf aAT)) (nd o1 (lf aDE) (lf aDL)))))))) (nd (boot_o_2 P) (nd (boot_o_4 P) (nd (boot_o_8 P) (nd o1 (nd o17 (nd o37 (nd o0 (nd at5 (lf aDD) .nil) (lf aA7)) (nd av3 (nd as4 (lf aBX) .nil) (lf o0))) (nd o60 (nd o0 (nd o1 (lf aD6) .nil) (lf o1)) (nd avG (lf o0) (lf aBK)))) (nd o11 (nd (o48 P) (nd o1 (nd av0 (lf aDG) .nil) (lf azO)) (nd o1 (lf axA) (lf ax9))) (nd o0 (nd o0 (nd avJ (lf aCJ) .nil) (lf aC8)) (nd avB (lf arW) (lf (ayA P)))))) (nd (o12 P) (nd o22 (nd o42 (nd (o84 P) (nd asU (lf aA3) .nil) (lf o0)) (nd o0 (nd awX (lf aBD) .nil) (lf o1))) (nd o0 (nd av4 (nd avW (lf aBM) .nil) (lf ayN)) (nd o1 (lf awW) (lf o0)))) (nd o32 (nd o0 (nd o0 (nd o0 (lf o0) .nil) (lf ab6)) (nd atK (lf o0) (lf aAF))) (nd o74 (nd o1 (nd as0 (lf o0) .nil) (lf aDQ)) (nd o0 (lf o11) (lf ayU)))))) (nd o235 (nd o8 (nd o11 (nd o39 (nd o80 (nd o1 (lf aC6) .nil) (lf aBP)) (nd o1 (nd arY (lf o1) .nil) (lf aA0))) (nd o0 (nd o0 (nd ar0 (lf o1) .nil) (lf aD0)) (nd auH (lf o0) (lf o0)))) (nd o29 (nd o51 (nd (o94 P) (nd o0 (lf aC5) .nil) (lf (aDP P))) (nd o0 (lf au4) (lf o11))) (nd o0 (nd at9 (nd ab6 (lf o0) .nil) (lf (aDH P))) (nd avT (lf auL) (lf ab6))))) (nd o14 (nd o25 (nd o46 (nd o20 (nd asV (lf o0) .nil) (lf o0)) (nd awV (lf o0) (lf aDS))) (nd o67 (nd o1 (nd awR (lf azN) .nil) (lf aCI)) (nd avU (lf o1) (lf aBE)))) (nd o11 (nd o56 (nd atB (nd awA (lf o0) .nil) (lf aCF)) (nd o1 (lf asO) (lf aAX))) (nd o0 (nd o0 (nd o1 (lf aB7) .nil) (lf o0)) (nd o0 (lf ay2) (lf o1))))))) (nd (boot_o_6 P) (nd (boot_o_10 P) (nd o0 (nd o19 (nd o0 (nd o79 (nd avH (lf o0) .nil) (lf azT)) (nd au2 (nd o0 (lf aDK) .nil) (lf azA))) (nd o11 (nd as6 (nd o0 (lf aDJ) .nil) (lf o0)) (nd o0 (lf atD) (lf o1)))) (nd o0 (nd o49 (nd o93 (nd o1 (lf aD4) .nil) (lf ayB)) (nd asH (lf asB) (lf az6))) (nd o69 (nd avX (nd as8 (lf o1) .nil) (lf ab6)) (nd awK (lf asG) (lf aCC))))) (nd o1 (nd o0 (nd (o44 P) (nd o86 (nd o0 (lf o1) .nil) (lf aAG)) (nd awL (lf o1) (lf o0))) (nd o65 (nd avQ (nd at0 (lf o0) .nil) (lf ay4)) (nd o0 (lf au6) (lf ayY)))) (nd o34 (nd o54 (nd o98 (nd (awQ P) (lf ayD) .nil) (lf (aBV P))) (nd ar9 (lf ar7) (lf o0))) (nd o11 (nd atP (nd awZ (lf aBF) .nil) (lf o1)) (nd auD (lf o0) (lf aBS)))))) (nd o3 (nd o10 (nd o0 (nd o40 (nd o82 (nd o0 (lf aBY) .nil) (lf o1)) (nd auT (nd arZ (lf o0) .nil) (lf aDO))) (nd o62 (nd at8 (nd o0 (lf o0) .nil) (lf o0)) (nd aw8 (lf avE) (lf aDR)))) (nd o0 (nd o1 (nd o96 (nd awH (lf o1) .nil) (lf ayQ)) (nd atF (lf o11) (lf o0))) (nd o72 (nd avC (nd (awU P) (lf aA5) .nil) (lf aA6)) (nd o1 (lf at6) (lf (aB9 P)))))) (nd (o15 P) (nd o27 (nd o20 (nd (o91 P) (nd au3 (lf azM) .nil) (lf aBA)) (nd ar1 (lf auB) (lf azD))) (nd o11 (nd avY (nd (auU P) (lf aD7) .nil) (lf (aAP P))) (nd o0 (lf o0) (lf aDM)))) (nd o0 (nd o58 (nd o1 (nd asK (lf aB1) .nil) (lf azL)) (nd o0 (lf o1) (lf aCE))) (nd o77 (nd ar6 (nd o0 (lf azJ) .nil) (lf aAH)) (nd axE (lf o0) (lf o0)))))))))
def s3(w:World)(os:OsState):SharedT:=⟨t3 w.params,586,⟨[],[],[],0,[],[],false,#[],[],0,false,false,false,0,[2000,10,10],false,0,true,[],[],0,false⟩,#[],⟨0,0,0,0⟩,990,os⟩
def l2:List Stmt:=(bi.drop 50).take 22
theorem r2(w:World)(os:OsState):
  segRunT treeTable pw w 11 an 1 1882 (s2 w os) (piecesOf l2 ev cd ⟨148,0,161,36⟩ bk) =
  some (.next,s3 w os,cd,⟨288,0,292,16⟩):=
 byRow2 "special-get-raises" (P:=fun w=>segRunT treeTable pw w 11 an 1 1882 (s2 w os) (piecesOf l2 ev cd ⟨148,0,161,36⟩ bk)=some (.next,s3 w os,cd,⟨288,0,292,16⟩)) (fun w=>by kernel_rfl) (fun w=>by kernel_rfl) w
def aE2(P:Params):Obj:=di [(de P "__name__" 165 (.str "law_fivefields_k46_rows_refused" 1114)),(de P "__doc__" 166 .none),(de P "__package__" 167 .none),(de P "__loader__" 168 (.builtin "__main__.__loader__#opaque")),(de P "__spec__" 169 .none),(de P "__annotations__" 170 (r 6)),(de P "__builtins__" 171 (r 4)),(de P "__file__" 173 (sf 172)),(de P "__cached__" 174 .none),(de P "_wall" 193 (r 21)),(de P "FieldError" 213 (r 31)),(de P "NoDay" 229 (r 44)),(de P "NoMoment" 245 (r 56)),(de P "NoField" 270 (r 75)),(de P "NoRow" 295 (r 94)),(de P "NoBook" 311 (r 106)),(de P "NoClock" 327 (r 118)),(de P "NoName" 352 (r 137)),(de P "NoWord" 368 (r 149)),(de P "FIGURES" 372 (.str "0123456789" 371)),(de P "all_figures" 378 (r 156)),(de P "is_written" 385 (r 163)),(de P "has" 395 (r 170)),(de P "starts_of" 401 (r 175)),(de P "end_from" 410 (r 182)),(de P "ranges_of" 416 (r 187)),(de P "shown_range" 424 (r 194)),(de P "shown_ranges" 430 (r 199)),(de P "MOST_SIGNS" 434 (.int 300 433)),(de P "MOST_ITEMS" 436 (.int 40 435)),(de P "MOST_STRIDE" 438 (.int 99 437)),(de P "mask_of" 447 (r 206)),(de P "numbers_in" 453 (r 211)),(de P "run_mask" 462 (r 218)),(de P "read_number" 472 (r 225)),(de P "read_run" 478 (r 230)),(de P "read_strided" 491 (r 237)),(de P "read_item" 502 (r 244)),(de P "read_field" 516 (r 251)),(de P "MOST_MARKS" 520 (.int 20 519)),(de P "MOST_DAY" 522 (.int 31 521)),(de P "MOST_BACK" 524 (.int 30 523)),(de P "MOST_NTH" 526 (.int 5 525)),(de P "SUNDAY" 528 (.int 0 527)),(de P "SATURDAY" 530 (.int 6 529)),(de P "SUNDAY_TOO" 532 (.int 7 531)),(de P "ALL_WEEKDAYS" 534 (.int 127 533)),(de P "weekday_at" 542 (r 258)),(de P "all_days" 549 (r 265)),(de P "nearest_work" 559 (r 272)),(de P "first_one" 567 (r 279)),(de P "Mark" 603 (r 303)),(de P "Numbers" 644 (r 338)),(de P "Last" 686 (r 372)),(de P "Near" 727 (r 405)),(de P "LastWork" 759 (r 431)),(de P "Weekdays" 802 (r 464)),(de P "Nth" 846 (r 497)),(de P "LastOne" 887 (r 530)),(de P "read_day_mark" 896 (r 539)),(de P "read_weekday" 904 (r 546)),(de P "read_weekday_mark" 914 (r 553)),(de P "read_items" 931 (r 560)),(de P "read_days" 939 (r 567)),(de P "read_weekdays" 948 (r 574)),(de P "HOUR_MINUTES" 950 (.int 60 949)),(de P "MOST_ROW_SIGNS" 954 (.int 1600 953)),(de P "MINUTE" 956 (.int 0 955)),(de P "HOUR" 958 (.int 1 957)),(de P "DAY" 960 (.int 2 959)),(de P "MONTH" 962 (.int 3 961)),(de P "WEEKDAY" 964 (.int 4 963)),(de P "NO_PLACE" 966 (.int 5 965)),(de P "BOUNDS" 979 (r 575)),(de P "times_of" 989 (r 585)),(de P "Row" 1090 (r 665)),(de P "read_word" 1099 (r 676)),(de P "read_at" 1107 (r 683)),(de P "read_row" 1113 (r 688)),(de P "_law_cell_at" 1123 (r 695)),(de P "_law_stir" 1132 (r 702)),(de P "_law_digits" 1143 (r 709)),(de P "_law_whole" 1150 (r 716)),(de P "_law_item" 1163 (r 723)),(de P "_law_mask" 1169 (r 728)),(de P "_law_spec" 1175 (r 733)),(de P "_law_field" 1196 (r 740)),(de P "_law_day_field" 1211 (r 747)),(de P "_law_row" 1217 (r 752)),(de P "_law_cells" 1223 (r 757)),(de P "_law_wrong" 1232 (r 764)),(de P "_law_words" 1242 (r 771)),(de P "_law_told" 1251 (r 778)),(de P "_law_spoilt" 1261 (r 785)),(de P "law" 1275 (r 792))] 95
def aHG:Obj:=fd [(i 1),(i 0),(r 20),(i 5),(i 0),(r 27),(i 7),(i 0),(r 40),(i 9),(i 0),(r 52),(i 11),(i 0),(r 64),(i 15),(i 0),(r 83),(i 19),(i 0),(r 102),(i 21),(i 0),(r 114),(i 23),(i 0),(r 126),(i 27),(i 0),(r 145),(i 31),(i 0),(r 155),(i 33),(i 0),(r 162),(i 36),(i 0),(r 169),(i 38),(i 0),(r 174),(i 41),(i 0),(r 181),(i 46),(i 0),(r 186),(i 48),(i 0),(r 193),(i 52),(i 0),(r 198),(i 58),(i 0),(r 205),(i 63),(i 0),(r 210),(i 65),(i 0),(r 217),(i 67),(i 0),(r 224),(i 74),(i 0),(r 229),(i 81),(i 0),(r 236),(i 88),(i 0),(r 243),(i 96),(i 0),(r 250),(i 118),(i 0),(r 257),(i 120),(i 0),(r 264),(i 122),(i 0),(r 271),(i 129),(i 0),(r 278),(i 131),(i 0),(r 285),(i 138),(i 0),(r 313),(i 148),(i 0),(r 346),(i 162),(i 0),(r 380),(i 174),(i 0),(r 413),(i 181),(i 0),(r 439),(i 194),(i 0),(r 472),(i 208),(i 0),(r 505),(i 218),(i 0),(r 538),(i 230),(i 0),(r 545),(i 233),(i 0),(r 552),(i 245),(i 0),(r 559),(i 263),(i 0),(r 566),(i 270),(i 0),(r 573),(i 288),(i 0),(r 584),(i 293),(i 0),(r 591),(i 329),(i 0),(r 675),(i 336),(i 0),(r 682),(i 341),(i 0),(r 687),(i 349),(i 0),(r 694),(i 353),(i 0),(r 701),(i 357),(i 0),(r 708),(i 368),(i 0),(r 715),(i 370),(i 0),(r 722),(i 384),(i 0),(r 727),(i 386),(i 0),(r 732),(i 406),(i 0),(r 739),(i 419),(i 0),(r 746),(i 430),(i 0),(r 751),(i 438),(i 0),(r 756),(i 440),(i 0),(r 763),(i 445),(i 0),(r 770),(i 460),(i 0),(r 777),(i 470),(i 0),(r 784),(i 482),(i 0),(r 791)]
def aJV(P:Params):Obj:=di [(de P "__module__" 997 (.str "fivefields.rows" 951)),(de P "__qualname__" 999 (.str "Row" 998)),(de P "__firstlineno__" 1001 (.int 293 1000)),(de P "__init__" 1009 (r 599)),(de P "minutes" 1016 (r 606)),(de P "hours" 1023 (r 613)),(de P "months" 1030 (r 620)),(de P "times" 1037 (r 627)),(de P "days_in" 1045 (r 634)),(de P "on_days" 1053 (r 641)),(de P "holds" 1061 (r 648)),(de P "shut_by" 1069 (r 655)),(de P "shown" 1076 (r 662)),(de P "__static_attributes__" 1083 (r 663))] 14
def aES:Obj:=fd [(i 295),(i 4),(r 598),(i 303),(i 4),(r 605),(i 306),(i 4),(r 612),(i 309),(i 4),(r 619),(i 312),(i 4),(r 626),(i 315),(i 4),(r 633),(i 318),(i 4),(r 640),(i 321),(i 4),(r 647),(i 324),(i 4),(r 654),(i 327),(i 4),(r 661)]
def aEO:Obj:=co [(.str "Row" 992),(.str "Row" 993),(sf 994),(i 293),(i 0),(i 0),(i 0),(i 0),(r 589),(.bool false),(i 181),(r 590),.none,.none,.none,.none,(i 995),(i 293),(sf 996)]
def aI3:Obj:=⟨(.type "frame"),none,.plain,#[(some (r 591)),(some (r 3)),(some (r 588)),none,(some (.str "fivefields.rows" 951)),none,(some (r 0))]⟩
def aG5:Obj:=tu [(.str "self" 1005),(.str "fields" 1006)]
def aEJ:Obj:=fz "__init__" "Row.__init__" (ib (tp 72) 0)
def aIP:Obj:=co [(.str "__init__" 1002),(.str "Row.__init__" 1003),(sf 1004),(i 295),(i 2),(i 0),(i 0),(i 3),(r 593),(.bool true),(i 181),(r 594),.none,(r 595),(r 596),(r 597),(i 1007),(i 295),(sf 1008)]
def aHT:Obj:=fn "__init__" "Row.__init__" (ib (tp 72) 0) 3 [] .none .none .none (.str "fivefields.rows" 951) none (r 598) .none 0
def aFE:Obj:=tu [(.str "self" 1013)]
def aJK:Obj:=⟨.none,none,(.func ⟨"minutes","Row.minutes",(ag (ib (tp 72) 1)),(.stmts (bd (ib (tp 72) 1))),(sc (ib (tp 47) 1)),0,[],.none,.none,.none,.none,none,.none,.none,0⟩),#[]⟩
def aE7:Obj:=co [(.str "minutes" 1010),(.str "Row.minutes" 1011),(sf 1012),(i 303),(i 1),(i 0),(i 0),(i 3),(r 600),(.bool true),(i 181),(r 601),.none,(r 602),(r 603),(r 604),(i 1014),(i 303),(sf 1015)]
def aH3:Obj:=⟨(.type "function"),none,(.func ⟨"minutes","Row.minutes",(ag (ib (tp 72) 1)),(.stmts (bd (ib (tp 72) 1))),(sc (ib (tp 47) 1)),3,[],.none,.none,.none,(.str "fivefields.rows" 951),none,(r 605),.none,0⟩),#[]⟩
def aHE:Obj:=tu [(.str "self" 1020)]
def aHO:Obj:=⟨.none,none,(.func ⟨"hours","Row.hours",(ag (ib (tp 72) 2)),(.stmts (bd (ib (tp 72) 2))),(sc (ib (tp 47) 1)),0,[],.none,.none,.none,.none,none,.none,.none,0⟩),#[]⟩
def aFT:Obj:=co [(.str "hours" 1017),(.str "Row.hours" 1018),(sf 1019),(i 306),(i 1),(i 0),(i 0),(i 3),(r 607),(.bool true),(i 181),(r 608),.none,(r 609),(r 610),(r 611),(i 1021),(i 306),(sf 1022)]
def aJC:Obj:=⟨(.type "function"),none,(.func ⟨"hours","Row.hours",(ag (ib (tp 72) 2)),(.stmts (bd (ib (tp 72) 2))),(sc (ib (tp 47) 1)),3,[],.none,.none,.none,(.str "fivefields.rows" 951),none,(r 612),.none,0⟩),#[]⟩
def aJ2:Obj:=tu [(.str "self" 1027)]
def aHQ:Obj:=fz "months" "Row.months" (ib (tp 72) 3)
def aIV:Obj:=co [(.str "months" 1024),(.str "Row.months" 1025),(sf 1026),(i 309),(i 1),(i 0),(i 0),(i 3),(r 614),(.bool true),(i 181),(r 615),.none,(r 616),(r 617),(r 618),(i 1028),(i 309),(sf 1029)]
def aGY:Obj:=fn "months" "Row.months" (ib (tp 72) 3) 3 [] .none .none .none (.str "fivefields.rows" 951) none (r 619) .none 0
def aG9:Obj:=tu [(.str "self" 1034)]
def aEG:Obj:=⟨.none,none,(.func ⟨"times","Row.times",(ag (ib (tp 72) 4)),(.stmts (bd (ib (tp 72) 4))),(sc (ib (tp 47) 1)),0,[],.none,.none,.none,.none,none,.none,.none,0⟩),#[]⟩
def aGC:Obj:=co [(.str "times" 1031),(.str "Row.times" 1032),(sf 1033),(i 312),(i 1),(i 0),(i 0),(i 3),(r 621),(.bool true),(i 181),(r 622),.none,(r 623),(r 624),(r 625),(i 1035),(i 312),(sf 1036)]
def aGX:Obj:=⟨(.type "function"),none,(.func ⟨"times","Row.times",(ag (ib (tp 72) 4)),(.stmts (bd (ib (tp 72) 4))),(sc (ib (tp 47) 1)),3,[],.none,.none,.none,(.str "fivefields.rows" 951),none,(r 626),.none,0⟩),#[]⟩
def aHP:Obj:=tu [(.str "self" 1041),(.str "kind" 1042)]
def aJH:Obj:=fz "days_in" "Row.days_in" (ib (tp 72) 5)
def aID:Obj:=co [(.str "days_in" 1038),(.str "Row.days_in" 1039),(sf 1040),(i 315),(i 2),(i 0),(i 0),(i 3),(r 628),(.bool true),(i 181),(r 629),.none,(r 630),(r 631),(r 632),(i 1043),(i 315),(sf 1044)]
def aJ1:Obj:=fn "days_in" "Row.days_in" (ib (tp 72) 5) 3 [] .none .none .none (.str "fivefields.rows" 951) none (r 633) .none 0
def aG4:Obj:=tu [(.str "self" 1049),(.str "kind" 1050)]
def aFZ:Obj:=⟨.none,none,(.func ⟨"on_days","Row.on_days",(ag (ib (tp 72) 6)),(.stmts (bd (ib (tp 72) 6))),(sc (ib (tp 72) 5)),0,[],.none,.none,.none,.none,none,.none,.none,0⟩),#[]⟩
def aJP:Obj:=co [(.str "on_days" 1046),(.str "Row.on_days" 1047),(sf 1048),(i 318),(i 2),(i 0),(i 0),(i 3),(r 635),(.bool true),(i 181),(r 636),.none,(r 637),(r 638),(r 639),(i 1051),(i 318),(sf 1052)]
def aEH:Obj:=⟨(.type "function"),none,(.func ⟨"on_days","Row.on_days",(ag (ib (tp 72) 6)),(.stmts (bd (ib (tp 72) 6))),(sc (ib (tp 72) 5)),3,[],.none,.none,.none,(.str "fivefields.rows" 951),none,(r 640),.none,0⟩),#[]⟩
def aJY:Obj:=tu [(.str "self" 1057),(.str "moment" 1058)]
def aGW:Obj:=fz "holds" "Row.holds" (ib (tp 72) 7)
def aEV:Obj:=co [(.str "holds" 1054),(.str "Row.holds" 1055),(sf 1056),(i 321),(i 2),(i 0),(i 0),(i 3),(r 642),(.bool true),(i 181),(r 643),.none,(r 644),(r 645),(r 646),(i 1059),(i 321),(sf 1060)]
def aJD:Obj:=fn "holds" "Row.holds" (ib (tp 72) 7) 3 [] .none .none .none (.str "fivefields.rows" 951) none (r 647) .none 0
def aFA:Obj:=tu [(.str "self" 1065),(.str "moment" 1066)]
def aF3:Obj:=⟨.none,none,(.func ⟨"shut_by","Row.shut_by",(ag (ib (tp 72) 8)),(.stmts (bd (ib (tp 72) 8))),(sc (ib (tp 72) 7)),0,[],.none,.none,.none,.none,none,.none,.none,0⟩),#[]⟩
def aE3:Obj:=co [(.str "shut_by" 1062),(.str "Row.shut_by" 1063),(sf 1064),(i 324),(i 2),(i 0),(i 0),(i 3),(r 649),(.bool true),(i 181),(r 650),.none,(r 651),(r 652),(r 653),(i 1067),(i 324),(sf 1068)]
def aJ3:Obj:=⟨(.type "function"),none,(.func ⟨"shut_by","Row.shut_by",(ag (ib (tp 72) 8)),(.stmts (bd (ib (tp 72) 8))),(sc (ib (tp 72) 7)),3,[],.none,.none,.none,(.str "fivefields.rows" 951),none,(r 654),.none,0⟩),#[]⟩
def aHA:Obj:=tu [(.str "self" 1073)]
def aI8:Obj:=⟨.none,none,(.func ⟨"shown","Row.shown",(ag (ib (tp 72) 9)),(.stmts (bd (ib (tp 72) 9))),(sc (ib (tp 72) 3)),0,[],.none,.none,.none,.none,none,.none,.none,0⟩),#[]⟩
def aJ4:Obj:=co [(.str "shown" 1070),(.str "Row.shown" 1071),(sf 1072),(i 327),(i 1),(i 0),(i 0),(i 3),(r 656),(.bool true),(i 181),(r 657),.none,(r 658),(r 659),(r 660),(i 1074),(i 327),(sf 1075)]
def aE4:Obj:=⟨(.type "function"),none,(.func ⟨"shown","Row.shown",(ag (ib (tp 72) 9)),(.stmts (bd (ib (tp 72) 9))),(sc (ib (tp 72) 3)),3,[],.none,.none,.none,(.str "fivefields.rows" 951),none,(r 661),.none,0⟩),#[]⟩
def aGR:Obj:=tu [(.str "day_marks" 1077),(.str "hour_mask" 1078),(.str "minute_mask" 1079),(.str "month_mask" 1080),(.str "time_mask" 1081),(.str "weekday_marks" 1082)]
def aH8(P:Params):Obj:=di [(de P "__module__" 997 (.str "fivefields.rows" 951)),(de P "__firstlineno__" 1001 (.int 293 1000)),(de P "__init__" 1009 (r 599)),(de P "minutes" 1016 (r 606)),(de P "hours" 1023 (r 613)),(de P "months" 1030 (r 620)),(de P "times" 1037 (r 627)),(de P "days_in" 1045 (r 634)),(de P "on_days" 1053 (r 641)),(de P "holds" 1061 (r 648)),(de P "shut_by" 1069 (r 655)),(de P "shown" 1076 (r 662)),(de P "__static_attributes__" 1083 (r 663)),(de P "__dict__" 1085 (r 666)),(de P "__weakref__" 1087 (r 667)),(de P "__doc__" 1088 .none)] 4
def aGI:Obj:=⟨(.type "type"),none,(.cls ⟨"Row",[(.type "object")],[(r 665),(.type "object")],664,"Row",true,[],[],false,none,false⟩),#[none,none,(some (.str "Row" 990)),(some (.str "Row" 998)),(some (.builtin "object.__new__")),(some (.bool true))]⟩
def aFQ:Obj:=⟨(.type "getset_descriptor"),none,(.fields #[(.str "__dict__" 1084),(r 665),(.builtin "function.__dict__"),(.builtin "function.__dict__#set")]),#[]⟩
def aHU:Obj:=⟨(.type "getset_descriptor"),none,(.fields #[(.str "__weakref__" 1086),(r 665),(.builtin "ExceptionGroup.__weakref__"),.none]),#[]⟩
def aEM:Obj:=⟨(.type "super"),none,(.fields #[(r 665),(r 665),(r 665)]),#[]⟩
def aG0:Obj:=⟨(.type "builtin_function_or_method"),none,(.fields #[(.builtin "object.__init_subclass__"),(r 665)]),#[]⟩
def aJ5:Obj:=tu [(.str "word" 1094),(.str "place" 1095),(.str "bounds" 1096)]
def aIG:Obj:=fz "read_word" "read_word" (tp 73)
def aJZ:Obj:=co [(.str "read_word" 1091),(.str "read_word" 1092),(sf 1093),(i 329),(i 2),(i 0),(i 0),(i 3),(r 670),(.bool true),(i 181),(r 671),.none,(r 672),(r 673),(r 674),(i 1097),(i 329),(sf 1098)]
def aE1:Obj:=fn "read_word" "read_word" (tp 73) 3 [] .none .none .none (.str "fivefields.rows" 951) none (r 675) .none 0
def aH9:Obj:=tu [(.str "word" 1103),(.str "place" 1104)]
def aFW:Obj:=fz "read_at" "read_at" (tp 74)
def aH4:Obj:=co [(.str "read_at" 1100),(.str "read_at" 1101),(sf 1102),(i 336),(i 2),(i 0),(i 0),(i 3),(r 677),(.bool true),(i 181),(r 678),.none,(r 679),(r 680),(r 681),(i 1105),(i 336),(sf 1106)]
def aG1:Obj:=fn "read_at" "read_at" (tp 74) 3 [] .none .none .none (.str "fivefields.rows" 951) none (r 682) .none 0
def aIK:Obj:=fz "read_row" "read_row" (tp 75)
def aG2:Obj:=co [(.str "read_row" 1108),(.str "read_row" 1109),(sf 1110),(i 341),(i 1),(i 0),(i 0),(i 3),(r 684),(.bool true),(i 181),(r 685),.none,.none,.none,(r 686),(i 1111),(i 341),(sf 1112)]
def aIZ:Obj:=fn "read_row" "read_row" (tp 75) 3 [] .none .none .none (.str "fivefields.rows" 951) none (r 687) .none 0
def aEP:Obj:=tu [(.str "_law_script" 1119),(.str "_law_k" 1120)]
def aHR:Obj:=fz "_law_cell_at" "_law_cell_at" (tp 77)
def aEI:Obj:=co [(.str "_law_cell_at" 1116),(.str "_law_cell_at" 1117),(sf 1118),(i 349),(i 2),(i 0),(i 0),(i 3),(r 689),(.bool true),(i 181),(r 690),.none,(r 691),(r 692),(r 693),(i 1121),(i 349),(sf 1122)]
def aIH:Obj:=fn "_law_cell_at" "_law_cell_at" (tp 77) 3 [] .none .none .none (.str "law_fivefields_k46_rows_refused" 1114) none (r 694) .none 0
def aFM:Obj:=tu [(.str "_law_number" 1127),(.str "_law_first" 1128),(.str "_law_second" 1129)]
def aJE:Obj:=fz "_law_stir" "_law_stir" (tp 78)
def aJM:Obj:=co [(.str "_law_stir" 1124),(.str "_law_stir" 1125),(sf 1126),(i 353),(i 1),(i 0),(i 0),(i 3),(r 696),(.bool true),(i 181),(r 697),.none,(r 698),(r 699),(r 700),(i 1130),(i 353),(sf 1131)]
def aHK:Obj:=fn "_law_stir" "_law_stir" (tp 78) 3 [] .none .none .none (.str "law_fivefields_k46_rows_refused" 1114) none (r 701) .none 0
def aHM:Obj:=tu [(.str "_law_cell" 1136),(.str "_law_sizes" 1137),(.str "_law_mixed" 1138),(.str "_law_found" 1139),(.str "_law_size" 1140)]
def aHF:Obj:=fz "_law_digits" "_law_digits" (tp 79)
def aFH:Obj:=co [(.str "_law_digits" 1133),(.str "_law_digits" 1134),(sf 1135),(i 357),(i 3),(i 0),(i 0),(i 3),(r 703),(.bool true),(i 181),(r 704),.none,(r 705),(r 706),(r 707),(i 1141),(i 357),(sf 1142)]
def aF6:Obj:=fn "_law_digits" "_law_digits" (tp 79) 3 [] .none .none .none (.str "law_fivefields_k46_rows_refused" 1114) none (r 708) .none 0
def aEQ:Obj:=tu [(.str "_law_found" 1147)]
def aGK:Obj:=fz "_law_whole" "_law_whole" (tp 80)
def aEK:Obj:=co [(.str "_law_whole" 1144),(.str "_law_whole" 1145),(sf 1146),(i 368),(i 1),(i 0),(i 0),(i 3),(r 710),(.bool true),(i 181),(r 711),.none,(r 712),(r 713),(r 714),(i 1148),(i 368),(sf 1149)]
def aG6:Obj:=fn "_law_whole" "_law_whole" (tp 80) 3 [] .none .none .none (.str "law_fivefields_k46_rows_refused" 1114) none (r 715) .none 0
def aEY:Obj:=tu [(.str "_law_way" 1154),(.str "_law_first" 1155),(.str "_law_last" 1156),(.str "_law_step" 1157),(.str "_law_bounds" 1158),(.str "_law_low" 1159),(.str "_law_high" 1160)]
def aER:Obj:=fz "_law_item" "_law_item" (tp 81)
def aFN:Obj:=co [(.str "_law_item" 1151),(.str "_law_item" 1152),(sf 1153),(i 370),(i 5),(i 0),(i 0),(i 3),(r 717),(.bool true),(i 181),(r 718),.none,(r 719),(r 720),(r 721),(i 1161),(i 370),(sf 1162)]
def aGG:Obj:=fn "_law_item" "_law_item" (tp 81) 3 [] .none .none .none (.str "law_fivefields_k46_rows_refused" 1114) none (r 722) .none 0
def aIJ:Obj:=fz "_law_mask" "_law_mask" (tp 82)
def aIX:Obj:=co [(.str "_law_mask" 1164),(.str "_law_mask" 1165),(sf 1166),(i 384),(i 1),(i 0),(i 0),(i 3),(r 724),(.bool true),(i 181),(r 725),.none,.none,.none,(r 726),(i 1167),(i 384),(sf 1168)]
def aHC:Obj:=fn "_law_mask" "_law_mask" (tp 82) 3 [] .none .none .none (.str "law_fivefields_k46_rows_refused" 1114) none (r 727) .none 0
def aGM:Obj:=fz "_law_spec" "_law_spec" (tp 83)
def aEU:Obj:=co [(.str "_law_spec" 1170),(.str "_law_spec" 1171),(sf 1172),(i 386),(i 2),(i 0),(i 0),(i 3),(r 729),(.bool true),(i 181),(r 730),.none,.none,.none,(r 731),(i 1173),(i 386),(sf 1174)]
def aG7:Obj:=fn "_law_spec" "_law_spec" (tp 83) 3 [] .none .none .none (.str "law_fivefields_k46_rows_refused" 1114) none (r 732) .none 0
def aFD:Obj:=tu [(.str "_law_cell" 1179),(.str "_law_low" 1180),(.str "_law_high" 1181),(.str "_law_mixed" 1182),(.str "_law_wide" 1183),(.str "_law_parts" 1184),(.str "_law_texts" 1185),(.str "_law_numbers" 1186),(.str "_law_k" 1187),(.str "_law_way" 1188),(.str "_law_first" 1189),(.str "_law_last" 1190),(.str "_law_step" 1191),(.str "_law_text" 1192),(.str "_law_some" 1193)]
def aJS:Obj:=fz "_law_field" "_law_field" (tp 84)
def aIS:Obj:=co [(.str "_law_field" 1176),(.str "_law_field" 1177),(sf 1178),(i 406),(i 4),(i 0),(i 0),(i 3),(r 734),(.bool true),(i 181),(r 735),.none,(r 736),(r 737),(r 738),(i 1194),(i 406),(sf 1195)]
def aH1:Obj:=fn "_law_field" "_law_field" (tp 84) 3 [] .none .none .none (.str "law_fivefields_k46_rows_refused" 1114) none (r 739) .none 0
def aJG:Obj:=tu [(.str "_law_cell" 1200),(.str "_law_week" 1201),(.str "_law_mixed" 1202),(.str "_law_parts" 1203),(.str "_law_texts" 1204),(.str "_law_specs" 1205),(.str "_law_k" 1206),(.str "_law_text" 1207),(.str "_law_spec_here" 1208)]
def aI6:Obj:=fz "_law_day_field" "_law_day_field" (tp 85)
def aH6:Obj:=co [(.str "_law_day_field" 1197),(.str "_law_day_field" 1198),(sf 1199),(i 419),(i 3),(i 0),(i 0),(i 3),(r 741),(.bool true),(i 181),(r 742),.none,(r 743),(r 744),(r 745),(i 1209),(i 419),(sf 1210)]
def aGA:Obj:=fn "_law_day_field" "_law_day_field" (tp 85) 3 [] .none .none .none (.str "law_fivefields_k46_rows_refused" 1114) none (r 746) .none 0
def aFF:Obj:=fz "_law_row" "_law_row" (tp 86)
def aI5:Obj:=co [(.str "_law_row" 1212),(.str "_law_row" 1213),(sf 1214),(i 430),(i 2),(i 0),(i 0),(i 3),(r 748),(.bool true),(i 181),(r 749),.none,.none,.none,(r 750),(i 1215),(i 430),(sf 1216)]
def aFS:Obj:=fn "_law_row" "_law_row" (tp 86) 3 [] .none .none .none (.str "law_fivefields_k46_rows_refused" 1114) none (r 751) .none 0
def aGZ:Obj:=fz "_law_cells" "_law_cells" (tp 87)
def aF9:Obj:=co [(.str "_law_cells" 1218),(.str "_law_cells" 1219),(sf 1220),(i 438),(i 2),(i 0),(i 0),(i 3),(r 753),(.bool true),(i 181),(r 754),.none,.none,.none,(r 755),(i 1221),(i 438),(sf 1222)]
def aI1:Obj:=fn "_law_cells" "_law_cells" (tp 87) 3 [] .none .none .none (.str "law_fivefields_k46_rows_refused" 1114) none (r 756) .none 0
def aGF:Obj:=tu [(.str "_law_place" 1227),(.str "_law_turn" 1228),(.str "_law_some" 1229)]
def aF7:Obj:=fz "_law_wrong" "_law_wrong" (tp 88)
def aIR:Obj:=co [(.str "_law_wrong" 1224),(.str "_law_wrong" 1225),(sf 1226),(i 440),(i 2),(i 0),(i 0),(i 3),(r 758),(.bool true),(i 181),(r 759),.none,(r 760),(r 761),(r 762),(i 1230),(i 440),(sf 1231)]
def aJL:Obj:=fn "_law_wrong" "_law_wrong" (tp 88) 3 [] .none .none .none (.str "law_fivefields_k46_rows_refused" 1114) none (r 763) .none 0
def aJX:Obj:=tu [(.str "_law_words_here" 1236),(.str "_law_way" 1237),(.str "_law_turn" 1238),(.str "_law_text" 1239)]
def aE0:Obj:=fz "_law_words" "_law_words" (tp 89)
def aJU:Obj:=co [(.str "_law_words" 1233),(.str "_law_words" 1234),(sf 1235),(i 445),(i 3),(i 0),(i 0),(i 3),(r 765),(.bool true),(i 181),(r 766),.none,(r 767),(r 768),(r 769),(i 1240),(i 445),(sf 1241)]
def aIC:Obj:=fn "_law_words" "_law_words" (tp 89) 3 [] .none .none .none (.str "law_fivefields_k46_rows_refused" 1114) none (r 770) .none 0
def aJA:Obj:=tu [(.str "_law_text" 1246),(.str "_law_found" 1247),(.str "e" 1248)]
def aF8:Obj:=fz "_law_told" "_law_told" (tp 90)
def aIY:Obj:=co [(.str "_law_told" 1243),(.str "_law_told" 1244),(sf 1245),(i 460),(i 1),(i 0),(i 0),(i 3),(r 772),(.bool true),(i 181),(r 773),.none,(r 774),(r 775),(r 776),(i 1249),(i 460),(sf 1250)]
def aEB:Obj:=fn "_law_told" "_law_told" (tp 90) 3 [] .none .none .none (.str "law_fivefields_k46_rows_refused" 1114) none (r 777) .none 0
def aH2:Obj:=tu [(.str "_law_text" 1255),(.str "_law_parts" 1256),(.str "_law_words_here" 1257),(.str "_law_place" 1258)]
def aGN:Obj:=fz "_law_spoilt" "_law_spoilt" (tp 91)
def aIM:Obj:=co [(.str "_law_spoilt" 1252),(.str "_law_spoilt" 1253),(sf 1254),(i 470),(i 2),(i 0),(i 0),(i 3),(r 779),(.bool true),(i 181),(r 780),.none,(r 781),(r 782),(r 783),(i 1259),(i 470),(sf 1260)]
def aGL:Obj:=fn "_law_spoilt" "_law_spoilt" (tp 91) 3 [] .none .none .none (.str "law_fivefields_k46_rows_refused" 1114) none (r 784) .none 0
def aIQ:Obj:=tu [(.str "_law_script" 1265),(.str "_law_mixed" 1266),(.str "_law_text" 1267),(.str "_law_row_here" 1268),(.str "_law_k" 1269),(.str "_law_parts" 1270),(.str "_law_thing" 1271),(.str "_law_due" 1272)]
def aFV:Obj:=fz "law" "law" (tp 92)
def aJB:Obj:=co [(.str "law" 1262),(.str "law" 1263),(sf 1264),(i 482),(i 1),(i 0),(i 0),(i 3),(r 786),(.bool true),(i 181),(r 787),.none,(r 788),(r 789),(r 790),(i 1273),(i 482),(sf 1274)]
def aHI:Obj:=fn "law" "law" (tp 92) 3 [] .none .none .none (.str "law_fivefields_k46_rows_refused" 1114) none (r 791) .none 0
def t4(P:Params):BT:=(nd (boot_o_0 P) (nd (boot_o_1 P) (nd (aE2 P) (nd (boot_o_7 P) (nd o0 (nd o90 (nd o36 (nd o78 (nd o0 (lf aCA) (lf aJX)) (nd o1 (lf aFZ) .nil)) (nd o0 (nd arX (lf aDU) .nil) (nd ayX (lf o0) .nil))) (nd o59 (nd asI (nd o0 (lf o0) .nil) (nd o0 (lf o1) .nil)) (nd at4 (nd asA (lf o0) .nil) (nd aCX (lf o1) .nil)))) (nd o20 (nd o11 (nd o0 (nd ar4 (lf aAB) (lf aGN)) (nd o0 (lf aJ3) .nil)) (nd o0 (nd atS (lf aEO) .nil) (nd (aA8 P) (lf aEY) .nil))) (nd (o68 P) (nd aw5 (nd ayL (lf aBQ) .nil) (nd aAM (lf aG2) .nil)) (nd o1 (nd awI (lf aG9) .nil) (nd ayM (lf aI5) .nil))))) (nd o11 (nd o1 (nd o41 (nd o83 (nd asM (lf aAA) (lf o0)) (nd ayK (lf aEV) .nil)) (nd asW (nd aw4 (lf ayI) .nil) (nd o0 (lf o1) .nil))) (nd o63 (nd o0 (nd o1 (lf aC4) .nil) (nd o1 (lf aH9) .nil)) (nd o0 (nd o0 (lf o1) .nil) (nd aBN (lf aJG) .nil)))) (nd (o31 P) (nd o52 (nd o97 (nd ar2 (lf ayJ) (lf aJB)) (nd ayW (lf aGR) .nil)) (nd o0 (nd (avM P) (lf aHT) .nil) (nd azU (lf aIX) .nil))) (nd o73 (nd o0 (nd o0 (lf aDB) .nil) (nd aD8 (lf aIH) .nil)) (nd avS (nd ab6 (lf o0) .nil) (nd o0 (lf o1) .nil)))))) (nd o0 (nd o7 (nd o20 (nd o1 (nd o0 (nd o0 (lf o1) (lf aIC)) (nd aB2 (lf o1) .nil)) (nd o0 (nd o1 (lf o0) .nil) (nd o0 (lf aHF) .nil))) (nd (o61 P) (nd axC (nd avK (lf o0) .nil) (nd aD9 (lf aJZ) .nil)) (nd o1 (nd asE (lf aHO) .nil) (nd aAO (lf aIS) .nil)))) (nd o1 (nd o50 (nd o0 (nd axB (lf aCW) (lf o1)) (nd az3 (lf o0) .nil)) (nd auM (nd atV (lf aG5) .nil) (nd ab6 (lf aGG) .nil))) (nd o70 (nd o0 (nd auV (lf aCH) .nil) (nd o11 (lf aEP) .nil)) (nd asJ (nd (atL P) (lf aGX) .nil) (nd aBT (lf aGZ) .nil))))) (nd o13 (nd (o24 P) (nd o45 (nd o87 (nd o1 (lf aDV) (lf o0)) (nd azY (lf aFA) .nil)) (nd o0 (nd auS (lf o11) .nil) (nd aB0 (lf aEK) .nil))) (nd o66 (nd o0 (nd atG (lf o1) .nil) (nd azK (lf aG1) .nil)) (nd au9 (nd o0 (lf aIV) .nil) (nd o0 (lf aGA) .nil)))) (nd o20 (nd o55 (nd o99 (nd o0 (lf ay6) .nil) (nd o0 (lf aHU) .nil)) (nd o0 (nd atT (lf o0) .nil) (nd o1 (lf aGM) .nil))) (nd (o75 P) (nd asN (nd o0 (lf o0) .nil) (nd ay1 (lf o0) .nil)) (nd atJ (nd az5 (lf o0) .nil) (nd o0 (lf aIR) .nil))))))) (nd (boot_o_5 P) (nd (boot_o_9 P) (nd o6 (nd o18 (nd o38 (nd o1 (nd awC (lf azI) (lf aE0)) (nd o0 (lf aEH) .nil)) (nd aw7 (nd awT (lf aD2) .nil) (nd o1 (lf aHM) .nil))) (nd o20 (nd aw6 (nd awO (lf aCM) .nil) (nd aAD (lf o0) .nil)) (nd auZ (nd au0 (lf aHE) .nil) (nd o0 (lf o0) .nil)))) (nd (o28 P) (nd o0 (nd o92 (nd o0 (lf (aC1 P)) (lf aGL)) (nd aA9 (lf o1) .nil)) (nd as5 (nd (atW P) (lf o0) .nil) (nd azX (lf aER) .nil))) (nd o1 (nd o1 (nd axD (lf o0) .nil) (nd aAY (lf o0) .nil)) (nd o0 (nd av7 (lf aEG) .nil) (nd ayP (lf o0) .nil))))) (nd o0 (nd o23 (nd o43 (nd o85 (nd auF (lf o0) (lf aIY)) (nd aBB (lf o0) .nil)) (nd o1 (nd o0 (lf aB8) .nil) (nd ayV (lf o0) .nil))) (nd (o64 P) (nd au8 (nd o0 (lf aB5) .nil) (nd o0 (lf aFW) .nil)) (nd atC (nd atX (lf o0) .nil) (nd o1 (lf aI6) .nil)))) (nd o33 (nd o53 (nd o1 (nd o11 (lf aD3) .nil) (nd o11 (lf aGI) .nil)) (nd au5 (nd av9 (lf o1) .nil) (nd aAS (lf o0) .nil))) (nd o20 (nd auK (nd aw0 (lf o1) .nil) (nd o0 (lf o1) .nil)) (nd atM (nd (aBJ P) (lf aID) .nil) (nd aDY (lf o0) .nil)))))) (nd o2 (nd o9 (nd (o21 P) (nd o0 (nd o81 (nd avV (lf o0) (lf o1)) (nd o0 (lf o0) .nil)) (nd awP (nd o0 (lf aDI) .nil) (nd ay0 (lf aF6) .nil))) (nd o1 (nd o1 (nd awM (lf aAJ) .nil) (nd aDT (lf o0) .nil)) (nd avZ (nd o1 (lf aJC) .nil) (nd ayE (lf o0) .nil)))) (nd o30 (nd o0 (nd o95 (nd auN (lf o0) (lf o0)) (nd ay9 (lf aJ4) .nil)) (nd o1 (nd ab6 (lf aEJ) .nil) (nd (aDW P) (lf o1) .nil))) (nd (o71 P) (nd av8 (nd o11 (lf aAQ) .nil) (nd o0 (lf aHR) .nil)) (nd o0 (nd as7 (lf o1) .nil) (nd o11 (lf aI1) .nil))))) (nd o0 (nd o26 (nd o47 (nd o11 (nd o0 (lf aBW) (lf aH2)) (nd o1 (lf aF3) .nil)) (nd avR (nd ar5 (lf o0) .nil) (nd aDC (lf o0) .nil))) (nd o20 (nd as3 (nd o0 (lf o0) .nil) (nd o0 (lf o1) .nil)) (nd au7 (nd auO (lf o0) .nil) (nd aBZ (lf o1) .nil)))) (nd (o35 P) (nd (o57 P) (nd o0 (nd aw3 (lf o1) .nil) (nd aCN (lf aG0) .nil)) (nd avF (nd o0 (lf aE7) .nil) (nd o0 (lf aG7) .nil))) (nd o76 (nd o1 (nd av6 (lf aAL) .nil) (nd aAT (lf aJM) .nil)) (nd o1 (nd aDE (lf aG4) .nil) (nd aDL (lf o0) .nil)))))))) (nd (boot_o_2 P) (nd (boot_o_4 P) (nd (boot_o_8 P) (nd o1 (nd o17 (nd o37 (nd o0 (nd at5 (lf aDD) (lf o0)) (nd aA7 (lf aJP) .nil)) (nd av3 (nd as4 (lf aBX) .nil) (nd o0 (lf o1) .nil))) (nd o60 (nd o0 (nd o1 (lf aD6) .nil) (nd o1 (lf aJ5) .nil)) (nd avG (nd o0 (lf o1) .nil) (nd aBK (lf aFD) .nil)))) (nd o11 (nd (o48 P) (nd o1 (nd av0 (lf aDG) (lf aIM)) (nd azO (lf o0) .nil)) (nd o1 (nd axA (lf aI3) .nil) (nd ax9 (lf o0) .nil))) (nd o0 (nd o0 (nd avJ (lf aCJ) .nil) (nd aC8 (lf aIZ) .nil)) (nd avB (nd arW (lf o0) .nil) (nd (ayA P) (lf aFS) .nil))))) (nd (o12 P) (nd o22 (nd o42 (nd (o84 P) (nd asU (lf aA3) (lf aF8)) (nd o0 (lf aJD) .nil)) (nd o0 (nd awX (lf aBD) .nil) (nd o1 (lf aEQ) .nil))) (nd o0 (nd av4 (nd avW (lf aBM) .nil) (nd ayN (lf o0) .nil)) (nd o1 (nd awW (lf aJ2) .nil) (nd o0 (lf o0) .nil)))) (nd o32 (nd o0 (nd o0 (nd o0 (lf o0) (lf aHI)) (nd ab6 (lf (aH8 P)) .nil)) (nd atK (nd o0 (lf o0) .nil) (nd aAF (lf aHC) .nil))) (nd o74 (nd o1 (nd as0 (lf o0) .nil) (nd aDQ (lf o0) .nil)) (nd o0 (nd o11 (lf aJH) .nil) (nd ayU (lf aGF) .nil)))))) (nd aHG (nd o8 (nd o11 (nd o39 (nd o80 (nd o1 (lf aC6) (lf o0)) (nd aBP (lf aJY) .nil)) (nd o1 (nd arY (lf o1) .nil) (nd aA0 (lf aFH) .nil))) (nd o0 (nd o0 (nd ar0 (lf o1) .nil) (nd aD0 (lf aE1) .nil)) (nd auH (nd o0 (lf aFT) .nil) (nd o0 (lf aH1) .nil)))) (nd o29 (nd o51 (nd (o94 P) (nd o0 (lf aC5) (lf aIQ)) (nd (aDP P) (lf aI8) .nil)) (nd o0 (nd au4 (lf o0) .nil) (nd o11 (lf o0) .nil))) (nd o0 (nd at9 (nd ab6 (lf o0) .nil) (nd (aDH P) (lf o0) .nil)) (nd avT (nd auL (lf o0) .nil) (nd ab6 (lf aF9) .nil))))) (nd o14 (nd o25 (nd o46 (nd o20 (nd asV (lf o0) (lf o1)) (nd o0 (lf o0) .nil)) (nd awV (nd o0 (lf (aJV P)) .nil) (nd aDS (lf aG6) .nil))) (nd o67 (nd o1 (nd awR (lf azN) .nil) (nd aCI (lf o0) .nil)) (nd avU (nd o1 (lf aGY) .nil) (nd aBE (lf o0) .nil)))) (nd o11 (nd o56 (nd atB (nd awA (lf o0) .nil) (nd aCF (lf aEM) .nil)) (nd o1 (nd asO (lf aJK) .nil) (nd aAX (lf aEU) .nil))) (nd o0 (nd o0 (nd o1 (lf aB7) .nil) (nd o0 (lf aJE) .nil)) (nd o0 (nd ay2 (lf o1) .nil) (nd o1 (lf aJL) .nil))))))) (nd (boot_o_6 P) (nd (boot_o_10 P) (nd o0 (nd o19 (nd o0 (nd o79 (nd avH (lf o0) (lf aJU)) (nd azT (lf o0) .nil)) (nd au2 (nd o0 (lf aDK) .nil) (nd azA (lf o0) .nil))) (nd o11 (nd as6 (nd o0 (lf aDJ) .nil) (nd o0 (lf aIG) .nil)) (nd o0 (nd atD (lf o0) .nil) (nd o1 (lf aJS) .nil)))) (nd o0 (nd o49 (nd o93 (nd o1 (lf aD4) (lf o0)) (nd ayB (lf aHA) .nil)) (nd asH (nd asB (lf o1) .nil) (nd az6 (lf aFN) .nil))) (nd o69 (nd avX (nd as8 (lf o1) .nil) (nd ab6 (lf o1) .nil)) (nd awK (nd asG (lf aGC) .nil) (nd aCC (lf o1) .nil))))) (nd o1 (nd o0 (nd (o44 P) (nd o86 (nd o0 (lf o1) (lf aEB)) (nd aAG (lf o1) .nil)) (nd awL (nd o1 (lf o0) .nil) (nd o0 (lf aGK) .nil))) (nd o65 (nd avQ (nd at0 (lf o0) .nil) (nd ay4 (lf aH4) .nil)) (nd o0 (nd au6 (lf aHQ) .nil) (nd ayY (lf aH6) .nil)))) (nd o34 (nd o54 (nd o98 (nd (awQ P) (lf ayD) .nil) (nd (aBV P) (lf aFQ) .nil)) (nd ar9 (nd ar7 (lf aFE) .nil) (nd o0 (lf o1) .nil))) (nd o11 (nd atP (nd awZ (lf aBF) .nil) (nd o1 (lf aFM) .nil)) (nd auD (nd o0 (lf aJ1) .nil) (nd aBS (lf aF7) .nil)))))) (nd o3 (nd o10 (nd o0 (nd o40 (nd o82 (nd o0 (lf aBY) (lf aJA)) (nd o1 (lf aGW) .nil)) (nd auT (nd arZ (lf o0) .nil) (nd aDO (lf o0) .nil))) (nd o62 (nd at8 (nd o0 (lf o0) .nil) (nd o0 (lf o1) .nil)) (nd aw8 (nd avE (lf o0) .nil) (nd aDR (lf o1) .nil)))) (nd o0 (nd o1 (nd o96 (nd awH (lf o1) (lf aFV)) (nd ayQ (lf aE4) .nil)) (nd atF (nd o11 (lf aIP) .nil) (nd o0 (lf aIJ) .nil))) (nd o72 (nd avC (nd (awU P) (lf aA5) .nil) (nd aA6 (lf aEI) .nil)) (nd o1 (nd at6 (lf aHP) .nil) (nd (aB9 P) (lf o0) .nil))))) (nd (o15 P) (nd o27 (nd o20 (nd (o91 P) (nd au3 (lf azM) (lf o0)) (nd aBA (lf aE3) .nil)) (nd ar1 (nd auB (lf aES) .nil) (nd azD (lf o1) .nil))) (nd o11 (nd avY (nd (auU P) (lf aD7) .nil) (nd (aAP P) (lf aIK) .nil)) (nd o0 (nd o0 (lf o1) .nil) (nd aDM (lf aFF) .nil)))) (nd o0 (nd o58 (nd o1 (nd asK (lf aB1) .nil) (nd azL (lf o0) .nil)) (nd o0 (nd o1 (lf aH3) .nil) (nd aCE (lf o0) .nil))) (nd o77 (nd ar6 (nd o0 (lf azJ) .nil) (nd aAH (lf aHK) .nil)) (nd axE (nd o0 (lf o0) .nil) (nd o0 (lf o1) .nil)))))))))
def s4(w:World)(os:OsState):SharedT:=⟨t4 w.params,793,⟨[],[],[],0,[],[],false,#[],[],0,false,false,false,0,[2000,10,10],false,0,true,[],[],0,false⟩,#[],⟨0,0,0,0⟩,1276,os⟩
def l3:List Stmt:=(bi.drop 72).take 21
theorem r3(w:World)(os:OsState):
  segRunT treeTable pw w 11 an 1 1111 (s3 w os) (piecesOf l3 ev cd ⟨288,0,292,16⟩ bk) =
  some (.next,s4 w os,cd,⟨482,0,496,15⟩):=by kernel_rfl
def hF(P:Params):Heap:=⟨⟨[(boot_o_0 P),(boot_o_1 P),(boot_o_2 P),(aE2 P),(boot_o_4 P),(boot_o_5 P),(boot_o_6 P),(boot_o_7 P),(boot_o_8 P),(boot_o_9 P),(boot_o_10 P),o0,aHG,o2,o3,o0,o1,o6,o0,o7,o8,o9,o10,o11,(o12 P),o0,o1,o13,o14,o0,(o15 P),o90,o17,o18,o19,o20,o11,(o21 P),o0,o1,o22,o23,o0,(o24 P),o25,o26,o27,o20,o11,(o28 P),o0,o1,o29,o30,o0,(o31 P),o32,o33,o34,o20,o11,(o35 P),o0,o36,o37,o38,o0,o1,o39,o0,o40,o41,o42,o43,(o44 P),o45,o46,o47,o20,o11,(o48 P),o0,o49,o50,o51,o0,o1,o52,o0,o53,o54,o55,o56,(o57 P),o58,o59,o60,o20,o11,(o61 P),o0,o1,o62,o63,o0,(o64 P),o65,o66,o67,o20,o11,(o68 P),o0,o1,o69,o70,o0,(o71 P),o72,o73,o74,o20,o11,(o75 P),o0,o76,o77,o78,o0,o1,o79,o0,o80,o81,o82,o83,(o84 P),o85,o86,o87,o20,o11,(o91 P),o0,o1,o92,o93,o0,(o94 P),o95,o96,o97,o0,o1,o98,o99,atB,o0,o1,asI,o0,aw6,as6,axC,o0,o1,at8,o0,av4,au8,avQ,o0,o1,as3,avY,aw5,o0,o1,avX,o0,at9,av8,avC,o0,o1,auK,atP,asN,o0,o1,ar6,o0,av3,aw7,au2,o0,o1,awP,auT,asW,o0,o1,awL,o0,awV,avR,ar1,o0,o1,as5,asH,auM,o0,o1,atF,o0,atK,au5,ar9,o0,o1,avF,o0,at4,avG,auZ,o0,o1,auH,avZ,aw8,o0,o1,atC,o0,au9,avU,au7,o0,o1,avB,o0,awK,asJ,avT,o0,o1,avS,o0,atM,auD,atJ,o0,o1,axE,o0,at5,awC,avH,o0,o1,avV,o0,asM,asU,auF,o0,o1,asV,o0,au3,ar4,av0,o0,o1,axB,o0,auN,awH,ar2,o0,o11,(awQ P),o0,awA,aw3,asK,o0,o1,awO,o0,avK,ar0,awM,o0,o1,avW,o0,at0,atG,awR,o0,(auU P),ayL,avJ,axD,as8,auV,ab6,o11,(awU P),o0,as0,aw0,awZ,o0,o1,av6,o0,arX,as4,awT,o0,o1,arY,o0,arZ,aw4,awX,o0,o1,auS,o0,ar5,auB,atS,axA,(atW P),asB,atV,au4,ab6,o11,(avM P),o0,av9,ar7,atT,asO,o0,o1,asA,o0,au0,atD,asE,o0,o1,avE,o0,awW,atX,au6,o0,o1,auO,o0,awI,arW,av7,asG,(atL P),auL,as7,at6,ab6,o11,(aBJ P),o0,az5,ay2,aDE,o0,o1,aA7,o0,azT,aB2,aBP,o0,o1,ayK,o0,aBB,aAG,azY,o0,o1,aBA,o0,azO,aA9,ayB,az3,(aDP P),ay9,ayQ,ayW,ab6,o11,(aBV P),o0,aCF,aCN,azL,o0,o1,aAD,o0,aD9,aD0,aDT,o0,o1,ayN,o0,ay4,azK,aCI,o0,(aAP P),aAM,aC8,aAY,ab6,o11,(aDH P),o0,aA6,aD8,aDQ,o0,o1,ay1,o0,aAT,aAH,ayX,o0,o1,azA,o0,aA0,ay0,aDO,o0,o1,ayV,o0,aB0,aDS,aDC,azD,(aA8 P),ax9,azX,az6,ab6,o11,(aDW P),o0,azU,aAF,aAS,o0,o1,aAX,o0,aCE,aCX,aBK,o0,o1,aAO,o0,ayE,aDR,aBN,o0,o1,ayY,o0,aBE,aBZ,aDM,ayM,(ayA P),ayP,aCC,aBT,ab6,o11,(aB9 P),o0,ayU,aDY,aBS,o0,o1,aDL,o0,aCA,aDD,azI,o0,o1,aC6,o0,aBY,aAA,aA3,o0,o1,aDV,o0,aBW,azM,aAB,aDG,(aC1 P),aD4,aCW,aC5,o0,o1,ayJ,o0,aD3,ayD,ay6,o0,o1,aB1,o0,aD6,aCM,aDJ,o0,o1,aAJ,o0,aC4,aBM,aB5,o0,o1,azN,o0,aD7,aBQ,aCJ,o0,o1,aCH,o0,aAQ,aA5,aDB,o0,o1,aBF,o0,aB7,aAL,azJ,aDU,aBX,aD2,aDK,o0,o1,aDI,o0,ayI,aBD,aB8,o0,o11,(aJV P),o0,aES,aEO,aI3,o0,o1,aG5,o0,aEJ,aIP,aHT,o0,o1,aFE,o0,aJK,aE7,aH3,o0,o1,aHE,o0,aHO,aFT,aJC,o0,o1,aJ2,o0,aHQ,aIV,aGY,o0,o1,aG9,o0,aEG,aGC,aGX,o0,o1,aHP,o0,aJH,aID,aJ1,o0,o1,aG4,o0,aFZ,aJP,aEH,o0,o1,aJY,o0,aGW,aEV,aJD,o0,o1,aFA,o0,aF3,aE3,aJ3,o0,o1,aHA,o0,aI8,aJ4,aE4,aGR,(aH8 P),aGI,aFQ,aHU,aEM,aG0,o0,o1,aJ5,o0,aIG,aJZ,aE1,o0,o1,aH9,o0,aFW,aH4,aG1,o0,o1,aIK,aG2,aIZ,o0,o1,aEP,o0,aHR,aEI,aIH,o0,o1,aFM,o0,aJE,aJM,aHK,o0,o1,aHM,o0,aHF,aFH,aF6,o0,o1,aEQ,o0,aGK,aEK,aG6,o0,o1,aEY,o0,aER,aFN,aGG,o0,o1,aIJ,aIX,aHC,o0,o1,aGM,aEU,aG7,o0,o1,aFD,o0,aJS,aIS,aH1,o0,o1,aJG,o0,aI6,aH6,aGA,o0,o1,aFF,aI5,aFS,o0,o1,aGZ,aF9,aI1,o0,o1,aGF,o0,aF7,aIR,aJL,o0,o1,aJX,o0,aE0,aJU,aIC,o0,o1,aJA,o0,aF8,aIY,aEB,o0,o1,aH2,o0,aGN,aIM,aGL,o0,o1,aIQ,o0,aFV,aJB,aHI]⟩,⟨[],[],[],0,[],[],false,#[],[],0,false,false,false,0,[2000,10,10],false,0,true,[],[],0,false⟩⟩
def sF(w:World)(os:OsState):Shared:=⟨hF w.params,#[],⟨0,0,0,0⟩,1276,os⟩
theorem fin(w:World)(os:OsState):
  topRun treeTable pw w 11 an 2 (s4 w os).abs (restOf [] ev cd ⟨482,0,496,15⟩ bk) =
  some (sF w os):=by kernel_rfl
theorem bis:bi=(l0++(l1++(l2++(l3++[])))):=by kernel_rfl
theorem run(w:World)(os:OsState):topRun treeTable pw w 11 an (12+(1+(1812+(1826+(1882+(1111+(2))))))) ⟨boot_heap w.params,⟨[]⟩,boot_drawn,boot_toks,os⟩ (topStub pw)=some (sF w os):=by
 refine go_top (pre w os) (piece_block (blk w os) ?_)
 rw[bis]
 exact (piece_app (segRun_of (r0 w os)) (piece_app (segRun_of (r1 w os)) (piece_app (segRun_of (r2 w os)) (piece_app (segRun_of (r3 w os)) (fin w os)))))
theorem opn:∀w:World,(fencedOpening treeTable pw w 13380).map (fun s=>(s.heap,s.gens,s.drawn,s.toks))=some (boot_heap w.params,⟨[]⟩,boot_drawn,boot_toks):=
 boot_open (by kernel_rfl) rfl (fun s=>by kernel_rfl)
theorem siz(w:World):((boot_heap w.params).isNs mainGlobals&&(⟨[]⟩:Array GenState).size==0,(boot_heap w.params).objs.size,(boot_heap w.params).nsMap mainGlobals "__annotations__")=(true,11,an):=by kernel_rfl
end
end
theorem aG8{q:Program}{loose mods:List Str}{Xt:Shared->Bool}{s:Shared}
  (e1:seen ((recsOf q).map (·.name)) (ownsOf q) [] {s with gens:= #[]}=expectedOf q) (e2:s.heap.bltView=bltViewBooted)
  (a1:s.heap.keysOk (looseW q loose) ((recsOf q).map (·.name)) ((litsOf q).map (·.1)) ((clssOf q (looseW q loose)).map (·.name))=true)
  (a2:s.heap.accountedOkI mods=true) (a3:s.heap.isNs mainGlobals=true) (a4:s.heap.isNs builtinsNs=true)
  (a5:tablesOk q s.heap=true) (a6:Xt s=true) (a7:(s.gens.size==0)=true) (e4:tabsOk q s=true)
  (e5:pinSeenD q (drecsOf q) s=pinGoodD (drecsOf q)) (e6:plainSeenE q (looseW q loose) s=plainGoodE q (looseW q loose))
  (e7:plainSeenD q loose s=plainGoodD q loose) (e8:wideSeen q s=wideGood q) (e9:clsSeenW q loose s=clsGoodW q loose):
  openSeen q loose mods Xt true s=openGood q loose:=by
 unfold openSeen openGood
 rw[e1,e2,a1,a2,a3,a4,a5,a6,if_pos rfl,a7,e4,e5,e6,e7,e8,e9];rfl
noncomputable def seenBy:Program:=view PySem.Challenge.pw_fivefields_k46_rows_refused [0,2,3,4,5,6,7,8,9,10,12,13,14,16,17,18,19,20,21,23,24,25,26,27,28,29,30,31,32,33,35,36,37,38,39,40,41,42,43,44,45,46,47,48,49,50,51,52,53,54,55,56,57,58,59,60,61,63,64,65,66,67,68,69,70,71,72,73,74,75,77,78,79,80,81,82,83,84,85,86,87,88,89,90,91,92]
noncomputable def free:List Str:=[Str.ofString "Last",Str.ofString "BOUNDS"]
noncomputable def read:List (Str×WData):=[]
section
set_option maxHeartbeats 0
set_option maxRecDepth 100000
noncomputable section
def XT:Shared->Bool:=fun z=>xlAt seenBy read z&&recOk (RowW.records (OpenRow.toRowW (OpenLaw.row PySem.Challenge.rw_fivefields_k46_rows_refused))) z
abbrev SE(w:World)(os:OsState):=openSeen seenBy free (importedModules pw.main.body) XT true (sF w os)
section
variable(w:World)(os:OsState)
theorem z1:seen ((recsOf seenBy).map (·.name)) (ownsOf seenBy) [] {sF w os with gens:= #[]}=expectedOf seenBy:=by kernel_rfl
theorem z2:(sF w os).heap.bltView=bltViewBooted:=by kernel_rfl
theorem y1:(sF w os).heap.keysOk (looseW seenBy free) ((recsOf seenBy).map (·.name)) ((litsOf seenBy).map (·.1)) ((clssOf seenBy (looseW seenBy free)).map (·.name))=true:=by kernel_rfl
theorem y2:(sF w os).heap.accountedOkI (importedModules pw.main.body)=true:=by kernel_rfl
theorem y3:(sF w os).heap.isNs mainGlobals=true:=by kernel_rfl
theorem y4:(sF w os).heap.isNs builtinsNs=true:=by kernel_rfl
theorem y5:tablesOk seenBy (sF w os).heap=true:=by kernel_rfl
theorem y6:XT (sF w os)=true:=by kernel_rfl
theorem y7:((sF w os).gens.size==0)=true:=by kernel_rfl
theorem z4:tabsOk seenBy (sF w os)=true:=by kernel_rfl
theorem z5:pinSeenD seenBy (drecsOf seenBy) (sF w os)=pinGoodD (drecsOf seenBy):=by kernel_rfl
theorem z6:plainSeenE seenBy (looseW seenBy free) (sF w os)=plainGoodE seenBy (looseW seenBy free):=by kernel_rfl
theorem z7:plainSeenD seenBy free (sF w os)=plainGoodD seenBy free:=by kernel_rfl
theorem z8:wideSeen seenBy (sF w os)=wideGood seenBy:=by kernel_rfl
theorem z9:clsSeenW seenBy free (sF w os)=clsGoodW seenBy free:=by kernel_rfl
theorem look:SE w os=openGood seenBy free:=aG8 (q:=seenBy) (loose:=free) (mods:=importedModules pw.main.body) (Xt:=XT) (s:=sF w os) (z1 w os) (z2 w os) (y1 w os) (y2 w os) (y3 w os) (y4 w os) (y5 w os) (y6 w os) (y7 w os) (z4 w os) (z5 w os) (z6 w os) (z7 w os) (z8 w os) (z9 w os)
end
theorem lk0(w:World)(os:OsState):(staticsOk (importedModules pw.main.body) (boot_heap w.params) (hF w.params)&&namesBound pw (hF w.params)
  &&gensDone (sF w os)&&laidKept (boot_heap w.params) (hF w.params))=true:=by kernel_rfl
end
end
end Hd
set_option Elab.async false
set_option linter.all false
set_option maxRecDepth 100000
namespace L2
open PySem PySem.Spec PyProof.Rows
abbrev Key:=Sum Int Str
def ajK:Key->Value->Bool
 |.inl k,v=>Value.isInt k v
 |.inr x,v=>Value.isStrOf x v
def keyH(w:World):Key->Int
 |.inl k=>hashInt k
 |.inr x=>hashStr w x
theorem aaX:∀{k:Key} {v:Value},ajK k v=true->(∃i t,k=Sum.inl i/\v=Value.int i t)∨(∃x t,k=Sum.inr x/\v=Value.str x t)
 |.inl i,v,h=>by
  obtain⟨t,e⟩:=Value.isInt_shape (k:=i) (v:=v) h
  exact .inl ⟨i,t,rfl,e⟩
 |.inr x,v,h=>by
  obtain⟨t,e⟩:=Value.isStrOf_shape (x:=x) (v:=v) h
  exact .inr ⟨x,t,rfl,e⟩
theorem ao3(i:Int)(t:Tok):ajK (.inl i) (.int i t)=true:=by simp[ajK,Value.isInt]
theorem aoR(x:Str)(t:Tok):ajK (.inr x) (.str x t)=true:=by simp[ajK,Value.isStrOf]
theorem aAU(a b:Int):decide ((Sum.inl a:Key)=Sum.inl b)=(a==b):=by
 by_cases e:a=b
 ·subst e;simp
 ·have h:¬(Sum.inl a:Key)=Sum.inl b:=fun q=>e (Sum.inl.inj q)
  rw[decide_eq_false h]
  exact (beq_eq_false_iff_ne.mpr e).symm
theorem aBR(a b:Str):decide ((Sum.inr a:Key)=Sum.inr b)=decide (a=b):=by
 by_cases e:a=b
 ·subst e;simp
 ·have h:¬(Sum.inr a:Key)=Sum.inr b:=fun q=>e (Sum.inr.inj q)
  rw[decide_eq_false h,decide_eq_false e]
theorem ayZ(a:Int)(b:Str):decide ((Sum.inl a:Key)=Sum.inr b)=false:=decide_eq_false (fun q=>nomatch q)
theorem aDZ(a:Str)(b:Int):decide ((Sum.inr a:Key)=Sum.inl b)=false:=decide_eq_false (fun q=>nomatch q)
def abW(prog:Program)(w:World):PySem.KeyKind prog w Key where
 is:=ajK
 hash:=keyH w
 inj:=fun v a b ha hb=>by
  rcases aaX ha with ⟨i,t,rfl,rfl⟩ | ⟨x,t,rfl,rfl⟩
  ·rcases aaX hb with ⟨j,u,rfl,e⟩ | ⟨y,u,rfl,e⟩
   ·injection e with e1 _;rw[e1]
   ·exact nomatch e
  ·rcases aaX hb with ⟨j,u,rfl,e⟩ | ⟨y,u,rfl,e⟩
   ·exact nomatch e
   ·injection e with e1 _;rw[e1]
 byValue:=fun k v h=>by
  rcases aaX h with ⟨i,t,rfl,rfl⟩ | ⟨x,t,rfl,rfl⟩<;>rfl
 pyHash:=fun hv h=>by
  rcases aaX hv with ⟨i,t,rfl,rfl⟩ | ⟨x,t,rfl,rfl⟩
  ·exact wpAny_pyHash_int h
  ·exact wpAny_pyHash_str h
 eqBool:=fun hu hv h=>by
  rcases aaX hu with ⟨i,t,rfl,rfl⟩ | ⟨x,t,rfl,rfl⟩
  ·rcases aaX hv with ⟨j,u,rfl,rfl⟩ | ⟨y,u,rfl,rfl⟩
   ·rw[aAU] at h;exact wpAny_eqBool_int h
   ·rw[ayZ] at h;exact SeqAt.EqAt.int_str i t y u _ _ _ _ h
  ·rcases aaX hv with ⟨j,u,rfl,rfl⟩ | ⟨y,u,rfl,rfl⟩
   ·rw[aDZ] at h;exact SeqAt.EqAt.str_int x t j u _ _ _ _ h
   ·rw[aBR] at h;exact wpAny_eqBool_str h
 «strs»:=fun k x t v h=>by
  rcases aaX h with ⟨i,u,rfl,e⟩ | ⟨y,u,rfl,e⟩
  ·exact nomatch e
  ·injection e with e1 _
   subst e1
   cases v<;>rfl
theorem alW(prog:Program)(w:World)(i:Int)(t:Tok):(abW prog w).is (.inl i) (.int i t)=true:=ao3 i t
theorem alF(prog:Program)(w:World)(x:Str)(t:Tok):(abW prog w).is (.inr x) (.str x t)=true:=aoR x t
inductive V where
 |non | bl (b:Bool) | int (i:Int) | str (x:Str) | byt (b:Array UInt8) | flt (b:UInt64) | ref (a:Addr) | ty (n:String)
 deriving DecidableEq
def RelV:V->Value->Prop
 |.non,u=>u=Value.none
 |.bl b,u=>u=Value.bool b
 |.int i,u=>∃t,u=Value.int i t
 |.str x,u=>∃t,u=Value.str x t
 |.byt b,u=>∃t,u=Value.bytes b t
 |.flt b,u=>∃t,u=Value.float b t
 |.ref a,u=>u=Value.ref a
 |.ty n,u=>u=Value.type n
abbrev Vals:List V->List Value->Prop:=Paired RelV
theorem Vals.length{xs:List V}{us:List Value}(r:Vals xs us):xs.length=us.length:=Paired.length r
theorem Vals.get:∀{xs:List V} {us:List Value} {i:Nat} {x:V},Vals xs us->xs[i]? =some x->∃u,us[i]? =some u/\RelV x u
 |_,_,_,_,.nil,e=>by simp at e
 |_,_,0,_,.cons r _,e=>by simp at e;subst e;exact⟨_,rfl,r⟩
 |_,_,i+1,x,.cons _ t,e=>by
  obtain⟨u,h1,h2⟩:=Vals.get (i:=i) (x:=x) t (by simpa using e)
  exact⟨u,by simpa using h1,h2⟩
theorem Vals.set{x:V}{u:Value}(r:RelV x u):∀{xs:List V} {us:List Value} (i:Nat),Vals xs us->Vals (xs.set i x) (us.set i u)
 |_,_,_,.nil=>.nil
 |_,_,0,.cons _ t=>.cons r t
 |_,_,i+1,.cons q t=>.cons q (Vals.set r i t)
theorem Vals.append:∀{xs ys:List V} {us ws:List Value},Vals xs us->Vals ys ws->Vals (xs++ys) (us++ws)
 |_,_,_,_,.nil,s=>s
 |_,_,_,_,.cons r t,s=>.cons r (Vals.append t s)
theorem Vals.take:∀{xs:List V} {us:List Value} (n:Nat),Vals xs us->Vals (xs.take n) (us.take n)
 |_,_,0,_=>.nil
 |_,_,_+1,.nil=>.nil
 |_,_,n+1,.cons r t=>.cons r (Vals.take n t)
theorem Vals.drop:∀{xs:List V} {us:List Value} (n:Nat),Vals xs us->Vals (xs.drop n) (us.drop n)
 |_,_,0,r=>r
 |_,_,_+1,.nil=>.nil
 |_,_,n+1,.cons _ t=>Vals.drop n t
def RelO:Option V->Option Value->Prop
 |some v,some u=>RelV v u
 |none,none=>True
 |_,_=>False
def KV{κ:Type}:List (κ×V)->List (κ×Value)->Prop:=Paired fun (p:κ×V) (q:κ×Value)=>p.1=q.1/\RelV p.2 q.2
def kV:Key->V
 |.inl i=>.int i
 |.inr x=>.str x
inductive HO where
 |lst (xs:List V)
 |tup (xs:List V)
 |dK (kvs:List (Key×V)) | dT (kvs:List (List Key×V))
 |set (S:Int->Bool) (n:Nat)
 |ins (C dx:Addr) (fs:List (Str×V))
 |own (x:Addr)
 |xd (fs:List (Str×V))
 |met (f x:Addr)
 |rng (lo hi:Int)
 |frz (o:Obj) (u:HO)
 |tbl (ps:Array Value)
 |ext (φ:Heap->Prop)
abbrev Hp:=Addr->Option HO
def upd(H:Hp)(a:Addr)(o:HO):Hp:=fun b=>if b=a then some o else H b
theorem aaA{H:Hp}{a:Addr}{o:HO}:upd H a o a=some o:=by unfold upd;rw[if_pos rfl]
theorem aaE{H:Hp}{a b:Addr}{o:HO}(h:b≠a):upd H a o b=H b:=by unfold upd;rw[if_neg h]
theorem aaG{H:Hp}{a b:Addr}{o:HO}(h:H a=some o)(h':H b=none):a≠b:=by
 intro e;subst e;rw[h] at h';cases h'
section
variable(P:Program)(w:World)
def ObjOk(H:Hp)(h:Heap)(a:Addr):HO->Prop
 |.lst xs=>xs.length<=sizeLine/\∃(its:List Value) (n:Nat),Vals xs its/\h.get? a=some {cls:=.type "list",data:=.seq its.toArray n}
 |.tup xs=>xs.length<=sizeLine/\∃its:List Value,Vals xs its/\IsTup h a its.toArray
 |.dK kvs=>kvs.length<=sizeLine/\(a==sysModules)=false/\∃vs,KV kvs vs/\h.DictOf (abW P w) a vs
 |.dT kvs=>kvs.length<=sizeLine/\(a==sysModules)=false/\∃xs:List (List Key×Addr×Value),
   Paired (fun (p:List Key×V) (q:List Key×Addr×Value)=>p.1=q.1/\H q.2.1=some (.tup (p.1.map kV))/\RelV p.2 q.2.2) kvs xs/\
   ∃o es ep,h.get? a=some o/\o.ExactDict/\o.data=.dict es ep/\es.toList=xs.map (entryOfKey (tupleKind (abW P w)))/\(xs.map (·.1)).Nodup
 |.set S n=>h.SetOf (intKind P w) a S n
 |.ins C dx fs=>H dx=some (.own a)/\fs.length<=1000/\dx≠a/\h.get? a=some (PySem.W.instObj C dx)/\
   ∃mA,h.Ns1 dx mA/\(∀f,RelO (fs.lookup f) (mA f))/\PySem.Within mA (fs.map (·.1))
 |.own _=>∃o,h.get? a=some o
 |.xd fs=>∃mA,h.Ns1 a mA/\∀f,RelO (fs.lookup f) (mA f)
 |.rng lo hi=>∃t u v,h.get? a=some {cls:=.type "range",data:=.fields #[.int lo t,.int hi u,.int 1 v]}
 |.frz o u=>h.get? a=some o/\ObjOk H h a u
 |.tbl ps=>h.get? a=some {cls:=.none,data:=.fields ps}
 |.met f x=>h.get? a=some (PySem.W.methodObj (.ref f) (.ref x))
 |.ext φ=>φ h/\(∃o,h.get? a=some o)/\∀h1 h2:Heap,φ h1->(∀o,h1.get? a=some o->h2.get? a=some o)->φ h2
def HOk(H:Hp)(h:Heap):Prop:=∀a o,H a=some o->ObjOk P w H h a o
end
section
variable{P:Program}{w:World}{H H':Hp}{h h':Heap}{a:Addr}{o:HO}
theorem ObjOk.lt(x:ObjOk P w H h a o):a<h.objs.size:=by
 cases o with
 |lst xs=>obtain⟨_,_,_,_,e⟩:=x;exact Heap.lt_size e
 |tup xs=>obtain⟨_,_,_,p⟩:=x;exact p.lt
 |dK kvs=>obtain⟨_,_,_,_,o,_,_,e,_⟩:=x;exact Heap.lt_size e
 |dT kvs=>obtain⟨_,_,_,_,o,_,_,e,_⟩:=x;exact Heap.lt_size e
 |set S n=>obtain⟨o,_,_,_,e,_⟩:=x;exact Heap.lt_size e
 |ins C dx fs=>obtain⟨_,_,_,e,_⟩:=x;exact Heap.lt_size e
 |own y=>obtain⟨_,e⟩:=x;exact Heap.lt_size e
 |xd fs=>obtain⟨_,⟨_,_,_,e,_⟩,_⟩:=x;exact Heap.lt_size e
 |rng lo hi=>obtain⟨_,_,_,e⟩:=x;exact Heap.lt_size e
 |frz ob u=>obtain⟨e,_⟩:=x;exact Heap.lt_size e
 |tbl ps=>exact Heap.lt_size (show h.get? a=some _ from x)
 |met f y=>exact Heap.lt_size (show h.get? a=some _ from x)
 |ext φ=>obtain⟨_,⟨_,e⟩,_⟩:=x;exact Heap.lt_size e
theorem Paired.mapP{α β:Type}{F G:α->β->Prop}:∀{l₁:List α} {l₂:List β},Paired F l₁ l₂->(∀a b,F a b->G a b)->Paired G l₁ l₂
 |_,_,.nil,_=>.nil
 |_,_,.cons r t,f=>.cons (f _ _ r) (Paired.mapP t f)
theorem Paired.imp'{α β:Type}{F G:α->β->Prop}(f:∀a b,F a b->G a b){l₁:List α}{l₂:List β}(r:Paired F l₁ l₂):Paired G l₁ l₂:=Paired.mapP r f
theorem ObjOk.stay(x:ObjOk P w H h a o)(k:∀b u,(b=a∨H b=some (.own a))->h.get? b=some u->h'.get? b=some u)
  (ho:∀b,H b=some (.own a)->H' b=some (.own a)) (ht:∀b xs,H b=some (.tup xs)->H' b=some (.tup xs)):ObjOk P w H' h' a o:=by
 induction o with
 |lst xs=>obtain⟨z,its,n,r,e⟩:=x;exact⟨z,its,n,r,k _ _ (.inl rfl) e⟩
 |tup xs=>obtain⟨z,its,r,ob,e,c⟩:=x;exact⟨z,its,r,ob,k _ _ (.inl rfl) e,c⟩
 |dK kvs=>obtain⟨z,y,vs,r,ob,es,ep,e,c⟩:=x;exact⟨z,y,vs,r,ob,es,ep,k _ _ (.inl rfl) e,c⟩
 |dT kvs=>
  obtain⟨z,y,xs,r,ob,es,ep,e,c⟩:=x
  exact⟨z,y,xs,Paired.mapP r fun p q z=>⟨z.1,ht _ _ z.2.1,z.2.2⟩,ob,es,ep,k _ _ (.inl rfl) e,c⟩
 |set S n=>obtain⟨ob,es,ep,t,e,c⟩:=x;exact⟨ob,es,ep,t,k _ _ (.inl rfl) e,c⟩
 |ins C dx fs=>
  obtain⟨d,z,ne,e,mA,⟨od,es,ep,e2,c⟩,r⟩:=x
  exact⟨ho _ d,z,ne,k _ _ (.inl rfl) e,mA,⟨od,es,ep,k _ _ (.inr d) e2,c⟩,r⟩
 |own y=>obtain⟨ob,e⟩:=x;exact⟨ob,k _ _ (.inl rfl) e⟩
 |xd fs=>obtain⟨mA,⟨od,es,ep,e,c⟩,r⟩:=x;exact⟨mA,⟨od,es,ep,k _ _ (.inl rfl) e,c⟩,r⟩
 |rng lo hi=>obtain⟨t,u,v,e⟩:=x;exact⟨t,u,v,k _ _ (.inl rfl) e⟩
 |frz ob u ih=>obtain⟨e,q⟩:=x;exact⟨k _ _ (.inl rfl) e,ih q⟩
 |tbl ps=>
  have e:h.get? a=some {cls:=.none,data:=.fields ps}:=x
  show h'.get? a=some {cls:=.none,data:=.fields ps}
  exact k a _ (.inl rfl) e
 |met f y=>
  have e:h.get? a=some (PySem.W.methodObj (.ref f) (.ref y)):=x
  show h'.get? a=some (PySem.W.methodObj (.ref f) (.ref y))
  exact k a _ (.inl rfl) e
 |ext φ=>obtain⟨p,⟨o,e⟩,st⟩:=x;exact⟨st _ _ p fun o q=>k _ _ (.inl rfl) q,⟨o,k _ _ (.inl rfl) e⟩,st⟩
theorem HOk.lt(x:HOk P w H h)(e:H a=some o):a<h.objs.size:=(x a o e).lt
theorem HOk.fresh(x:HOk P w H h)(e:h.objs.size<=a):H a=none:=by
 cases q:H a with
 |none=>rfl
 |some u=>exact absurd (Nat.lt_of_lt_of_le (x.lt q) e) (Nat.lt_irrefl _)
theorem HOk.kept(x:HOk P w H h)(k:∀b u,h.get? b=some u->h'.get? b=some u):HOk P w H h':=fun a o e=>
 (x a o e).stay (fun b u _ q=>k b u q) (fun _ q=>q) fun _ _ q=>q
theorem HOk.laid(x:HOk P w H h)(k:∀b u,h.get? b=some u->h'.get? b=some u)(hp:h.objs.size<=a)(new:ObjOk P w (upd H a o) h' a o):HOk P w (upd H a o) h':=fun b u e=>by
 have hn:=x.fresh hp
 by_cases hb:b=a
 ·subst hb;rw[aaA] at e;cases e;exact new
 ·rw[aaE hb] at e
  exact (x b u e).stay (fun c v _ q=>k c v q) (fun c q=>by rw[aaE (aaG q hn)];exact q) fun c xs q=>by rw[aaE (aaG q hn)];exact q
end
def Rd(H:Hp)(a:Addr)(u:HO):Prop:=H a=some u∨∃o,H a=some (.frz o u)
theorem Rd.ok{P:Program}{w:World}{H:Hp}{h:Heap}{a:Addr}{u:HO}(r:Rd H a u)(x:HOk P w H h):ObjOk P w H h a u:=by
 rcases r with r | ⟨o,r⟩
 ·exact x a u r
 ·obtain⟨_,q⟩:=x a _ r
  exact q
def Mut:Option HO->Prop
 |some (.lst _)=>True
 |some (.dK _)=>True
 |some (.dT _)=>True
 |some (.set _ _)=>True
 |some (.ins _ _ _)=>True
 |some (.ext _)=>True
 |_=>False
section
variable{P:Program}{w:World}{H:Hp}{h h':Heap}{x e:Addr}{o':HO}
theorem HOk.write(ok:HOk P w H h)(mu:Mut (H x))(he:e=x∨H e=some (.own x))(k:∀b u,b≠e->h.get? b=some u->h'.get? b=some u)(heo:∃u,h'.get? e=some u)
  (new:ObjOk P w (upd H x o') h' x o'):HOk P w (upd H x o') h':=fun b u q=>by
 have nown:∀c y,H c=some (.own y)->c≠x:=fun c y r z=>by subst z;rw[r] at mu;exact mu
 have ntup:∀c xs,H c=some (.tup xs)->c≠x:=fun c xs r z=>by subst z;rw[r] at mu;exact mu
 by_cases hb:b=x
 ·subst hb;rw[aaA] at q;cases q;exact new
 ·rw[aaE hb] at q
  by_cases hbe:b=e
  ·have q':H b=some (.own x):=by
    rcases he with z | z
    ·exact absurd (hbe.trans z) hb
    ·rw[hbe];exact z
   rw[q] at q';cases q'
   obtain⟨v,hv⟩:=heo
   exact⟨v,by rw[hbe];exact hv⟩
  ·refine (ok b u q).stay (fun c v hc r=>k c v ?_ r) (fun c r=>by rw[aaE (nown c b r)];exact r) fun c xs r=>by rw[aaE (ntup c xs r)];exact r
   rcases hc with rfl | hc
   ·exact hbe
   ·rintro rfl
    rcases he with z | z
    ·exact nown c b hc z
    ·rw[hc] at z;cases z;exact hb rfl
end
structure Un(fs ex:List Addr)(H H':Hp)(h h':Heap):Prop where
 keep:∀b o,h.get? b=some o->H b=none->b∉fs->b∉ex->h'.get? b=some o
 slot:∀b o,h.get? b=some o->H b=none->b∈fs->b∉ex->∃sl,h'.get? b=some {o with slots:=sl}
 free:∀b o,h.get? b=some o->H b=none->b∉ex->H' b=none
 there:∀b o,h.get? b=some o->b∉ex->∃o',h'.get? b=some o'
 tups:∀b xs,H b=some (.tup xs)->H' b=some (.tup xs)
 frzs:∀b o u,H b=some (.frz o u)->H' b=some (.frz o u)
 tbls:∀b ps,H b=some (.tbl ps)->∃more,H' b=some (.tbl (ps++more))
section
variable{fs fs' ex ex':List Addr}{H H1 H2:Hp}{h h1 h2 h':Heap}{a x e:Addr}{o:HO}
theorem Un.any(u:Un fs ex H H1 h h1){b:Addr}{ob:Obj}(q:h.get? b=some ob)(n:H b=none)(hx:b∉ex):∃sl,h1.get? b=some {ob with slots:=sl}:=by
 by_cases hb:b∈fs
 ·exact u.slot b ob q n hb hx
 ·exact⟨ob.slots,u.keep b ob q n hb hx⟩
theorem Un.trans(a:Un fs ex H H1 h h1)(b:Un fs ex H1 H2 h1 h2):Un fs ex H H2 h h2 where
 keep:=fun c ob q n hc hx=>b.keep c ob (a.keep c ob q n hc hx) (a.free c ob q n hx) hc hx
 slot:=fun c ob q n hc hx=>by
  obtain⟨sl,e1⟩:=a.slot c ob q n hc hx
  obtain⟨sl',e2⟩:=b.slot c _ e1 (a.free c ob q n hx) hc hx
  exact⟨sl',e2⟩
 free:=fun c ob q n hx=>by
  obtain⟨o',e1⟩:=a.there c ob q hx
  exact b.free c o' e1 (a.free c ob q n hx) hx
 there:=fun c ob q hx=>by
  obtain⟨o',e1⟩:=a.there c ob q hx
  exact b.there c o' e1 hx
 tups:=fun c xs q=>b.tups c xs (a.tups c xs q)
 frzs:=fun c ob xs q=>b.frzs c ob xs (a.frzs c ob xs q)
 tbls:=fun c ps q=>by
  obtain⟨m1,e1⟩:=a.tbls c ps q
  obtain⟨m2,e2⟩:=b.tbls c _ e1
  exact⟨m1++m2,by rw[e2,Array.append_assoc]⟩
theorem Un.kept(k:∀b u,h.get? b=some u->h'.get? b=some u):Un fs ex H H h h':=
 ⟨fun b ob q _ _ _=>k b ob q,fun b ob q _ _ _=>⟨ob.slots,k b ob q⟩,fun _ _ _ n _=>n,fun b ob q _=>⟨ob,k b ob q⟩,fun _ _ q=>q,fun _ _ _ q=>q,fun _ ps q=>⟨#[],by rw[q];simp⟩⟩
theorem Un.refl:Un fs ex H H h h:=Un.kept fun _ _ q=>q
theorem Un.laid(k:∀b u,h.get? b=some u->h'.get? b=some u)(hp:h.objs.size<=a)(hn:H a=none):Un fs ex H (upd H a o) h h' where
 keep:=fun b u q _ _ _=>k b u q
 slot:=fun b u q _ _ _=>⟨u.slots,k b u q⟩
 free:=fun b u q n _=>by rw[aaE (Nat.ne_of_lt (Nat.lt_of_lt_of_le (Heap.lt_size q) hp))];exact n
 there:=fun b u q _=>⟨u,k b u q⟩
 tups:=fun b xs q=>by rw[aaE (aaG q hn)];exact q
 frzs:=fun b u xs q=>by rw[aaE (aaG q hn)];exact q
 tbls:=fun b ps q=>⟨#[],by rw[aaE (aaG q hn),q];simp⟩
theorem Un.write(mu:Mut (H x))(he:e=x∨H e=some (.own x))(k:∀b u,b≠e->h.get? b=some u->h'.get? b=some u)(heo:∃u,h'.get? e=some u):Un fs ex H (upd H x o) h h':=by
 have hx:∀b,H b=none->b≠x:=fun b n z=>by subst z;rw[n] at mu;exact mu
 have hb:∀b,H b=none->b≠e:=fun b n z=>by
  subst z
  rcases he with r | r
  ·exact hx b n r
  ·rw[n] at r;cases r
 have hm:∀b u,H b=some u->¬Mut (some u)->b≠x:=fun b u q nm z=>by subst z;rw[q] at mu;exact nm mu
 refine⟨fun b u q n _ _=>k b u (hb b n) q,fun b u q n _ _=>⟨u.slots,k b u (hb b n) q⟩,fun b u q n _=>by rw[aaE (hx b n)];exact n,fun b u q _=>?_,
  fun b xs q=>by rw[aaE (hm b _ q fun z=>z)];exact q,fun b u xs q=>by rw[aaE (hm b _ q fun z=>z)];exact q,fun b ps q=>⟨#[],by rw[aaE (hm b _ q fun z=>z),q];simp⟩⟩
 by_cases hbe:b=e
 ·subst hbe;exact heo
 ·exact⟨u,k b u hbe q⟩
end
def trk(h:Heap)(H:Hp):List Addr:=(List.range h.objs.size).filter fun a=>(H a).isSome
def akT(h:Heap)(H:Hp):Heap:=PySem.W.hideAll h (trk h H)
theorem aoT(h:Heap)(H:Hp):(akT h H).objs.size=h.objs.size:=PySem.W.hideAll_size _ _
theorem arE{h:Heap}{H:Hp}{b:Addr}{o:Obj}(e:h.get? b=some o)(n:H b=none):(akT h H).get? b=some o:=
 PySem.W.hideAll_get _ e fun hm=>by
  have q:(H b).isSome=true:=(List.mem_filter.mp hm).2
  rw[n] at q;simp at q
theorem atZ{h:Heap}{H:Hp}{b:Addr}{o:Obj}(e:(akT h H).get? b=some o):h.get? b=some o/\H b=none:=by
 have e':h.get? b=some o:=PySem.W.of_hideAll (trk h H) e
 refine⟨e',?_⟩
 cases q:H b with
 |none=>rfl
 |some x=>
  have hm:b∈trk h H:=List.mem_filter.mpr ⟨List.mem_range.mpr (Heap.lt_size e'),by simp[q]⟩
  have z:(akT h H).get? b=none:=PySem.W.hideAll_none (trk h H) hm
  rw[z] at e;cases e
def awB(g h:Heap)(L:Addr):List (Addr×Obj):=(List.range h.objs.size).filterMap fun a=>if a=L∨(g.get? a).isSome=true then none else (h.get? a).map fun o=>(a,o)
def rest(g h:Heap)(L d:Addr):List (Addr×Obj):=(awB g h L).filter fun p=>decide (p.1≠d)
structure Mod(K:PySem.W.Frag)(mg:Str->Option Value)(base:Heap):Prop where
 kin:K.In base
 glob:base.Ns mainGlobals mg
 blt:∃mb,base.Ns builtinsNs mb/\∀x:Str,x≠"__name__"->mb x=bootBuiltins x
 nolimit:base.NoLimit
structure Cx where
 prog:Program
 w:World
 K:PySem.W.Frag
 mg:Str->Option Value
 base:Heap
 A:Around
 N:List Str
 s₀:Shared
 H₀:Hp
 env:Env
 outer:List Env
 stack:List Env
 ex:List Addr
 fn:Str->Bool
 calm:Bool
 pn:List (Addr×Obj)
 xe:Value->Shared->Prop
def frs(l:List Env):List Addr:=l.filterMap (·.frame)
abbrev Cx.fs(X:Cx):List Addr:=frs X.outer
def Vis(sc:Scope)(x:Str):Prop:=sc.names.lookup x=some .local∨sc.names.lookup x=some .cell∨sc.names.lookup x=some .free
def Loc(sc:Scope)(x:Str):Prop:=sc.names.lookup x=some .local∨sc.names.lookup x=some .cell
def Look(env:Env)(h:Heap)(m:Str->Option Value)(x:Str)(u:Value):Prop:=
 (env.kindOf x=some .local/\m x=some u)∨((env.kindOf x=some .cell∨env.kindOf x=some .free)/\∃c,env.cells.lookup x=some c/\h.IsCell c (some u))
structure Cx.Ok(X:Cx):Prop where
 mod:Mod X.K X.mg X.base
 kind:X.env.scope.kind=.function
 glob:X.env.globals=mainGlobals
 blt:X.env.builtins=builtinsNs
 above:X.s₀.heap.objs.size<=X.env.locals
 inj:∀x y c,X.env.cells.lookup x=some c->X.env.cells.lookup y=some c->x=y
 has:∀x,(X.env.kindOf x=some .cell∨X.env.kindOf x=some .free)->∃c,X.env.cells.lookup x=some c
 cab:∀x c,X.fn x=true->X.env.cells.lookup x=some c->X.s₀.heap.objs.size<=c
 hd:X.calm=true->X.A.handled=none
 frames:X.A.frames=some X.stack
 stk:X.stack=X.outer∨(X.stack=X.env::X.outer/\X.env.frame=some X.env.locals)
 exf:∀b∈X.ex,b≠X.env.locals/\∀x c,X.env.cells.lookup x=some c->c≠b
 bs:∀b o,X.base.get? b=some o->X.s₀.heap.get? b=some o/\X.H₀ b=none
 bsz:X.base.objs.size<=X.s₀.heap.objs.size
 noex:∀b o,X.base.get? b=some o->b∉X.ex
 exfs:∀b∈X.ex,b∉X.fs
 funs:X.s₀.heap.FunFrames X.base X.outer
 frf:∀b∈X.fs,X.H₀ b=none
structure Inv(X:Cx)(pins:List (Addr×Obj))(σ:List (Option V))(H:Hp)(s:Shared):Prop where
 ok:X.Ok
 os:s.os=X.s₀.os
 bare:AllBare s.gens
 base:Un X.fs X.ex X.H₀ H X.s₀.heap s.heap
 loc:∃m,s.heap.Ns X.env.locals m/\∀(i:Nat) (x:Str) (v:V),X.N[i]? =some x->σ[i]? =some (some v)->Vis X.env.scope x->∃u,RelV v u/\Look X.env s.heap m x u
 cell:∀x c,X.env.cells.lookup x=some c->∃v,s.heap.IsCell c v
 free:H X.env.locals=none
 freeC:∀x c,X.env.cells.lookup x=some c->H c=none
 pin:∀p∈X.pn++pins,s.heap.get? p.1=some p.2/\H p.1=none/\p.1≠X.env.locals/\p.1∉X.fs/\∀v,p.2.data≠ .cell v
 hok:HOk X.prog X.w H s.heap
 len:σ.length=X.N.length
section
variable{X:Cx}{pins:List (Addr×Obj)}{σ:List (Option V)}{H H':Hp}{s:Shared}{h':Heap}
theorem Cx.Ok.nofr(ok:X.Ok){b:Addr}{o:Obj}(e:X.base.get? b=some o):b∉X.fs:=fun hb=>by
 have:=(ok.funs.mem hb).1
 rw[e] at this;cases this
theorem Inv.bs(I:Inv X pins σ H s):∀b o,X.base.get? b=some o->s.heap.get? b=some o/\H b=none:=fun b o e=>
 ⟨I.base.keep b o (I.ok.bs b o e).1 (I.ok.bs b o e).2 (I.ok.nofr e) (I.ok.noex b o e),I.base.free b o (I.ok.bs b o e).1 (I.ok.bs b o e).2 (I.ok.noex b o e)⟩
theorem Inv.bk(I:Inv X pins σ H s):∀b o,X.base.get? b=some o->s.heap.get? b=some o:=fun b o e=>(I.bs b o e).1
theorem Inv.mod(I:Inv X pins σ H s):Mod X.K X.mg X.base:=I.ok.mod
theorem Inv.kIn(I:Inv X pins σ H s):X.K.In s.heap:=I.ok.mod.kin.keeps I.bk
theorem Inv.lt(I:Inv X pins σ H s):X.env.locals<s.heap.objs.size:=let ⟨_,hn,_⟩:=I.loc;hn.lt
theorem Inv.sz(I:Inv X pins σ H s):X.s₀.heap.objs.size<=s.heap.objs.size:=Nat.le_trans I.ok.above (Nat.le_of_lt I.lt)
theorem Inv.nofs(I:Inv X pins σ H s){a:Addr}(h:s.heap.objs.size<=a):a∉X.fs:=fun hb=>by
 obtain⟨_,o,ho,_⟩:=I.ok.funs.mem hb
 exact absurd (Nat.lt_of_lt_of_le (Heap.lt_size ho) (Nat.le_trans I.sz h)) (Nat.lt_irrefl _)
theorem Inv.cne(I:Inv X pins σ H s):∀x c,X.env.cells.lookup x=some c->c≠X.env.locals:=fun x c e z=>by
 obtain⟨v,o,ho,hd⟩:=I.cell x c e
 obtain⟨m,⟨o',es,ep,ho',hd',_⟩,_⟩:=I.loc
 rw[z,ho'] at ho;cases ho;rw[hd'] at hd;cases hd
theorem Inv.funs(I:Inv X pins σ H s):s.heap.FunFrames X.base X.outer:=by
 have all:∀(l:List Env),(∀b∈frs l,b∈X.fs)->X.s₀.heap.FunFrames X.base l->s.heap.FunFrames X.base l:=by
  intro l
  induction l with
  |nil=>intro _ _;trivial
  |cons env r ih=>
   intro hs hl
   obtain⟨hk,⟨L,o,hf,hn,ho,hd⟩,hr⟩:=hl
   have hL:L∈X.fs:=hs L (by unfold frs;rw[List.filterMap_cons,hf];exact List.mem_cons_self)
   obtain⟨sl,e⟩:=I.base.slot L o ho (I.ok.frf L hL) hL fun z=>I.ok.exfs L z hL
   exact⟨hk,⟨L,_,hf,hn,e,hd⟩,ih (fun b hb=>hs b (by unfold frs;rw[List.filterMap_cons,hf];exact List.mem_cons_of_mem _ hb)) hr⟩
 exact all X.outer (fun _ hb=>hb) I.ok.funs
theorem Inv.stack(I:Inv X pins σ H s):s.heap.FunFrames X.base X.stack:=by
 rcases I.ok.stk with e | ⟨e,hf⟩
 ·rw[e];exact I.funs
 ·rw[e]
  obtain⟨m,hn,_⟩:=I.loc
  refine .cons (by rw[I.ok.kind];decide) hf hn ?_ I.funs
  exact Heap.get?_none_of_le (Nat.le_trans I.ok.bsz I.ok.above)
theorem Inv.stkSub(I:Inv X pins σ H s):∀b∈frs X.stack,b∈X.env.locals::X.fs:=fun b hb=>by
 rcases I.ok.stk with e | ⟨e,hf⟩
 ·rw[e] at hb;exact List.mem_cons_of_mem _ hb
 ·rw[e] at hb
  unfold frs at hb
  rw[List.filterMap_cons,hf] at hb
  exact hb
theorem Inv.stkFree(I:Inv X pins σ H s):∀b∈frs X.stack,H b=none:=fun b hb=>by
 rcases List.mem_cons.mp (I.stkSub b hb) with e | hb
 ·rw[e];exact I.free
 ·obtain⟨_,o,ho,_⟩:=I.ok.funs.mem hb
  exact I.base.free b o ho (I.ok.frf b hb) fun z=>I.ok.exfs b z hb
theorem Inv.step{g':Array GenState}{t':Nat}{d':Drawn}{ch:List Addr}(I:Inv X pins σ H s)
  (hch:∀b∈ch,(b∈X.ex∨X.s₀.heap.objs.size<=b)/\b≠X.env.locals/\(∀x c,X.env.cells.lookup x=some c->c≠b)/\∀p∈X.pn++pins,p.1≠b)
  (keep:∀b o,b≠X.env.locals->b∉X.fs->b∉ch->s.heap.get? b=some o->H b=none->h'.get? b=some o)
  (slot:∀b o,b≠X.env.locals->b∈X.fs->b∉ch->s.heap.get? b=some o->H b=none->∃sl,h'.get? b=some {o with slots:=sl}) (free:∀b o,b∉ch->s.heap.get? b=some o->H b=none->H' b=none)
  (there:∀b o,b∉ch->s.heap.get? b=some o->∃o',h'.get? b=some o')
  (tups:∀b xs,H b=some (.tup xs)->H' b=some (.tup xs)) (frzs:∀b o u,H b=some (.frz o u)->H' b=some (.frz o u)) (tbls:∀b ps,H b=some (.tbl ps)->∃more,H' b=some (.tbl (ps++more)))
  (ns:∀m,s.heap.Ns X.env.locals m->h'.Ns X.env.locals m) (hok:HOk X.prog X.w H' h') (hg:AllBare g'):
  Inv X pins σ H' {s with heap:=h',gens:=g',drawn:=d',toks:=t'}:=by
 have neL:∀b o,X.s₀.heap.get? b=some o->b≠X.env.locals:=fun b o e=>Nat.ne_of_lt (Nat.lt_of_lt_of_le (Heap.lt_size e) I.ok.above)
 have neC:∀b o,X.s₀.heap.get? b=some o->b∉X.ex->b∉ch:=fun b o e hx hb=>by
  rcases (hch b hb).1 with z | z
  ·exact hx z
  ·exact absurd (Nat.lt_of_lt_of_le (Heap.lt_size e) z) (Nat.lt_irrefl _)
 have cellK:∀x c,X.env.cells.lookup x=some c->∀v,s.heap.IsCell c v->h'.IsCell c v:=fun x c e v ⟨o,ho,hd⟩=>by
  have nch:c∉ch:=fun z=>(hch c z).2.2.1 x c e rfl
  by_cases hc:c∈X.fs
  ·obtain⟨sl,q⟩:=slot c o (I.cne x c e) hc nch ho (I.freeC x c e)
   exact⟨_,q,hd⟩
  ·exact⟨o,keep c o (I.cne x c e) hc nch ho (I.freeC x c e),hd⟩
 refine⟨I.ok,I.os,hg,⟨fun b o e n hb hx=>?_,fun b o e n hb hx=>?_,fun b o e n hx=>?_,fun b o e hx=>?_,fun b xs e=>tups b xs (I.base.tups b xs e),fun b o xs e=>frzs b o xs (I.base.frzs b o xs e),fun b ps e=>?_⟩,?_,fun x c e=>?_,?_,fun x c e=>?_,fun p hp=>?_,hok,I.len⟩
 ·exact keep b o (neL b o e) hb (neC b o e hx) (I.base.keep b o e n hb hx) (I.base.free b o e n hx)
 ·obtain⟨sl,e1⟩:=I.base.slot b o e n hb hx
  obtain⟨sl',e2⟩:=slot b _ (neL b o e) hb (neC b o e hx) e1 (I.base.free b o e n hx)
  exact⟨sl',e2⟩
 ·obtain⟨o',e1⟩:=I.base.there b o e hx
  exact free b o' (neC b o e hx) e1 (I.base.free b o e n hx)
 ·obtain⟨o',e1⟩:=I.base.there b o e hx
  exact there b o' (neC b o e hx) e1
 ·obtain⟨m1,e1⟩:=I.base.tbls b ps e
  obtain⟨m2,e2⟩:=tbls b _ e1
  exact⟨m1++m2,by rw[e2,Array.append_assoc]⟩
 ·obtain⟨m,hn,hl⟩:=I.loc
  refine⟨m,ns m hn,fun i x v e1 e2 e3=>?_⟩
  obtain⟨u,r,l⟩:=hl i x v e1 e2 e3
  refine⟨u,r,?_⟩
  rcases l with l | ⟨k,c,e,z⟩
  ·exact .inl l
  ·exact .inr ⟨k,c,e,cellK x c e _ z⟩
 ·obtain⟨v,z⟩:=I.cell x c e
  exact⟨v,cellK x c e v z⟩
 ·obtain⟨m,⟨o,_,_,ho,_⟩,_⟩:=I.loc
  exact free _ o (fun z=>(hch _ z).2.1 rfl) ho I.free
 ·obtain⟨v,o,ho,hd⟩:=I.cell x c e
  exact free c o (fun z=>(hch c z).2.2.1 x c e rfl) ho (I.freeC x c e)
 ·obtain⟨e,n,ne,nf,d⟩:=I.pin p hp
  have nch:p.1∉ch:=fun z=>(hch p.1 z).2.2.2 p hp rfl
  exact⟨keep p.1 p.2 ne nf nch e n,free p.1 p.2 nch e n,ne,nf,d⟩
theorem Inv.un{t':Nat}(I:Inv X pins σ H s)(u:Un X.fs [] H H' s.heap h')(hok:HOk X.prog X.w H' h'):Inv X pins σ H' {s with heap:=h',toks:=t'}:=by
 obtain⟨m,⟨o,es,ep,ho,r⟩,_⟩:=id I.loc
 obtain⟨sl,hL⟩:=u.any ho I.free (by simp)
 exact I.step (g':=s.gens) (d':=s.drawn) (ch:=[]) (fun _ z=>nomatch z) (fun b o _ hb _ e n=>u.keep b o e n hb (by simp)) (fun b o _ hb _ e n=>u.slot b o e n hb (by simp)) (fun b o _ e n=>u.free b o e n (by simp)) (fun b o _ e=>u.there b o e (by simp)) u.tups u.frzs u.tbls (fun m' hm=>by
  obtain⟨o',es',ep',ho',r'⟩:=hm
  rw[ho] at ho';cases ho'
  exact⟨_,es',ep',hL,r'⟩) hok I.bare
theorem Inv.call{g':Array GenState}{t':Nat}{d':Drawn}{ch:List Addr}(I:Inv X pins σ H s)(u:Un (frs X.stack) ch H H' s.heap h')(hok:HOk X.prog X.w H' h')(hg:AllBare g')
  (hch:∀b∈ch,(b∈X.ex∨X.s₀.heap.objs.size<=b)/\b≠X.env.locals/\(∀x c,X.env.cells.lookup x=some c->c≠b)/\∀p∈X.pn++pins,p.1≠b):
  Inv X pins σ H' {s with heap:=h',gens:=g',drawn:=d',toks:=t'}:=by
 obtain⟨m,⟨o,es,ep,ho,r⟩,_⟩:=id I.loc
 obtain⟨sl,hL⟩:=u.any ho I.free fun z=>(hch _ z).2.1 rfl
 exact I.step (ch:=ch) hch (fun b o hL hb hc e n=>u.keep b o e n (fun z=>(List.mem_cons.mp (I.stkSub b z)).elim hL hb) hc) (fun b o _ _ hc e n=>u.any e n hc) (fun b o hc e n=>u.free b o e n hc) (fun b o hc e=>u.there b o e hc) u.tups u.frzs u.tbls (fun m' hm=>by
  obtain⟨o',es',ep',ho',r'⟩:=hm
  rw[ho] at ho';cases ho'
  exact⟨_,es',ep',hL,r'⟩) hok hg
theorem Inv.turned{t':Nat}{it:Addr}(I:Inv X pins σ H s)(k:∀b o,b≠it->s.heap.get? b=some o->h'.get? b=some o)(hn:H it=none)(hL:it≠X.env.locals)
  (h1:it∈X.ex∨X.s₀.heap.objs.size<=it) (h2:∀x c,X.env.cells.lookup x=some c->c≠it) (h3:∀p∈X.pn++pins,p.1≠it):Inv X pins σ H {s with heap:=h',toks:=t'}:=by
 have nit:∀b u,H b=some u->b≠it:=fun b u e z=>by rw[z,hn] at e;cases e
 refine I.step (g':=s.gens) (d':=s.drawn) (ch:=[it]) (fun b hb=>?_) (fun b o _ _ hc e _=>k b o (fun z=>hc (by simp[z])) e) (fun b o _ _ hc e _=>⟨o.slots,k b o (fun z=>hc (by simp[z])) e⟩) (fun _ _ _ _ n=>n)
  (fun b o hc e=>⟨o,k b o (fun z=>hc (by simp[z])) e⟩) (fun _ _ e=>e) (fun _ _ _ e=>e) (fun b ps e=>⟨#[],by rw[e];simp⟩) (fun m hm=>?_) (fun b u e=>?_) I.bare
 ·have e:b=it:=by simpa using hb
  subst e
  exact⟨h1,hL,h2,h3⟩
 ·obtain⟨o,es,ep,ho,r⟩:=hm
  exact⟨o,es,ep,k _ o (Ne.symm hL) ho,r⟩
 ·refine (I.hok b u e).stay (fun c v hc q=>k c v ?_ q) (fun _ q=>q) fun _ _ q=>q
  rcases hc with z | z
  ·rw[z];exact nit b u e
  ·exact nit c _ z
theorem Inv.tok(I:Inv X pins σ H s)(t:Nat):Inv X pins σ H {s with toks:=t}:=I.un (h':=s.heap) (t':=t) Un.refl I.hok
theorem Inv.kept{t':Nat}(I:Inv X pins σ H s)(k:∀b u,s.heap.get? b=some u->h'.get? b=some u):Inv X pins σ H {s with heap:=h',toks:=t'}:=I.un (Un.kept k) (I.hok.kept k)
theorem Inv.laid{a:Addr}{o:HO}{t':Nat}(I:Inv X pins σ H s)(k:∀b u,s.heap.get? b=some u->h'.get? b=some u)(hp:s.heap.objs.size<=a)(new:ObjOk X.prog X.w (upd H a o) h' a o):
  Inv X pins σ (upd H a o) {s with heap:=h',toks:=t'}:=I.un (Un.laid k hp (I.hok.fresh hp)) (I.hok.laid k hp new)
theorem Inv.write{x e:Addr}{o:HO}{t':Nat}(I:Inv X pins σ H s)(mu:Mut (H x))(he:e=x∨H e=some (.own x))(k:∀b u,b≠e->s.heap.get? b=some u->h'.get? b=some u)(heo:∃u,h'.get? e=some u)
  (new:ObjOk X.prog X.w (upd H x o) h' x o):Inv X pins σ (upd H x o) {s with heap:=h',toks:=t'}:=I.un (Un.write mu he k heo) (I.hok.write mu he k heo new)
theorem Inv.pins_of{pins':List (Addr×Obj)}(I:Inv X pins σ H s)(h:∀p∈pins',s.heap.get? p.1=some p.2/\H p.1=none/\p.1≠X.env.locals/\p.1∉X.fs/\∀v,p.2.data≠ .cell v):Inv X pins' σ H s:=
 ⟨I.ok,I.os,I.bare,I.base,I.loc,I.cell,I.free,I.freeC,fun p hp=>(List.mem_append.mp hp).elim (fun z=>I.pin p (List.mem_append_left _ z)) (h p),I.hok,I.len⟩
theorem alE{N:List Str}(hN:N.Nodup){i j:Nat}{x:Str}(a:N[i]? =some x)(b:N[j]? =some x):i=j:=by
 obtain⟨h1,e1⟩:=List.getElem?_eq_some_iff.mp a
 obtain⟨h2,e2⟩:=List.getElem?_eq_some_iff.mp b
 exact (List.getElem_inj hN).mp (e1.trans e2.symm)
theorem ajF{M:Model}{A:Around}{E:Value->Shared->Prop}{i:Nat}{x:Str}{v:V}{u:Value}{Q:Unit->Shared->Prop}(I:Inv X pins σ H s)(hN:X.N.Nodup)(hi:X.N[i]? =some x)(hx:Loc X.env.scope x)(r:RelV v u)
  (h:∀s',Inv X pins (σ.set i (some v)) H s'->(∃a,Heap.SameBut a s.heap s'.heap/\(a=X.env.locals∨X.env.cells.lookup x=some a))->Q () s') (hf:X.fn x=true∨X.env.scope.names.lookup x=some .local:=by first | exact .inl rfl | exact .inr rfl | assumption):wpAny M A (storeName X.env x u) Q E s:=by
 obtain⟨m,hn,hl⟩:=id I.loc
 have hcls:(X.env.scope.kind== .class||(X.env.scope.kind== .module&&X.env.locals !=X.env.globals))=false:=by rw[I.ok.kind];rfl
 have hiσ:i<σ.length:=by rw[I.len];exact (List.getElem?_eq_some_iff.mp hi).1
 have cne:=I.cne
 have tracked:∀{a:Addr} {h':Heap},(∃o,s.heap.get? a=some o/\H a=none)->Heap.SameBut a s.heap h'->HOk X.prog X.w H h':=fun {a h'} ha hs b ob e=>by
  obtain⟨_,_,hfree⟩:=ha
  refine (I.hok b ob e).stay (fun c w' hc q=>(hs.2 c ?_).trans q) (fun _ q=>q) fun _ _ q=>q
  rintro rfl
  rcases hc with rfl | hc
  ·rw[hfree] at e;cases e
  ·rw[hfree] at hc;cases hc
 rcases hx with hk | hk
 ·refine wpAny_storeName_local hk hn (fun h' hn' hs=>?_) hcls
  obtain⟨oL,_,_,hoL,_⟩:=id hn
  refine h _ ⟨I.ok,I.os,I.bare,⟨fun b o e n hb hx=>?_,fun b o e n hb hx=>?_,I.base.free,fun b o e hx=>?_,I.base.tups,I.base.frzs,I.base.tbls⟩,⟨_,hn',fun j y v' e1 e2 e3=>?_⟩,fun y c e=>?_,I.free,I.freeC,fun p hp=>?_,tracked ⟨oL,hoL,I.free⟩ hs,by simpa using I.len⟩ ⟨_,hs,.inl rfl⟩
  ·exact (hs.2 b (Nat.ne_of_lt (Nat.lt_of_lt_of_le (Heap.lt_size e) I.ok.above))).trans (I.base.keep b o e n hb hx)
  ·obtain⟨sl,e1⟩:=I.base.slot b o e n hb hx
   exact⟨sl,(hs.2 b (Nat.ne_of_lt (Nat.lt_of_lt_of_le (Heap.lt_size e) I.ok.above))).trans e1⟩
  ·obtain⟨o',e1⟩:=I.base.there b o e hx
   exact⟨o',(hs.2 b (Nat.ne_of_lt (Nat.lt_of_lt_of_le (Heap.lt_size e) I.ok.above))).trans e1⟩
  ·by_cases hj:j=i
   ·subst hj
    rw[hi] at e1;cases e1
    rw[List.getElem?_set_self hiσ] at e2
    cases e2
    exact⟨u,r,.inl ⟨hk,by simp⟩⟩
   ·rw[List.getElem?_set_ne (Ne.symm hj)] at e2
    obtain⟨u',r',q⟩:=hl j y v' e1 e2 e3
    refine⟨u',r',?_⟩
    rcases q with ⟨k,e⟩ | ⟨k,c,e,z⟩
    ·refine .inl ⟨k,?_⟩
     have:y≠x:=fun e=>hj (alE hN e1 (e▸hi))
     simp[this,e]
    ·exact .inr ⟨k,c,e,z.sameBut hs (cne y c e)⟩
  ·obtain⟨w',z⟩:=I.cell y c e
   exact⟨w',z.sameBut hs (cne y c e)⟩
  ·obtain⟨e,n,ne,nf,d⟩:=I.pin p hp
   exact⟨(hs.2 p.1 ne).trans e,n,ne,nf,d⟩
 ·have hfn:X.fn x=true:=by
   rcases hf with z | z
   ·exact z
   ·rw[z] at hk;cases hk
  obtain⟨c,hc⟩:=I.ok.has x (.inl hk)
  obtain⟨w',z⟩:=I.cell x c hc
  refine wpAny_storeName_cell I.ok.kind hk hc z (fun h' hc' hs=>?_)
  obtain⟨oc,hoc,hocd⟩:=id z
  refine h {s with heap:=h'} ⟨I.ok,I.os,I.bare,⟨fun b o e n hb hx=>?_,fun b o e n hb hx=>?_,I.base.free,fun b o e hx=>?_,I.base.tups,I.base.frzs,I.base.tbls⟩,⟨m,hn.sameBut hs (Ne.symm (cne x c hc)),fun j y v' e1 e2 e3=>?_⟩,fun y c' e=>?_,I.free,I.freeC,fun p hp=>?_,tracked ⟨oc,hoc,I.freeC x c hc⟩ hs,by simpa using I.len⟩ ⟨c,hs,.inr hc⟩
  ·exact (hs.2 b (Nat.ne_of_lt (Nat.lt_of_lt_of_le (Heap.lt_size e) (I.ok.cab x c hfn hc)))).trans (I.base.keep b o e n hb hx)
  ·obtain⟨sl,e1⟩:=I.base.slot b o e n hb hx
   exact⟨sl,(hs.2 b (Nat.ne_of_lt (Nat.lt_of_lt_of_le (Heap.lt_size e) (I.ok.cab x c hfn hc)))).trans e1⟩
  ·obtain⟨o',e1⟩:=I.base.there b o e hx
   exact⟨o',(hs.2 b (Nat.ne_of_lt (Nat.lt_of_lt_of_le (Heap.lt_size e) (I.ok.cab x c hfn hc)))).trans e1⟩
  ·by_cases hj:j=i
   ·subst hj
    rw[hi] at e1;cases e1
    rw[List.getElem?_set_self hiσ] at e2
    cases e2
    exact⟨u,r,.inr ⟨.inl hk,c,hc,hc'⟩⟩
   ·rw[List.getElem?_set_ne (Ne.symm hj)] at e2
    obtain⟨u',r',q⟩:=hl j y v' e1 e2 e3
    refine⟨u',r',?_⟩
    rcases q with q | ⟨k,c',e,z'⟩
    ·exact .inl q
    ·refine .inr ⟨k,c',e,z'.sameBut hs ?_⟩
     rintro rfl
     exact hj (alE hN e1 (I.ok.inj _ _ _ e hc▸hi))
  ·by_cases hcc:c'=c
   ·subst hcc;exact⟨_,hc'⟩
   ·obtain⟨w2,z2⟩:=I.cell y c' e
    exact⟨w2,z2.sameBut hs hcc⟩
  ·obtain⟨e,n,ne,nf,d⟩:=I.pin p hp
   refine⟨(hs.2 p.1 ?_).trans e,n,ne,nf,d⟩
   intro q
   rw[q,hoc] at e
   have q':oc=p.2:=Option.some.inj e
   exact d w' (by rw[←q'];exact hocd)
theorem adK{M:Model}{A:Around}{E:Value->Shared->Prop}{i:Nat}{x:Str}{v:V}{u:Value}{Q:Unit->Shared->Prop}(I:Inv X pins σ H s)(hN:X.N.Nodup)(hi:X.N[i]? =some x)(hx:Loc X.env.scope x)(r:RelV v u)
  (h:∀s',Inv X pins (σ.set i (some v)) H s'->Q () s') (hf:X.fn x=true∨X.env.scope.names.lookup x=some .local:=by first | exact .inl rfl | exact .inr rfl | assumption):wpAny M A (storeName X.env x u) Q E s:=
 ajF I hN hi hx r (fun s' I' _=>h s' I') hf
theorem Inv.call'{s':Shared}{ch:List Addr}(I:Inv X pins σ H s)(ho:s'.os=s.os)(u:Un (frs X.stack) ch H H' s.heap s'.heap)(hok:HOk X.prog X.w H' s'.heap)(hg:AllBare s'.gens)
  (hch:∀b∈ch,(b∈X.ex∨X.s₀.heap.objs.size<=b)/\b≠X.env.locals/\(∀x c,X.env.cells.lookup x=some c->c≠b)/\∀p∈X.pn++pins,p.1≠b):Inv X pins σ H' s':=by
 obtain⟨h',g',d',t',o'⟩:=s'
 have e:o'=s.os:=ho
 subst e
 exact I.call (g':=g') (t':=t') (d':=d') u hok hg hch
end
abbrev XK:=Value->Option Addr->Hp->Prop
abbrev St:=List (Option V)
abbrev VK:=V->Hp->Prop
abbrev TE:=St->Hp->VK->Prop
abbrev TT:=St->Hp->(Bool->Hp->Prop)->Prop
abbrev TA:=St->Hp->(List V->Hp->Prop)->Prop
structure Ends where
 nx:St->Hp->Prop
 rt:VK
 bk:St->Hp->Prop:=fun _ _=>False
 ct:St->Hp->Prop:=fun _ _=>False
abbrev TS:=Ends->St->Hp->Prop
def EP(X:Cx)(pins:List (Addr×Obj))(σ:St)(Q:VK)(u:Value)(s':Shared):Prop:=∃v H',Inv X pins σ H' s'/\RelV v u/\Q v H'
def TP(X:Cx)(pins:List (Addr×Obj))(σ:St)(Q:Bool->Hp->Prop)(b:Bool)(s':Shared):Prop:=∃H',Inv X pins σ H' s'/\Q b H'
def AP(X:Cx)(pins:List (Addr×Obj))(σ:St)(Q:List V->Hp->Prop)(us:List Value)(s':Shared):Prop:=∃vs H',Inv X pins σ H' s'/\Vals vs us/\Q vs H'
def SP(X:Cx)(pins:List (Addr×Obj))(D:Ends)(f:Flow)(s':Shared):Prop:=
 match f with
 |.next=>∃σ' H',Inv X pins σ' H' s'/\D.nx σ' H'
 |.brk=>∃σ' H',Inv X pins σ' H' s'/\D.bk σ' H'
 |.cont=>∃σ' H',Inv X pins σ' H' s'/\D.ct σ' H'
 |.ret u=>∃v σ' H',Inv X pins σ' H' s'/\RelV v u/\D.rt v H'
def PE(X:Cx)(e:Expr)(t:TE):Prop:=
 ∀(pins:List (Addr×Obj)) (s:Shared) (σ:St) (H:Hp) (Q:VK),Inv X pins σ H s->t σ H Q->wpAny (model X.prog X.w) X.A (eval e X.env) (EP X pins σ Q) X.xe s
def PT(X:Cx)(e:Expr)(t:TT):Prop:=
 ∀(pins:List (Addr×Obj)) (s:Shared) (σ:St) (H:Hp) (Q:Bool->Hp->Prop),Inv X pins σ H s->t σ H Q->wpAny (model X.prog X.w) X.A (isTrue e X.env (eval e X.env)) (TP X pins σ Q) X.xe s
def PW(X:Cx)(e:Expr)(t:TT):Prop:=
 ∀(whole:Sem Value) (pins:List (Addr×Obj)) (s:Shared) (σ:St) (H:Hp) (Q:Bool->Hp->Prop),Inv X pins σ H s->t σ H Q->wpAny (model X.prog X.w) X.A (isTrue e X.env whole) (TP X pins σ Q) X.xe s
theorem PW.pt{X:Cx}{e:Expr}{t:TT}(h:PW X e t):PT X e t:=h _
def PA(X:Cx)(es:List Expr)(t:TA):Prop:=
 ∀(pos:Pos) (pins:List (Addr×Obj)) (s:Shared) (σ:St) (H:Hp) (Q:List V->Hp->Prop),Inv X pins σ H s->t σ H Q->wpAny (model X.prog X.w) X.A (spliced (backTo pos (starEach es X.env))) (AP X pins σ Q) X.xe s
def PS(X:Cx)(st:Stmt)(t:TS):Prop:=
 ∀(pins:List (Addr×Obj)) (s:Shared) (σ:St) (H:Hp) (D:Ends),Inv X pins σ H s->t D σ H->wpAny (model X.prog X.w) X.A (exec st X.env) (SP X pins D) X.xe s
def PSs(X:Cx)(st:List Stmt)(t:TS):Prop:=
 ∀(pins:List (Addr×Obj)) (s:Shared) (σ:St) (H:Hp) (D:Ends),Inv X pins σ H s->t D σ H->wpAny (model X.prog X.w) X.A (execs st X.env) (SP X pins D) X.xe s
theorem thn{α:Type}{t:Sem α}{Q Q':α->Shared->Prop}{M:Model}{A:Around}{E:Value->Shared->Prop}{s:Shared}(h:wpAny M A t Q E s)(hQ:∀a s,Q a s->Q' a s):wpAny M A t Q' E s:=wpAny_mono h hQ fun _ _ x=>x
section
variable{X:Cx}
def aIB(i:Nat):TE:=fun σ H Q=>∃v,σ[i]? =some (some v)/\Q v H
def tC(v:V):TE:=fun _ H Q=>Q v H
theorem ayH{i:Nat}{x:Str}{pos:Pos}(hN:X.N[i]? =some x)(hv:Vis X.env.scope x)(hd:(x==("__debug__":Str))=false:=by decide)(hcd:(x==("__classdict__":Str))=false:=by decide):PE X (.Name x pos) (aIB i):=by
 intro pins s σ H Q I h
 obtain⟨v,e,h⟩:=h
 obtain⟨m,hn,hl⟩:=I.loc
 obtain⟨u,r,l⟩:=hl i x v hN e hv
 have fin:EP X pins σ Q u s:=⟨v,H,I,r,h⟩
 rcases l with ⟨hk,hm⟩ | ⟨hk,c,hc,hcell⟩
 ·exact wpAny_Name (wpAny_loadName_local I.ok.kind hk hn hm fin) hd
 ·rcases hk with hk | hk
  ·exact wpAny_Name (wpAny_loadName_cell I.ok.kind hk hc hcell fin) hd
  ·exact wpAny_Name (wpAny_loadName_free I.ok.kind hk hc hcell fin hcd) hd
theorem aqS{i j pos}:PE X (.Constant (.int i) j pos) (tC (.int i)):=fun _ _ _ H _ I h=>wpAny_Constant_int ⟨.int i,H,I.tok _,⟨_,rfl⟩,h⟩
theorem aI2{b j pos}:PE X (.Constant (.bool b) j pos) (tC (.bl b)):=fun _ _ _ H _ I h=>Constant_bool ⟨.bl b,H,I,rfl,h⟩
theorem aCP{j pos}:PE X (.Constant .none j pos) (tC .non):=fun _ _ _ H _ I h=>Constant_none ⟨.non,H,I,rfl,h⟩
theorem ap4{x j pos}:PE X (.Constant (.str x) j pos) (tC (.str x)):=fun _ _ _ H _ I h=>Calls.Constant_str ⟨.str x,H,I.tok _,⟨_,rfl⟩,h⟩
def Gl(X:Cx)(x:Str):Prop:=X.env.kindOf x=some .globalImplicit
theorem abG{E:Value->Shared->Prop}{pins:List (Addr×Obj)}{s:Shared}{σ:St}{H:Hp}{x:Str}{u:Value}{pos:Pos}{Q:Value->Shared->Prop}(I:Inv X pins σ H s)(hg:Gl X x)(hm:X.mg x=some u)(h:Q u s)
  (hd:(x==("__debug__":Str))=false:=by decide):wpAny (model X.prog X.w) X.A (eval (.Name x pos) X.env) Q E s:=
 Calls.Name_function_global I.ok.kind hg (Calls.loadGlobal_global (by rw[I.ok.glob];exact I.mod.glob.keeps I.bk) hm h) hd
theorem ah1{E:Value->Shared->Prop}{pins:List (Addr×Obj)}{s:Shared}{σ:St}{H:Hp}{x:Str}{u:Value}{pos:Pos}{Q:Value->Shared->Prop}(I:Inv X pins σ H s)(hg:Gl X x)(hm:X.mg x=none)(hv:bootBuiltins x=some u)(h:Q u s)
  (hn:x≠"__name__":=by decide) (hd:(x==("__debug__":Str))=false:=by decide):wpAny (model X.prog X.w) X.A (eval (.Name x pos) X.env) Q E s:=by
 obtain⟨mb,h1,h2⟩:=I.mod.blt
 exact Calls.Name_function_global I.ok.kind hg (Calls.loadGlobal_builtin (by rw[I.ok.glob];exact I.mod.glob.keeps I.bk) hm (by rw[I.ok.blt];exact h1.keeps I.bk) ((h2 x hn).trans hv) h) hd
theorem atE{x:Str}{v:V}{u:Value}{pos:Pos}(hg:Gl X x)(hm:X.mg x=some u)(r:RelV v u)(hd:(x==("__debug__":Str))=false:=by decide):PE X (.Name x pos) (tC v):=
 fun _ _ _ H _ I h=>abG I hg hm ⟨v,H,I,r,h⟩ hd
theorem awG{x:Str}{v:V}{u:Value}{pos:Pos}(hg:Gl X x)(hm:X.mg x=none)(hv:bootBuiltins x=some u)(r:RelV v u)(hn:x≠"__name__":=by decide)(hd:(x==("__debug__":Str))=false:=by decide):PE X (.Name x pos) (tC v):=
 fun _ _ _ H _ I h=>ah1 I hg hm hv ⟨v,H,I,r,h⟩ hn hd
variable{a b:Expr}{ta tb:TE}{pos:Pos}
def tB(t:TE):TT:=fun σ H Q=>t σ H fun x H1=>∃c,x=.bl c/\Q c H1
theorem azP{e:Expr}{t:TE}(h:PE X e t)(he:∀whole,isTrue e X.env whole=(do let v ←whole;standAt e.pos;holding [v] (truthy v)):=by intro _;rfl):PT X e (tB t):=by
 intro pins s σ H Q I hw
 refine isTrue_plain (thn (h pins s σ H _ I hw) fun v s1 ⟨x,H1,I1,r1,q1⟩=>?_) (he _)
 obtain⟨d,rfl,q⟩:=q1
 cases r1
 exact wpAny_truthy_bool ⟨H1,I1,q⟩
variable{tA tB':TT}{rest:List Expr}
def tOr(t u:TT):TT:=fun σ H Q=>t σ H fun c H1=>if c=true then Q true H1 else u σ H1 Q
def aF2(t:TT):TT:=fun σ H Q=>t σ H fun c H1=>Q (!c) H1
theorem azE(ha:PT X a tA):PW X (.BoolOp .Or [a] pos) tA:=by
 intro wh pins s σ H Q I h
 refine isTrue_or (thn (ha pins s σ H Q I h) fun c s1 e=>?_)
 cases c with
 |false=>exact isTrue_or_nil e
 |true=>exact e
theorem aGT(ha:PT X a tA)(hb:PW X (.BoolOp .Or (b::rest) pos) tB'):PW X (.BoolOp .Or (a::b::rest) pos) (tOr tA tB'):=by
 intro wh pins s σ H Q I h
 refine isTrue_or (thn (ha pins s σ H _ I h) fun c s1 ⟨H1,I1,q1⟩=>?_)
 cases c with
 |true=>exact⟨H1,I1,q1⟩
 |false=>exact hb wh pins s1 σ H1 Q I1 q1
theorem aDN(ha:PT X a tA):PT X (.UnaryOp .Not a pos) (aF2 tA):=by
 intro pins s σ H Q I h
 exact isTrue_not (ha pins s σ H (fun c H1=>Q (!c) H1) I h)
def axY(ta tb:TE):TE:=fun σ H Q=>ta σ H fun x H1=>∃c,x=.bl c/\if c=true then tb σ H1 Q else Q (.bl false) H1
def aIA(ta tb:TE):TE:=fun σ H Q=>ta σ H fun x H1=>∃c,x=.bl c/\if c=true then Q (.bl true) H1 else tb σ H1 Q
def axT(ta:TE):TE:=fun σ H Q=>ta σ H fun x H1=>∃c,x=.bl c/\Q (.bl (!c)) H1
theorem aA1{op}{t:TE}(h:PE X a t):PE X (.BoolOp op [a] pos) t:=fun pins s σ H Q I hw=>BoolOp_one (h pins s σ H Q I hw)
theorem aC9(ha:PE X a ta)(hb:PE X (.BoolOp .And (b::rest) pos) tb):PE X (.BoolOp .And (a::b::rest) pos) (axY ta tb):=by
 intro pins s σ H Q I h
 refine BoolOp_and (thn (ha pins s σ H _ I h) fun v s1 ⟨x,H1,I1,r1,q1⟩=>?_)
 obtain⟨c,rfl,q1⟩:=q1
 cases r1
 refine wpAny_truthy_bool ?_
 cases c with
 |true=>exact hb pins s1 σ H1 Q I1 q1
 |false=>exact⟨.bl false,H1,I1,rfl,q1⟩
theorem aEW(ha:PE X a ta)(hb:PE X (.BoolOp .Or (b::rest) pos) tb):PE X (.BoolOp .Or (a::b::rest) pos) (aIA ta tb):=by
 intro pins s σ H Q I h
 refine BoolOp_or (thn (ha pins s σ H _ I h) fun v s1 ⟨x,H1,I1,r1,q1⟩=>?_)
 obtain⟨c,rfl,q1⟩:=q1
 cases r1
 refine wpAny_truthy_bool ?_
 cases c with
 |false=>exact hb pins s1 σ H1 Q I1 q1
 |true=>exact⟨.bl true,H1,I1,rfl,q1⟩
theorem ayG(ha:PE X a ta):PE X (.UnaryOp .Not a pos) (axT ta):=by
 intro pins s σ H Q I h
 refine UnaryOp_ (thn (ha pins s σ H _ I h) fun v s1 ⟨x,H1,I1,r1,q1⟩=>?_)
 obtain⟨c,rfl,q1⟩:=q1
 cases r1
 exact not_of (wpAny_truthy_bool ⟨.bl (!c),H1,I1,rfl,q1⟩)
def tIf(t:TT)(ta tb:TE):TE:=fun σ H Q=>t σ H fun c H1=>if c=true then ta σ H1 Q else tb σ H1 Q
theorem aq1{c:Expr}(hc:PT X c tA)(ha:PE X a ta)(hb:PE X b tb):PE X (.IfExp c a b pos) (tIf tA ta tb):=by
 intro pins s σ H Q I h
 refine wpAny_IfExp (thn (hc pins s σ H _ I h) fun d s1 ⟨H1,I1,q1⟩=>?_)
 cases d with
 |true=>exact ha pins s1 σ H1 Q I1 q1
 |false=>exact hb pins s1 σ H1 Q I1 q1
end
def SqL(K:PySem.W.Frag)(H:Hp)(a:Addr)(xs:List V):Prop:=
 Rd H a (.lst xs)∨
  ∃(o:Obj) (its:Array Value) (n:Nat),K.lookup a=some o/\o.cls=.type "list"/\o.dict=none/\o.data=.seq its n/\its.size<=sizeLine/\Vals xs its.toList
def SqT(K:PySem.W.Frag)(H:Hp)(a:Addr)(xs:List V):Prop:=
 Rd H a (.tup xs)∨
  ∃(o:Obj) (its:Array Value) (n:Nat),K.lookup a=some o/\o.cls=.type "tuple"/\o.data=.seq its n/\its.size<=sizeLine/\Vals xs its.toList
def absV:Value->Option V
 |.none=>some .non
 |.bool b=>some (.bl b)
 |.int i _=>some (.int i)
 |.str x _=>some (.str x)
 |.bytes b _=>some (.byt b)
 |.float b _=>some (.flt b)
 |.ref a=>some (.ref a)
 |.type n=>some (.ty n)
 |_=>none
theorem RelV.abs{x:V}{u:Value}(r:RelV x u):absV u=some x:=by
 cases x with
 |non=>cases r;rfl
 |bl _=>cases r;rfl
 |int _=>obtain⟨t,rfl⟩:=r;rfl
 |str _=>obtain⟨t,rfl⟩:=r;rfl
 |byt _=>obtain⟨t,rfl⟩:=r;rfl
 |flt _=>obtain⟨t,rfl⟩:=r;rfl
 |ref _=>cases r;rfl
 |ty _=>cases r;rfl
theorem RelV.inj{x y:V}{u:Value}(r:RelV x u)(q:RelV y u):x=y:=Option.some.inj (r.abs.symm.trans q.abs)
theorem Vals.inj:∀{xs ys:List V} {us:List Value},Vals xs us->Vals ys us->xs=ys
 |_,_,_,.nil,.nil=>rfl
 |_,_,_,.cons r t,.cons r' t'=>by rw[r.inj r',Vals.inj t t']
section
variable{X:Cx}{pins:List (Addr×Obj)}{σ:St}{H:Hp}{s:Shared}{a:Addr}{xs ys:List V}
theorem SqL.of{K:PySem.W.Frag}(h:H a=some (.lst xs)):SqL K H a xs:=.inl (.inl h)
theorem SqT.of{K:PySem.W.Frag}(h:H a=some (.tup xs)):SqT K H a xs:=.inl (.inl h)
theorem Inv.list(I:Inv X pins σ H s)(h:SqL X.K H a xs):∃its:List Value,Vals xs its/\PlainL s.heap a its.toArray/\xs.length<=sizeLine:=by
 rcases h with h | ⟨o,its,n,hk,hc,hd,hs,hz,r⟩
 ·obtain⟨z,its,n,r,e⟩:=h.ok I.hok
  exact⟨its,r,⟨_,n,e,rfl,rfl,rfl⟩,z⟩
 ·refine⟨its.toList,r,⟨o,n,I.kIn a o hk,hc,hd,by simpa using hs⟩,?_⟩
  have e:=r.length
  simp only[Array.length_toList] at e
  omega
theorem Inv.tuple(I:Inv X pins σ H s)(h:SqT X.K H a xs):∃its:List Value,Vals xs its/\IsTup s.heap a its.toArray/\xs.length<=sizeLine:=by
 rcases h with h | ⟨o,its,n,hk,hc,hs,hz,r⟩
 ·obtain⟨z,its,r,p⟩:=h.ok I.hok
  exact⟨its,r,p,z⟩
 ·refine⟨its.toList,r,⟨o,I.kIn a o hk,hc,n,by simpa using hs⟩,?_⟩
  have e:=r.length
  simp only[Array.length_toList] at e
  omega
theorem Inv.list_inj(I:Inv X pins σ H s)(h:SqL X.K H a xs)(h':SqL X.K H a ys):xs=ys:=by
 obtain⟨its,r,⟨o,n,e,_,_,d⟩,_⟩:=I.list h
 obtain⟨its',r',⟨o',n',e',_,_,d'⟩,_⟩:=I.list h'
 rw[e] at e';cases e'
 rw[d] at d'
 injection d' with d1 _
 have:its=its':=by simpa using congrArg Array.toList d1
 subst this
 exact r.inj r'
end
abbrev Cx.wish(X:Cx)(E:Value->Shared->Prop):Cx:={X with xe:=E}
abbrev Cx.nox(X:Cx):Cx:=X.wish fun _ _=>False
theorem Cx.Ok.wish{X:Cx}(ok:X.Ok)(E:Value->Shared->Prop):(X.wish E).Ok:=
 ⟨ok.mod,ok.kind,ok.glob,ok.blt,ok.above,ok.inj,ok.has,ok.cab,ok.hd,ok.frames,ok.stk,ok.exf,ok.bs,ok.bsz,ok.noex,ok.exfs,ok.funs,ok.frf⟩
theorem Cx.Ok.unwish{X:Cx}{E:Value->Shared->Prop}(ok:(X.wish E).Ok):X.Ok:=
 ⟨ok.mod,ok.kind,ok.glob,ok.blt,ok.above,ok.inj,ok.has,ok.cab,ok.hd,ok.frames,ok.stk,ok.exf,ok.bs,ok.bsz,ok.noex,ok.exfs,ok.funs,ok.frf⟩
section
variable{X:Cx}{pins:List (Addr×Obj)}{σ:St}{H:Hp}{s:Shared}{E:Value->Shared->Prop}
theorem Inv.wish(I:Inv X pins σ H s)(E:Value->Shared->Prop):Inv (X.wish E) pins σ H s:=⟨I.ok.wish E,I.os,I.bare,I.base,I.loc,I.cell,I.free,I.freeC,I.pin,I.hok,I.len⟩
theorem Inv.unwish(I:Inv (X.wish E) pins σ H s):Inv X pins σ H s:=⟨I.ok.unwish,I.os,I.bare,I.base,I.loc,I.cell,I.free,I.freeC,I.pin,I.hok,I.len⟩
theorem SP.unwish{D:Ends}{f:Flow}{s':Shared}(h:SP (X.wish E) pins D f s'):SP X pins D f s':=by
 cases f with
 |next=>obtain⟨σ',H',I,q⟩:=h;exact⟨σ',H',I.unwish,q⟩
 |brk=>obtain⟨σ',H',I,q⟩:=h;exact⟨σ',H',I.unwish,q⟩
 |cont=>obtain⟨σ',H',I,q⟩:=h;exact⟨σ',H',I.unwish,q⟩
 |ret u=>obtain⟨v,σ',H',I,r,q⟩:=h;exact⟨v,σ',H',I.unwish,r,q⟩
theorem PSs.nox{st:List Stmt}{t:TS}(h:PSs X.nox st t):PSs X st t:=fun pins s σ H D I hw=>
 wpAny_mono (h pins s σ H D (I.wish _) hw) (fun _ _ q=>q.unwish) fun _ _ z=>False.elim z
end
section
variable{X:Cx}{st:Stmt}{rest:List Stmt}{t u:TS}{e:Expr}{te:TE}{pos:Pos}
def axU:TS:=fun D σ H=>D.nx σ H
def aE6(t u:TS):TS:=fun D σ H=>t {D with nx:=u D} σ H
theorem ar3:PSs X [] axU:=fun _ _ σ H _ I h=>wpAny_execs_nil ⟨σ,H,I,h⟩
theorem aqL(h1:PS X st t)(h2:PSs X rest u):PSs X (st::rest) (aE6 t u):=by
 intro pins s σ H D I h
 refine wpAny_execs_cons (thn (h1 pins s σ H {D with nx:=u D} I h) fun f s1 q=>?_)
 cases f with
 |next=>
  obtain⟨σ',H',I',q⟩:=q
  exact h2 pins s1 σ' H' D I' q
 |ret v=>exact q
 |brk=>exact q
 |cont=>exact q
theorem asF(h1:PS X st t):PSs X [st] t:=by
 intro pins s σ H D I h
 refine wpAny_execs_cons (thn (h1 pins s σ H D I h) fun f s1 q=>?_)
 cases f with
 |next=>exact wpAny_execs_nil q
 |ret v=>exact q
 |brk=>exact q
 |cont=>exact q
theorem Inv.quiet{pins:List (Addr×Obj)}{σ:St}{H:Hp}{s:Shared}(I:Inv X pins σ H s):interactive X.env=false:=by simp[interactive,I.ok.kind]
def axZ(te:TE):TS:=fun D σ H=>te σ H fun _ H1=>D.nx σ H1
theorem asD(he:PE X e te)(hs:swapsWith e none pos.line X.env=pure false:=by rfl):PS X (.Expr e pos) (axZ te):=by
 intro pins s σ H D I h
 exact wpAny_Expr_any (thn (he pins s σ H _ I h) fun v s1 ⟨x,H1,I1,r1,q1⟩=>⟨σ,H1,I1,q1⟩) I.quiet hs
def aHD(te:TE):TS:=fun D σ H=>te σ H D.rt
theorem aCQ(he:PE X e te):PS X (.Return (some e) pos) (aHD te):=by
 intro pins s σ H D I h
 exact wpAny_Return_some (thn (he pins s σ H _ I h) fun v s1 ⟨x,H1,I1,r1,q1⟩=>⟨x,σ,H1,I1,r1,q1⟩)
def aHH(c:TT)(t u:TS):TS:=fun D σ H=>c σ H fun b H1=>if b=true then t D σ H1 else u D σ H1
theorem aJQ{c:Expr}{a b:List Stmt}{tc:TT}(hc:PT X c tc)(ha:PSs X a t)(hb:PSs X b u):PS X (.If c a b pos) (aHH tc t u):=by
 intro pins s σ H D I h
 refine wpAny_If (thn (hc pins s σ H _ I h) fun d s1 ⟨H1,I1,q1⟩=>?_)
 cases d with
 |true=>exact ha pins s1 σ H1 D I1 q1
 |false=>exact hb pins s1 σ H1 D I1 q1
end
abbrev TG:=V->St->Hp->(St->Hp->Prop)->Prop
abbrev TGs:=List V->St->Hp->(St->Hp->Prop)->Prop
def PG(X:Cx)(target:Expr)(t:TG):Prop:=
 ∀(pins:List (Addr×Obj)) (s:Shared) (σ:St) (H:Hp) (v:V) (u:Value) (Q:St->Hp->Prop),Inv X pins σ H s->RelV v u->t v σ H Q->
  wpAny (model X.prog X.w) X.A (assign target X.env u) (fun _ s'=>∃σ' H',Inv X pins σ' H' s'/\Q σ' H') X.xe s
def PGs(X:Cx)(ts:List Expr)(t:TGs):Prop:=
 ∀(pins:List (Addr×Obj)) (s:Shared) (σ:St) (H:Hp) (vs:List V) (us:List Value) (Q:St->Hp->Prop),Inv X pins σ H s->Vals vs us->t vs σ H Q->
  wpAny (model X.prog X.w) X.A (assignInOrder ((assignEach ts X.env).map (·.2)) us) (fun _ s'=>∃σ' H',Inv X pins σ' H' s'/\Q σ' H') X.xe s
abbrev aC2:=V->V->V->Hp->(Hp->Prop)->Prop
def aHZ(X:Cx)(t:aC2):Prop:=
 ∀(pins:List (Addr×Obj)) (s:Shared) (σ:St) (H:Hp) (o i v:V) (ov iv u:Value) (Q:Hp->Prop),Inv X pins σ H s->RelV o ov->RelV i iv->RelV v u->t o i v H Q->
  wpAny (model X.prog X.w) X.A (setItem ov iv u) (fun _ s'=>∃H',Inv X pins σ H' s'/\Q H') X.xe s
section
variable{X:Cx}{pos:Pos}
def abS(i:Nat):TG:=fun v σ H Q=>Q (σ.set i (some v)) H
theorem at3{i:Nat}{x:Str}(hN:X.N.Nodup)(hi:X.N[i]? =some x)(hx:Loc X.env.scope x)(hf:X.fn x=true∨X.env.scope.names.lookup x=some .local:=by first | exact .inl rfl | exact .inr rfl | assumption):PG X (.Name x pos) (abS i):=by
 intro pins s σ H v u Q I r h
 exact wpAny_assign_Name (adK I hN hi hx r (fun s' I'=>⟨_,H,I',h⟩) hf)
def atU:TGs:=fun vs σ H Q=>vs=[]/\Q σ H
def ajA(t:TG)(u:TGs):TGs:=fun vs σ H Q=>∃v r,vs=v::r/\t v σ H fun σ' H'=>u r σ' H' Q
theorem as1:PGs X [] atU:=by
 intro pins s σ H vs us Q I r h
 obtain⟨e,h⟩:=h
 subst e
 cases r
 exact assignInOrder_nil ⟨σ,H,I,h⟩
theorem aqA{e:Expr}{es:List Expr}{t:TG}{u:TGs}(h1:PG X e t)(h2:PGs X es u)
  (hs:(assignEach (e::es) X.env).map (·.2)=assign e X.env::(assignEach es X.env).map (·.2):=by rfl):PGs X (e::es) (ajA t u):=by
 intro pins s σ H vs us Q I r h
 obtain⟨v,vr,e1,h⟩:=h
 subst e1
 cases r with
 |cons r rr=>
  rw[hs]
  refine assignInOrder_cons (thn (h1 pins s σ H _ _ _ I r h) fun _ s1 ⟨σ1,H1,I1,q1⟩=>?_)
  exact h2 pins s1 σ1 H1 _ _ Q I1 rr q1
def arP(K:PySem.W.Frag)(n:Nat)(t:TGs):TG:=fun v σ H Q=>∃a xs,v=.ref a/\SqT K H a xs/\xs.length=n/\t xs σ H Q
theorem aBG{es:List Expr}{k:Nat}{t:TGs}{n:Nat}(hc:X.calm=true)(h:PGs X es t)
  (hn:(assignEach es X.env).length=n:=by rfl) (hst:(assignEach es X.env).findIdx? (·.1)=none:=by rfl):PG X (.Tuple es k pos) (arP X.K n t):=by
 intro pins s σ H v u Q I r hw
 obtain⟨a,xs,e1,hq,hl,hw⟩:=hw
 subst e1
 cases r
 obtain⟨its,rv,ht,hz⟩:=I.tuple hq
 refine assign_Tuple_tuple (I.ok.hd hc) ht (by simp[hn,←hl,rv.length]) hst fun h' hx=>?_
 have I1:Inv X pins σ H {s with heap:=h'}:=I.kept (t':=s.toks) fun b o e=>hx b o (Nat.ne_of_lt (Heap.lt_size e)) e
 exact h pins _ σ H xs _ Q I1 (by simpa using rv) hw
def aGV(to ti:TE)(t:aC2):TG:=fun v σ H Q=>to σ H fun o H1=>ti σ H1 fun i H2=>t o i v H2 fun H3=>Q σ H3
theorem aAZ{o i:Expr}{to ti:TE}{t:aC2}(ho:PE X o to)(hi:PE X i ti)(hs:aHZ X t)
  (ha:∀v,assign (.Subscript o i pos) X.env v=(do
   let ov ←holding [v] (eval o X.env)
   let iv ←holding [v,ov] (eval i X.env)
   standAt pos
   holding [v,ov,iv] (setItem ov iv v)
   release [v,ov,iv] []):=by intro _;rfl):PG X (.Subscript o i pos) (aGV to ti t):=by
 intro pins s σ H v u Q I r h
 rw[ha]
 refine wpAny_bind (wpAny_holding (thn (ho pins s σ H _ I h) fun ov s1 ⟨x,H1,I1,r1,q1⟩=>?_))
 refine wpAny_bind (wpAny_holding (thn (hi pins s1 σ H1 _ I1 q1) fun iv s2 ⟨y,H2,I2,r2,q2⟩=>?_))
 refine wpAny_bind (wpAny_standAt (wpAny_bind (wpAny_holding (thn (hs pins s2 σ H2 x y v ov iv u _ I2 r1 r2 r q2) fun _ s3 ⟨H3,I3,q3⟩=>?_))))
 exact wpAny_release ⟨σ,H3,I3,q3⟩
def aq0(te:TE)(g:TG):TS:=fun D σ H=>te σ H fun x H1=>g x σ H1 D.nx
theorem aCO{tg e:Expr}{te:TE}{g:TG}(he:PE X e te)(hg:PG X tg g)(hs:swapsWithSole [tg] e pos.line X.env=pure false:=by rfl)(hw:swappedStores [tg] e X.env=pure none:=by rfl)
  (h1:(assignEach [tg] X.env).map (·.2)=[assign tg X.env]:=by rfl):PS X (.Assign [tg] e pos) (aq0 te g):=by
 intro pins s σ H D I h
 refine wpAny_Assign_stores (thn (he pins s σ H _ I h) fun v s1 ⟨x,H1,I1,r1,q1⟩=>?_) hs hw
 rw[h1]
 exact thn (hg pins s1 σ H1 x v _ I1 r1 q1) fun _ s2 q=>q
theorem ax8{i:Nat}{x:Str}{e:Expr}{te:TE}{pos':Pos}(hN:X.N.Nodup)(hi:X.N[i]? =some x)(hx:Loc X.env.scope x)(he:PE X e te)(hs:swapsWith e (some (.Name x pos')) pos.line X.env=pure false:=by rfl)(hf:X.fn x=true∨X.env.scope.names.lookup x=some .local:=by first | exact .inl rfl | exact .inr rfl | assumption):
  PS X (.Assign [.Name x pos'] e pos) (aq0 te (abS i)):=by
 intro pins s σ H D I h
 refine wpAny_Assign_Name (thn (he pins s σ H _ I h) fun v s1 ⟨y,H1,I1,r1,q1⟩=>?_) hs
 exact adK I1 hN hi hx r1 (fun s2 I2=>⟨_,H1,I2,q1⟩) hf
end
section
variable{X:Cx}{pos:Pos}
end
structure It where
 go:Nat->Hp->Prop
 yld:Nat->Hp->V->Hp->Prop
 stop:Nat->Hp->Prop
def acI(X:Cx)(pins:List (Addr×Obj))(H:Hp)(b:Addr):Prop:=
 H b=none/\b≠X.env.locals/\b∉X.fs/\(b∈X.ex∨X.s₀.heap.objs.size<=b)/\(∀x c,X.env.cells.lookup x=some c->c≠b)/\∀p∈X.pn++pins,p.1≠b
theorem Inv.fpOk{X:Cx}{pins:List (Addr×Obj)}{σ:St}{H H':Hp}{s:Shared}{b:Addr}(I:Inv X pins σ H s)(hb:s.heap.objs.size<=b)(hn:H' b=none):acI X pins H' b:=by
 refine⟨hn,Nat.ne_of_gt (Nat.lt_of_lt_of_le I.lt hb),I.nofs hb,.inr (Nat.le_trans I.sz hb),fun x c e z=>?_,fun p hp z=>?_⟩
 ·obtain⟨v,q⟩:=I.cell x c e
  exact absurd (Nat.lt_of_lt_of_le q.lt (by rw[z];exact hb)) (Nat.lt_irrefl _)
 ·exact absurd (Nat.lt_of_lt_of_le (Heap.lt_size (I.pin p hp).1) (by rw[z];exact hb)) (Nat.lt_irrefl _)
structure Turn(P:Program)(w:World)(K:PySem.W.Frag)(tg:Expr)(J:It)(fp:List Addr)(it:Addr)(tn:Nat->Heap->Prop):Prop where
 mem:it∈fp
 obj:∀i h,tn i h->∀b∈fp,∃o,h.get? b=some o/\∀v,o.data≠ .cell v
 keep:∀i h h',tn i h->(∀b∈fp,∀o,h.get? b=some o->h'.get? b=some o)->tn i h'
 item:∀(X:Cx),X.prog=P->X.w=w->X.K=K->X.calm=true->∀(i:Nat) (pins:List (Addr×Obj)) (s:Shared) (σ:St) (H:Hp) (E:Value->Shared->Prop),Inv X pins σ H s->(∀b∈fp,acI X pins H b)->tn i s.heap->J.go i H->
  wpAny (model P w) X.A (pyNext (.ref it)) (fun r s1=>∃u,r=some u/\
   wpAny (model P w) X.A (letOwnedTupleGo tg (.ref it) u) (fun _ s2=>∃x H',Inv X pins σ H' s2/\RelV x u/\J.yld i H x H'/\tn (i+1) s2.heap/\∀b∈fp,H' b=none) E s1) E s
 done:∀(X:Cx),X.prog=P->X.w=w->X.K=K->X.calm=true->∀(i:Nat) (pins:List (Addr×Obj)) (s:Shared) (σ:St) (H:Hp) (E:Value->Shared->Prop),Inv X pins σ H s->(∀b∈fp,acI X pins H b)->tn i s.heap->J.stop i H->
  wpAny (model P w) X.A (pyNext (.ref it)) (fun r s1=>r=none/\Inv X pins σ H s1) E s
 self:∀(A:Around) (i:Nat) (s:Shared) (Q:Value->Shared->Prop) (E:Value->Shared->Prop),tn i s.heap->Q (.ref it) s->wpAny (model P w) A (pyIter (.ref it)) Q E s
abbrev TI:=St->Hp->(It->Hp->Prop)->Prop
def PIE(X:Cx)(pins:List (Addr×Obj))(σ:St)(tg:Expr)(R:It->Hp->Prop)(itv:Value)(s2:Shared):Prop:=
 ∃(it:Addr) (fp:List Addr) (tn:Nat->Heap->Prop) (J:It) (H':Hp),itv=.ref it/\Inv X pins σ H' s2/\Turn X.prog X.w X.K tg J fp it tn/\tn 0 s2.heap/\(∀b∈fp,acI X pins H' b)/\R J H'
def PI(X:Cx)(tg iter:Expr)(wi:TI):Prop:=
 ∀(pins:List (Addr×Obj)) (s:Shared) (σ:St) (H:Hp) (R:It->Hp->Prop),Inv X pins σ H s->wi σ H R->
  wpAny (model X.prog X.w) X.A (eval iter X.env) (fun v s1=>wpAny (model X.prog X.w) X.A (pyIter v) (PIE X pins σ tg R) X.xe s1) X.xe s
theorem an1{M:Model}{A:Around}{E:Value->Shared->Prop}{s:Shared}{tg:Expr}{it:Addr}{u:Value}{o:Obj}{n:String}{vs:Array Value}{Q:Unit->Shared->Prop}(ho:s.heap.get? it=some o)(hc:o.cls=.type n)(hd:o.data=.fields vs)
  (hn:["enumerate","zip","dict_itemiterator","dict_reverseitemiterator","odict_iterator","itertools.zip_longest","itertools.pairwise"].contains n=false) (hQ:Q () s):wpAny M A (letOwnedTupleGo tg (.ref it) u) Q E s:=by
 unfold letOwnedTupleGo
 cases tg<;>first
  |exact wpAny_pure hQ
  |(cases u<;>first
    |exact wpAny_pure hQ
    |(refine wpAny_bind (wpAny_load ho ?_)
      rw[hc,hd]
      show wpAny M A (if (["enumerate","zip","dict_itemiterator","dict_reverseitemiterator","odict_iterator","itertools.zip_longest","itertools.pairwise"].contains n&&vs[0]? ==some (rawInt _))=true then _ else _) Q E s
      rw[if_neg (by intro h;rw[hn,Bool.false_and] at h;cases h)]
      exact wpAny_pure hQ))
def Itl(K:PySem.W.Frag)(a:Addr):It:=
 ⟨fun i H=>∃xs x,SqL K H a xs/\xs[i]? =some x,fun i H x H'=>H'=H/\∀xs,SqL K H a xs->xs[i]? =some x,fun i H=>∃xs,SqL K H a xs/\xs.length<=i⟩
def Itr(lo:Int)(n:Nat):It:=⟨fun i _=>i<n,fun i H x H'=>H'=H/\x=.int (lo+i),fun i _=>n<=i⟩
theorem aoV{P:Program}{w:World}{K:PySem.W.Frag}{tg:Expr}(a it:Addr):Turn P w K tg (Itl K a) [it] it (fun i h=>h.IsListIter it a i) where
 mem:=by simp
 obj:=fun i h st b hb=>by
  have e:b=it:=by simpa using hb
  subst e
  obtain⟨o,e,c,d⟩:=st
  exact⟨o,e,fun v z=>by rw[d] at z;cases z⟩
 keep:=fun i h h' st k=>st.at fun o e=>k it (by simp) o e
 item:=by
  intro X hP hw hK hc i pins s σ H E I hf st hg
  subst hP hw hK
  obtain⟨xs,x,hq,hx⟩:=hg
  obtain⟨its,rv,p,hz⟩:=I.list hq
  obtain⟨u,hu,ru⟩:=rv.get hx
  obtain⟨f0,f1,f2,f3,f4,f5⟩:=hf it (by simp)
  refine wpAny_pyNext_list_item st p.isList (x:=u) (by simpa using hu) fun h' st' sb=>?_
  have I1:Inv X pins σ H {s with heap:=h'}:=I.turned (t':=s.toks) (fun b o hb e=>(sb.2 b hb).trans e) f0 f1 f3 f4 f5
  obtain⟨o,e,c,d⟩:=id st'
  exact⟨u,rfl,an1 (s:={s with heap:=h'}) e c d (by decide) ⟨x,H,I1,ru,⟨rfl,fun ys hy=>by rw[I.list_inj hy hq];exact hx⟩,st',fun b hb=>(hf b hb).1⟩⟩
 done:=by
  intro X hP hw hK hc i pins s σ H E I hf st hg
  subst hP hw hK
  obtain⟨xs,hq,hx⟩:=hg
  obtain⟨its,rv,p,hz⟩:=I.list hq
  obtain⟨f0,f1,f2,f3,f4,f5⟩:=hf it (by simp)
  have hl:=rv.length
  exact wpAny_pyNext_list_end (I.ok.hd hc) st p.isList (by simp;omega) fun h' eb=>⟨rfl,I.turned (t':=s.toks) (fun b o hb e=>eb b o hb e) f0 f1 f3 f4 f5⟩
 self:=fun _ _ _ _ _ st h=>wpAny_pyIter_listiter st h
theorem amQ{P:Program}{w:World}{K:PySem.W.Frag}{tg:Expr}(it:Addr)(lo:Int)(n:Nat):Turn P w K tg (Itr lo n) [it] it (fun i h=>IsRangeIter h it (lo+(i:Nat)*1) ((n:Int)-(i:Nat)) 1) where
 mem:=by simp
 obj:=fun i h st b hb=>by
  have e:b=it:=by simpa using hb
  subst e
  exact⟨_,st,fun v z=>by
   have z':Data.fields _=Data.cell v:=z
   cases z'⟩
 keep:=fun i h h' st k=>k it (by simp) _ st
 item:=by
  intro X hP hw hK hc i pins s σ H E I hf st hg
  subst hP hw hK
  obtain⟨f0,f1,f2,f3,f4,f5⟩:=hf it (by simp)
  have W:=Walks.range (prog:=X.prog) (w:=X.w) (I.ok.hd hc) it lo 1 n
  refine W.item i s _ _ hg st fun v h' tk hv st' kk=>?_
  obtain⟨t,rfl⟩:=hv
  have I1:Inv X pins σ H {s with heap:=h',toks:=tk}:=I.turned (fun b o hb e=>kk b o (by simpa using hb) e) f0 f1 f3 f4 f5
  refine⟨_,rfl,an1 (s:={s with heap:=h',toks:=tk}) (n:="range_iterator") st' rfl rfl (by decide) ⟨.int (lo+i),H,I1,⟨t,?_⟩,⟨rfl,rfl⟩,st',fun b hb=>(hf b hb).1⟩⟩
  rw[Int.mul_one]
 done:=by
  intro X hP hw hK hc i pins s σ H E I hf st hg
  subst hP hw hK
  obtain⟨f0,f1,f2,f3,f4,f5⟩:=hf it (by simp)
  exact wpAny_pyNext_range_end (I.ok.hd hc) st (by have:n<=i:=hg;omega) fun h' eb=>⟨rfl,I.turned (t':=s.toks) (fun b o hb e=>eb b o hb e) f0 f1 f3 f4 f5⟩
 self:=fun _ _ _ _ _ st h=>wpAny_pyIter_rangeiter st h
section
variable{X:Cx}{tg:Expr}
def axP(K:PySem.W.Frag)(tl:TE):TI:=fun σ H R=>tl σ H fun x H1=>∃a,x=.ref a/\(∃xs,SqL K H1 a xs)/\R (Itl K a) H1
theorem asZ{l:Expr}{tl:TE}(hl:PE X l tl):PI X tg l (axP X.K tl):=by
 intro pins s σ H R I h
 refine thn (hl pins s σ H _ I h) fun v s1 ⟨x,H1,I1,r1,q1⟩=>?_
 obtain⟨a,e,⟨xs,hq⟩,q⟩:=q1
 subst e
 cases r1
 obtain⟨its,rv,p,hz⟩:=I1.list hq
 refine wpAny_pyIter_list p.isList ?_
 refine⟨s1.heap.objs.size,[s1.heap.objs.size],_,_,H1,rfl,I1.kept (t':=s1.toks) fun b o e=>Heap.get?_push_of_some _ e,aoV a _,⟨_,Heap.get?_push_size _ rfl,rfl,rfl⟩,fun b hb=>?_,q⟩
 have e:b=s1.heap.objs.size:=by simpa using hb
 subst e
 exact I1.fpOk (Nat.le_refl _) (I1.hok.fresh (Nat.le_refl _))
theorem aqM{pins:List (Addr×Obj)}{σ:St}{H:Hp}{s:Shared}{R:It->Hp->Prop}{E:Value->Shared->Prop}{lo hi:Int}{t u v:Tok}{tk:Nat}(I:Inv X pins σ H s)(h1: -(2^62)<=lo)(h2:lo<2^62)(h3: -(2^62)<=hi)(h4:hi<2^62)
  (q:R (Itr lo (hi-lo).toNat) H):wpAny (model X.prog X.w) X.A (pyIter (.ref s.heap.objs.size)) (PIE X pins σ tg R) E {s with heap:=s.heap.push {cls:=.type "range",data:=.fields #[.int lo t,.int hi u,.int 1 v]},toks:=tk}:=by
 refine wpAny_pyIter_range (IsRange.new ..) (small_one h1 h2 h3 h4) ?_
 have I1:Inv X pins σ H {s with heap:=s.heap.push {cls:=.type "range",data:=.fields #[.int lo t,.int hi u,.int 1 v]},toks:=tk}:=I.kept fun b o e=>Heap.get?_push_of_some _ e
 refine⟨(s.heap.push {cls:=.type "range",data:=.fields #[.int lo t,.int hi u,.int 1 v]}).objs.size,[(s.heap.push {cls:=.type "range",data:=.fields #[.int lo t,.int hi u,.int 1 v]}).objs.size],_,_,H,rfl,
  I1.kept (t':=tk) fun b o e=>Heap.get?_push_of_some _ e,amQ _ lo (hi-lo).toNat,?_,fun b hb=>?_,q⟩
 ·have e1:lo+((0:Nat):Int)*1=lo:=by simp
  have e2:(((hi-lo).toNat:Nat):Int)-((0:Nat):Int)=Builtin.Range.rangeSize lo hi 1:=by rw[rangeSize_one];split<;>omega
  show IsRangeIter _ _ (lo+((0:Nat):Int)*1) ((((hi-lo).toNat:Nat):Int)-((0:Nat):Int)) 1
  rw[e1,e2]
  exact Heap.get?_push_size _ rfl
 ·have e:b=(s.heap.push {cls:=.type "range",data:=.fields #[.int lo t,.int hi u,.int 1 v]}).objs.size:=by simpa using hb
  subst e
  exact I1.fpOk (Nat.le_refl _) (I1.hok.fresh (Nat.le_refl _))
def axW(ta:TA):TI:=fun σ H R=>ta σ H fun vs H1=>∃j:Int,vs=[.int j]/\ -(2^62)<=j/\j<2^62/\R (Itr 0 j.toNat) H1
theorem apA{a:Expr}{ta:TA}{p pos:Pos}(hg:Gl X "range")(hm:X.mg "range"=none)(ha:PA X [a] ta)(hs:starEach [a] X.env=[(false,eval a X.env)]:=by rfl):PI X tg (.Call (.Name "range" p) [a] [] pos) (axW ta):=by
 intro pins s σ H R I h
 refine Call_ (ah1 I hg hm boot_range (PyProof.Rows.callWith_type1 (thn (ha pos pins s σ H _ I h) fun us s1 ⟨vs,H1,I1,r1,q1⟩=>?_) hs rfl))
 obtain⟨j,e,q1,q2,q⟩:=q1
 subst e
 cases r1 with
 |cons r rr=>
  cases rr
  obtain⟨t,rfl⟩:=r
  exact call_range_1 (aqM I1 (by omega) (by omega) q1 q2 (by simpa using q))
def aJJ(wi:TI)(g:TG)(tb:TS):TS:=fun D σ H=>wi σ H fun J H1=>∃W:Nat->Nat->St->Hp->Prop,(∃m,W 0 m σ H1)/\∀i m σ H,W i m σ H->
 (J.stop i H/\D.nx σ H)∨(J.go i H/\∃N:St->Hp->Prop,(∀σ' H',N σ' H'->∃m',m'<m/\W (i+1) m' σ' H')/\∀x H',J.yld i H x H'->g x σ H' fun σ2 H2=>tb {D with nx:=N,ct:=N,bk:=D.nx} σ2 H2)
def aeI(fp:List Addr)(h:Heap):List (Addr×Obj):=fp.filterMap fun b=>(h.get? b).map fun o=>(b,o)
theorem abI{fp:List Addr}{h:Heap}{b:Addr}{o:Obj}(hb:b∈fp)(e:h.get? b=some o):(b,o)∈aeI fp h:=List.mem_filterMap.mpr ⟨b,hb,by rw[e];rfl⟩
theorem aoN{fp:List Addr}{h:Heap}{p:Addr×Obj}(hp:p∈aeI fp h):p.1∈fp/\h.get? p.1=some p.2:=by
 obtain⟨b,hb,e⟩:=List.mem_filterMap.mp hp
 cases q:h.get? b with
 |none=>rw[q] at e;cases e
 |some o=>
  rw[q] at e
  have e':(b,o)=p:=Option.some.inj e
  subst e'
  exact⟨hb,q⟩
theorem Inv.pinned{pins:List (Addr×Obj)}{σ:St}{H:Hp}{s:Shared}{fp:List Addr}(I:Inv X pins σ H s)(hf:∀b∈fp,acI X pins H b)(ho:∀b∈fp,∃o,s.heap.get? b=some o/\∀v,o.data≠ .cell v):Inv X (pins++aeI fp s.heap) σ H s:=
 I.pins_of fun p hp=>(List.mem_append.mp hp).elim (fun z=>I.pin p (List.mem_append_right _ z)) fun z=>by
  obtain⟨hb,e⟩:=aoN z
  obtain⟨f0,f1,f2,_⟩:=hf p.1 hb
  obtain⟨o,e',d⟩:=ho p.1 hb
  rw[e] at e';cases e'
  exact⟨e,f0,f1,f2,d⟩
theorem Inv.unpinned{pins pl:List (Addr×Obj)}{σ:St}{H:Hp}{s:Shared}(I:Inv X (pins++pl) σ H s):Inv X pins σ H s:=I.pins_of fun p hp=>I.pin p (List.mem_append_right _ (List.mem_append_left _ hp))
theorem azR{iter:Expr}{body:List Stmt}{wi:TI}{g:TG}{tb:TS}{pos:Pos}(hp:PassesOwn (model X.prog X.w) X.A X.env X.xe)(hc:X.calm=true)(hi:PI X tg iter wi)(hg:PG X tg g)(hb:PSs X body tb)
  (hs:∀x,foldedSetIterable iter X.env x=pure x:=by intro _;rfl):PS X (.For tg iter body [] pos) (aJJ wi g tb):=by
 intro pins s σ H D I h
 refine wpAny_For (thn (hi pins s σ H _ I h) fun v s1 h1=>thn h1 fun itv s2 h2=>?_) hs
 obtain⟨it,fp,tn,J,H2,e,I2,T,st2,f2,W,⟨m0,w0⟩,turn⟩:=h2
 subst e
 -- what stays true of the iterator's objects through the loop
 have stat:∀{H':Hp},(∀b∈fp,H' b=none)->∀b∈fp,acI X pins H' b:=fun hn b hb=>⟨hn b hb,(f2 b hb).2⟩
 refine codeAny_forLoop_any (fun n s'=>∃i σ' H',Inv X pins σ' H' s'/\tn i s'.heap/\(∀b∈fp,H' b=none)/\W i n σ' H') ?_ m0 ⟨0,σ,H2,I2,st2,fun b hb=>(f2 b hb).1,w0⟩
 rintro n s3 ⟨i,σ3,H3,I3,st3,fr3,w3⟩
 rcases turn i n σ3 H3 w3 with ⟨stop,qn⟩ | ⟨go,N,hN,step⟩
 ·refine wpAny_passesOwn hp (thn (T.done X rfl rfl rfl hc i pins s3 σ3 H3 X.xe I3 (stat fr3) st3 stop) fun r s4 ⟨hr,I4⟩=>?_)
  subst hr
  exact wpAny_execs_nil ⟨σ3,H3,I4,qn⟩
 ·refine wpAny_passesOwn hp (thn (T.item X rfl rfl rfl hc i pins s3 σ3 H3 X.xe I3 (stat fr3) st3 go) fun r s4 ⟨u,hr,h4⟩=>?_)
  subst hr
  refine wpAny_passesOwn hp (thn h4 fun _ s5 ⟨x,H5,I5,r5,y5,st5,fr5⟩=>?_)
  have I5':=I5.pinned (stat fr5) (T.obj _ _ st5)
  refine wpAny_passesOwn hp (thn (hg _ s5 σ3 H5 x u _ I5' r5 (step x H5 y5)) fun _ s6 ⟨σ6,H6,I6,q6⟩=>?_)
  refine wpAny_passesOwn hp (thn (hb _ s6 σ6 H6 _ I6 q6) fun f s7 q7=>?_)
  have again:∀{σ7:St} {H7:Hp},Inv X (pins++aeI fp s5.heap) σ7 H7 s7->N σ7 H7->∃m,m<n/\∃i σ' H',Inv X pins σ' H' s7/\tn i s7.heap/\(∀b∈fp,H' b=none)/\W i m σ' H':=fun {σ7 H7} I7 n7=>by
   obtain⟨m',hm,w7⟩:=hN σ7 H7 n7
   refine⟨m',hm,i+1,σ7,H7,I7.unpinned,T.keep _ _ _ st5 fun b hb o e=>(I7.pin (b,o) (List.mem_append_right _ (List.mem_append_right _ (abI hb e)))).1,fun b hb=>?_,w7⟩
   obtain⟨o,e,d⟩:=T.obj _ _ st5 b hb
   exact (I7.pin (b,o) (List.mem_append_right _ (List.mem_append_right _ (abI hb e)))).2.1
  cases f with
  |next=>obtain⟨σ7,H7,I7,n7⟩:=q7;exact again I7 n7
  |cont=>obtain⟨σ7,H7,I7,n7⟩:=q7;exact again I7 n7
  |brk=>obtain⟨σ7,H7,I7,q7⟩:=q7;exact⟨σ7,H7,I7.unpinned,q7⟩
  |ret v=>obtain⟨x7,σ7,H7,I7,r7,q7⟩:=q7;exact⟨x7,σ7,H7,I7.unpinned,r7,q7⟩
end
theorem ag2{K:PySem.W.Frag}{a:Addr}{xs:List V}{g:TG}{tb:TS}{D:Ends}{σ:St}{H:Hp}(Pv:Nat->St->Hp->Prop)(h0:Pv 0 σ H)(hl:∀i σ H,i<=xs.length->Pv i σ H->SqL K H a xs)
  (hs:∀i x σ H,xs[i]? =some x->Pv i σ H->g x σ H fun σ2 H2=>tb {D with nx:=Pv (i+1),ct:=Pv (i+1),bk:=D.nx} σ2 H2) (hd:∀σ H,Pv xs.length σ H->D.nx σ H):
  ∃W:Nat->Nat->St->Hp->Prop,(∃m,W 0 m σ H)/\∀i m σ H,W i m σ H->
   ((Itl K a).stop i H/\D.nx σ H)∨((Itl K a).go i H/\∃N:St->Hp->Prop,(∀σ' H',N σ' H'->∃m',m'<m/\W (i+1) m' σ' H')/\∀x H',(Itl K a).yld i H x H'->g x σ H' fun σ2 H2=>tb {D with nx:=N,ct:=N,bk:=D.nx} σ2 H2):=by
 refine⟨fun i m σ H=>m=xs.length-i/\i<=xs.length/\Pv i σ H,⟨xs.length,by simp,Nat.zero_le _,h0⟩,?_⟩
 rintro i m σ H ⟨rfl,hi,p⟩
 have q:=hl i σ H hi p
 by_cases hlt:i<xs.length
 ·refine .inr ⟨⟨xs,xs[i],q,by simp[hlt]⟩,Pv (i+1),fun σ' H' p'=>⟨xs.length-(i+1),by omega,rfl,hlt,p'⟩,fun x H' y=>?_⟩
  obtain⟨e,y⟩:=y
  subst e
  exact hs i x σ _ (y xs q) p
 ·have e:i=xs.length:=by omega
  subst e
  exact .inl ⟨⟨xs,q,Nat.le_refl _⟩,hd σ H p⟩
theorem afQ{lo:Int}{n:Nat}{g:TG}{tb:TS}{D:Ends}{σ:St}{H:Hp}(Pv:Nat->St->Hp->Prop)(h0:Pv 0 σ H)
  (hs:∀i σ H,i<n->Pv i σ H->g (.int (lo+i)) σ H fun σ2 H2=>tb {D with nx:=Pv (i+1),ct:=Pv (i+1),bk:=D.nx} σ2 H2) (hd:∀σ H,Pv n σ H->D.nx σ H):
  ∃W:Nat->Nat->St->Hp->Prop,(∃m,W 0 m σ H)/\∀i m σ H,W i m σ H->
   ((Itr lo n).stop i H/\D.nx σ H)∨((Itr lo n).go i H/\∃N:St->Hp->Prop,(∀σ' H',N σ' H'->∃m',m'<m/\W (i+1) m' σ' H')/\∀x H',(Itr lo n).yld i H x H'->g x σ H' fun σ2 H2=>tb {D with nx:=N,ct:=N,bk:=D.nx} σ2 H2):=by
 refine⟨fun i m σ H=>m=n-i/\i<=n/\Pv i σ H,⟨n,by simp,Nat.zero_le _,h0⟩,?_⟩
 rintro i m σ H ⟨rfl,hi,p⟩
 by_cases hlt:i<n
 ·refine .inr ⟨hlt,Pv (i+1),fun σ' H' p'=>⟨n-(i+1),by omega,rfl,hlt,p'⟩,fun x H' y=>?_⟩
  obtain⟨e,y⟩:=y
  subst e y
  exact hs i σ _ hlt p
 ·have e:i=n:=by omega
  subst e
  exact .inl ⟨Nat.le_refl _,hd σ H p⟩
abbrev R2:=V->V->Hp->VK->Prop
def OpR(X:Cx)(f:Value->Value->Sem Value)(r:R2):Prop:=
 ∀(pins:List (Addr×Obj)) (s:Shared) (σ:St) (H:Hp) (x y:V) (v u:Value) (Q:VK),Inv X pins σ H s->RelV x v->RelV y u->r x y H Q->
  wpAny (model X.prog X.w) X.A (f v u) (EP X pins σ Q) X.xe s
def UnR(X:Cx)(f:Value->Sem Value)(r:V->Hp->VK->Prop):Prop:=
 ∀(pins:List (Addr×Obj)) (s:Shared) (σ:St) (H:Hp) (x:V) (v:Value) (Q:VK),Inv X pins σ H s->RelV x v->r x H Q->
  wpAny (model X.prog X.w) X.A (f v) (EP X pins σ Q) X.xe s
def ad9(X:Cx)(f:Value)(r:List V->Hp->VK->Prop):Prop:=
 ∀(pins:List (Addr×Obj)) (s:Shared) (σ:St) (H:Hp) (xs:List V) (us:List Value) (Q:VK),Inv X pins σ H s->Vals xs us->r xs H Q->
  wpAny (model X.prog X.w) X.A (call f us) (EP X pins σ Q) X.xe s
def tOp(r:R2)(ta tb:TE):TE:=fun σ H Q=>ta σ H fun x H1=>tb σ H1 fun y H2=>r x y H2 Q
def tUn(r:V->Hp->VK->Prop)(ta:TE):TE:=fun σ H Q=>ta σ H fun x H1=>r x H1 Q
def rI(C:Int->Int->Prop)(g:Int->Int->V):R2:=fun x y H Q=>∃i j,x=.int i/\y=.int j/\C i j/\Q (g i j) H
def rI0(g:Int->Int->V):R2:=fun x y H Q=>∃i j,x=.int i/\y=.int j/\Q (g i j) H
def rU(g:Int->V):V->Hp->VK->Prop:=fun x H Q=>∃i,x=.int i/\Q (g i) H
section
variable{X:Cx}{a b c:Expr}{ta tb tc:TE}{pos:Pos}
theorem aD1(ha:PE X a ta)(hb:PE X b tb){pins:List (Addr×Obj)}{s:Shared}{σ:St}{H:Hp}{R:V->V->Hp->Prop}(I:Inv X pins σ H s)
  (h:ta σ H fun x H1=>tb σ H1 fun y H2=>R x y H2) {Q:Value->Shared->Prop} {f:Value->Value->Sem Value}
  (hf:∀v u s2 x y H2,Inv X pins σ H2 s2->RelV x v->RelV y u->R x y H2->wpAny (model X.prog X.w) X.A (f v u) Q X.xe s2):
  wpAny (model X.prog X.w) X.A (eval a X.env) (fun v s₁=>wpAny (model X.prog X.w) X.A (eval b X.env) (fun u s₂=>wpAny (model X.prog X.w) X.A (f v u) Q X.xe s₂) X.xe s₁) X.xe s:=by
 refine thn (ha pins s σ H _ I h) fun v s1 ⟨x,H1,I1,r1,q1⟩=>?_
 refine thn (hb pins s1 σ H1 _ I1 q1) fun u s2 ⟨y,H2,I2,r2,q2⟩=>?_
 exact hf v u s2 x y H2 I2 r1 r2 q2
theorem aE9{op:Operator}{r:R2}(ho:OpR X (binaryOp op) r)(ha:PE X a ta)(hb:PE X b tb):PE X (.BinOp a op b pos) (tOp r ta tb):=by
 intro pins s σ H Q I h
 exact wpAny_BinOp (aD1 ha hb I h fun v u s2 x y H2 I2 rx ry q=>ho pins s2 σ H2 x y v u Q I2 rx ry q)
theorem aED{op:UnaryOp}{r:V->Hp->VK->Prop}(ho:UnR X (unaryOp op) r)(ha:PE X a ta):PE X (.UnaryOp op a pos) (tUn r ta):=by
 intro pins s σ H Q I h
 exact UnaryOp_ (thn (ha pins s σ H _ I h) fun v s1 ⟨x,H1,I1,r1,q1⟩=>ho pins s1 σ H1 x v Q I1 r1 q1)
theorem opI{f:Value->Value->Sem Value}{C:Int->Int->Prop}{g:Int->Int->Int}
  (rule:∀(i j:Int) (t u:Tok) (s:Shared) (Q:Value->Shared->Prop) (E:Value->Shared->Prop),C i j->Q (.int (g i j) s.toks) {s with toks:=s.toks+1}->wpAny (model X.prog X.w) X.A (f (.int i t) (.int j u)) Q E s):
  OpR X f (rI C fun i j=>.int (g i j)):=by
 intro pins s σ H x y v u Q I rx ry h
 obtain⟨i,j,rfl,rfl,hc,q⟩:=h
 obtain⟨t,rfl⟩:=rx
 obtain⟨t',rfl⟩:=ry
 exact rule i j t t' s _ _ hc ⟨.int (g i j),H,I.tok _,⟨_,rfl⟩,q⟩
theorem auR{f:Value->Value->Sem Value}{g:Int->Int->Int}
  (rule:∀(i j:Int) (t u:Tok) (s:Shared) (Q:Value->Shared->Prop) (E:Value->Shared->Prop),Q (.int (g i j) s.toks) {s with toks:=s.toks+1}->wpAny (model X.prog X.w) X.A (f (.int i t) (.int j u)) Q E s):
  OpR X f (rI0 fun i j=>.int (g i j)):=by
 intro pins s σ H x y v u Q I rx ry h
 obtain⟨i,j,rfl,rfl,q⟩:=h
 obtain⟨t,rfl⟩:=rx
 obtain⟨t',rfl⟩:=ry
 exact rule i j t t' s _ _ ⟨.int (g i j),H,I.tok _,⟨_,rfl⟩,q⟩
theorem azH{f:Value->Value->Sem Value}{g:Int->Int->Bool}
  (rule:∀(i j:Int) (t u:Tok) (s:Shared) (Q:Value->Shared->Prop) (E:Value->Shared->Prop),Q (.bool (g i j)) s->wpAny (model X.prog X.w) X.A (f (.int i t) (.int j u)) Q E s):
  OpR X f (rI0 fun i j=>.bl (g i j)):=by
 intro pins s σ H x y v u Q I rx ry h
 obtain⟨i,j,rfl,rfl,q⟩:=h
 obtain⟨t,rfl⟩:=rx
 obtain⟨t',rfl⟩:=ry
 exact rule i j t t' s _ _ ⟨.bl (g i j),H,I,rfl,q⟩
def aFX(i j:Int):Prop:=0<j/\j<1073741824
def awE(i j:Int):Prop:=0<=j/\j<=1000000/\i.natAbs<2^64
def CMul(i j:Int):Prop:=(-(2^64)<i/\i<2^64)∨(-(2^64)<j/\j<2^64)
theorem CMul.ok{i j:Int}(h:CMul i j):IntMulOk i j:=by
 rcases h with ⟨h1,h2⟩ | ⟨h1,h2⟩
 ·exact .of_left (intBits_le_64 h1 h2)
 ·exact .of_right (intBits_le_64 h1 h2)
theorem am1(k:Nat):(0:Int)<=2^k:=by
 rw[two_pow_cast]
 exact Int.natCast_nonneg _
theorem aAI:OpR X (binaryOp .Add) (rI0 fun i j=>.int (i+j)):=auR fun _ _ _ _ _ _ _ q=>add_int q
theorem aC3:OpR X (binaryOp .Sub) (rI0 fun i j=>.int (i-j)):=auR fun _ _ _ _ _ _ _ q=>sub_int q
theorem ay3:OpR X (binaryOp .Mult) (rI CMul fun i j=>.int (i*j)):=opI fun _ _ _ _ _ _ _ hc q=>mul_int q hc.ok
theorem avL:OpR X (binaryOp .FloorDiv) (rI aFX fun i j=>.int (i / j)):=opI fun i j _ _ _ _ _ hc q=>by
 have h1:(0:Int)<j:=hc.1
 have h2:j<1073741824:=hc.2
 exact floordiv_int (by omega) (by rw[Int.fdiv_eq_ediv_of_nonneg i (by omega)];exact q) (.inl (PyProof.noPylong_small (by omega)))
theorem az7:OpR X (binaryOp .Mod) (rI (fun _ j=>0<j) fun i j=>.int (i%j)):=opI fun i j _ _ _ _ _ hc q=>by
 have h1:(0:Int)<j:=hc
 exact mod_int' (by omega) (by rw[Int.fmod_eq_emod_of_nonneg i (by omega)];exact q)
theorem aEA:OpR X (binaryOp .Pow) (rI awE fun i j=>.int (i^j.toNat)):=opI fun _ _ _ _ _ _ _ hc q=>pow_int_small hc.1 hc.2.1 hc.2.2 q
theorem aB4:OpR X (binaryOp .LShift) (rI awE fun i j=>.int (i*2^j.toNat)):=opI fun _ _ _ _ _ _ _ hc q=>lshift_int_small hc.1 hc.2.1 hc.2.2 q
theorem aDF:OpR X (binaryOp .RShift) (rI (fun _ j=>0<=j) fun i j=>.int (i / 2^j.toNat)):=opI fun i j _ _ _ _ _ hc q=>
 rshift_int hc (by rw[Int.fdiv_eq_ediv_of_nonneg i (am1 _)];exact q)
theorem aCY:OpR X (binaryOp .BitAnd) (rI0 fun i j=>.int (Builtin.bitAnd i j)):=auR fun _ _ _ _ _ _ _ q=>and_int q
theorem aFO:OpR X (binaryOp .BitOr) (rI0 fun i j=>.int (Builtin.bitOr i j)):=auR fun _ _ _ _ _ _ _ q=>or_int q
theorem unI{f:Value->Sem Value}{g:Int->Int}
  (rule:∀(i:Int) (t:Tok) (s:Shared) (Q:Value->Shared->Prop) (E:Value->Shared->Prop),Q (.int (g i) s.toks) {s with toks:=s.toks+1}->wpAny (model X.prog X.w) X.A (f (.int i t)) Q E s):
  UnR X f (rU fun i=>.int (g i)):=by
 intro pins s σ H x v Q I rx h
 obtain⟨i,rfl,q⟩:=h
 obtain⟨t,rfl⟩:=rx
 exact rule i t s _ _ ⟨.int (g i),H,I.tok _,⟨_,rfl⟩,q⟩
theorem aAN:UnR X (unaryOp .USub) (rU fun i=>.int (-i)):=unI fun _ _ _ _ _ q=>neg_int q
end
def aIT:V->V->Bool
 |.non,.non=>true | .non,.int _=>true | .int _,.non=>true | .non,.bl _=>true | .bl _,.non=>true | .non,.str _=>true | .str _,.non=>true
 |.int _,.int _=>true | .bl _,.bl _=>true | .str _,.str _=>true | .byt _,.byt _=>true
 |.int _,.str _=>true | .str _,.int _=>true | .bl _,.str _=>true | .str _,.bl _=>true
 |_,_=>false
def rEq:R2:=fun x y H Q=>aIT x y=true/\Q (.bl (decide (x=y))) H
def rNe:R2:=fun x y H Q=>aIT x y=true/\Q (.bl (!decide (x=y))) H
theorem an4{i j:Int}:decide (V.int i=V.int j)=(i==j):=by
 rw[Bool.eq_iff_iff]
 simp
theorem aqW{i j:Bool}:decide (V.bl i=V.bl j)=(i==j):=by
 rw[Bool.eq_iff_iff]
 simp
theorem anH{i j:Str}:decide (V.str i=V.str j)=(i==j):=by
 rw[Bool.eq_iff_iff]
 simp
theorem aoF{i j:Array UInt8}:decide (V.byt i=V.byt j)=(i.toList==j.toList):=by
 rw[Bool.eq_iff_iff]
 cases i
 cases j
 simp
section
variable{X:Cx}{a b c:Expr}{ta tb tc:TE}{pos:Pos}
theorem aaL{pins:List (Addr×Obj)}{σ:St}{H:Hp}{s:Shared}{Q:VK}{k k':Bool}(I:Inv X pins σ H s)(q:Q (.bl k) H)(e:k=k'):EP X pins σ Q (.bool k') s:=by
 subst e
 exact⟨.bl k,H,I,rfl,q⟩
theorem aGD:OpR X (compareOp .Eq) rEq:=by
 intro pins s σ H x y v u Q I rx ry h
 obtain⟨hs,q⟩:=h
 cases x with
 |non=>
  cases rx
  cases y with
  |non=>cases ry;exact PySem.EqNone.eq_none_none (aaL I q (by simp))
  |bl j=>cases ry;exact PySem.EqNone.eq_none_bool (aaL I q (by simp))
  |int j=>obtain⟨t',rfl⟩:=ry;exact PySem.EqNone.eq_none_int (aaL I q (by simp))
  |str j=>obtain⟨t',rfl⟩:=ry;exact PySem.EqNone.eq_none_str (aaL I q (by simp))
  |_=>exact absurd (show false=true from hs) Bool.false_ne_true
 |bl i=>
  cases rx
  cases y with
  |non=>cases ry;exact PySem.EqNone.eq_bool_none (aaL I q (by simp))
  |bl j=>cases ry;exact eq_bool (aaL I q aqW)
  |str j=>obtain⟨t',rfl⟩:=ry;exact PySem.EqMixed.eq_bool_str (aaL I q (by simp))
  |_=>exact absurd (show false=true from hs) Bool.false_ne_true
 |int i=>
  obtain⟨t,rfl⟩:=rx
  cases y with
  |non=>cases ry;exact PySem.EqNone.eq_int_none (aaL I q (by simp))
  |int j=>obtain⟨t',rfl⟩:=ry;exact eq_int (aaL I q an4)
  |str j=>obtain⟨t',rfl⟩:=ry;exact PySem.EqMixed.eq_int_str (aaL I q (by simp))
  |_=>exact absurd (show false=true from hs) Bool.false_ne_true
 |str i=>
  obtain⟨t,rfl⟩:=rx
  cases y with
  |non=>cases ry;exact PySem.EqNone.eq_str_none (aaL I q (by simp))
  |bl j=>cases ry;exact PySem.EqMixed.eq_str_bool (aaL I q (by simp))
  |int j=>obtain⟨t',rfl⟩:=ry;exact PySem.EqMixed.eq_str_int (aaL I q (by simp))
  |str j=>obtain⟨t',rfl⟩:=ry;exact eq_str (aaL I q anH)
  |_=>exact absurd (show false=true from hs) Bool.false_ne_true
 |byt i=>
  obtain⟨t,rfl⟩:=rx
  cases y with
  |byt j=>obtain⟨t',rfl⟩:=ry;exact PySem.W.eq_bytes (aaL I q aoF)
  |_=>exact absurd (show false=true from hs) Bool.false_ne_true
 |_=>cases y<;>exact absurd (show false=true from hs) Bool.false_ne_true
theorem aGU:OpR X (compareOp .NotEq) rNe:=by
 intro pins s σ H x y v u Q I rx ry h
 obtain⟨hs,q⟩:=h
 cases x with
 |non=>
  cases rx
  cases y with
  |non=>cases ry;exact PySem.EqNone.ne_none_none (aaL I q (by simp))
  |bl j=>cases ry;exact PySem.EqNone.ne_none_bool (aaL I q (by simp))
  |int j=>obtain⟨t',rfl⟩:=ry;exact PySem.EqNone.ne_none_int (aaL I q (by simp))
  |str j=>obtain⟨t',rfl⟩:=ry;exact PySem.EqNone.ne_none_str (aaL I q (by simp))
  |_=>exact absurd (show false=true from hs) Bool.false_ne_true
 |bl i=>
  cases rx
  cases y with
  |non=>cases ry;exact PySem.EqNone.ne_bool_none (aaL I q (by simp))
  |bl j=>cases ry;exact ne_bool (aaL I q (congrArg not aqW))
  |str j=>obtain⟨t',rfl⟩:=ry;exact PySem.EqMixed.ne_bool_str (aaL I q (by simp))
  |_=>exact absurd (show false=true from hs) Bool.false_ne_true
 |int i=>
  obtain⟨t,rfl⟩:=rx
  cases y with
  |non=>cases ry;exact PySem.EqNone.ne_int_none (aaL I q (by simp))
  |int j=>obtain⟨t',rfl⟩:=ry;exact ne_int (aaL I q (congrArg not an4))
  |str j=>obtain⟨t',rfl⟩:=ry;exact PySem.EqMixed.ne_int_str (aaL I q (by simp))
  |_=>exact absurd (show false=true from hs) Bool.false_ne_true
 |str i=>
  obtain⟨t,rfl⟩:=rx
  cases y with
  |non=>cases ry;exact PySem.EqNone.ne_str_none (aaL I q (by simp))
  |bl j=>cases ry;exact PySem.EqMixed.ne_str_bool (aaL I q (by simp))
  |int j=>obtain⟨t',rfl⟩:=ry;exact PySem.EqMixed.ne_str_int (aaL I q (by simp))
  |str j=>obtain⟨t',rfl⟩:=ry;exact ne_str (aaL I q (congrArg not anH))
  |_=>exact absurd (show false=true from hs) Bool.false_ne_true
 |byt i=>
  obtain⟨t,rfl⟩:=rx
  cases y with
  |byt j=>obtain⟨t',rfl⟩:=ry;exact PySem.W.ne_bytes (aaL I q (congrArg not aoF))
  |_=>exact absurd (show false=true from hs) Bool.false_ne_true
 |_=>cases y<;>exact absurd (show false=true from hs) Bool.false_ne_true
theorem aFP:OpR X (compareOp .Lt) (rI0 fun i j=>.bl (decide (i<j))):=azH fun _ _ _ _ _ _ _ q=>lt_int q
theorem aE8:OpR X (compareOp .LtE) (rI0 fun i j=>.bl (decide (i<=j))):=azH fun _ _ _ _ _ _ _ q=>le_int q
theorem aHY:OpR X (compareOp .Gt) (rI0 fun i j=>.bl (decide (j<i))):=azH fun _ _ _ _ _ _ _ q=>gt_int q
theorem aoP:OpR X (compareOp .In) (fun x y H Q=>∃i j,x=.str i/\y=.str j/\Q (.bl (!(Builtin.Str.occurrences j i 0 j.length 1).isEmpty)) H):=by
 intro pins s σ H x y v u Q I rx ry h
 obtain⟨i,j,rfl,rfl,q⟩:=h
 obtain⟨t,rfl⟩:=rx
 obtain⟨t',rfl⟩:=ry
 exact in_str (aaL I q rfl)
theorem aCT:OpR X (compareOp .Is) (fun x y H Q=>y=.non/\Q (.bl (decide (x=.non))) H):=by
 intro pins s σ H x y v u Q I rx ry h
 obtain⟨rfl,q⟩:=h
 cases ry
 refine is_none_gen (aaL I q ?_)
 cases x<;>first
  |(cases rx;rfl)
  |(obtain⟨t,rfl⟩:=rx;rfl)
theorem aqD(b:Expr){op:CmpOp}(h:op≠ .In:=by decide)(h2:op≠ .NotIn:=by decide):behindInMarks op b=false:=by
 have e1:(op==CmpOp.In)=false:=by cases op<;>first | rfl | exact absurd rfl h
 have e2:(op==CmpOp.NotIn)=false:=by cases op<;>first | rfl | exact absurd rfl h2
 cases b<;>simp[behindInMarks,e1,e2]
theorem asC{op:CmpOp}{r:R2}(ho:OpR X (compareOp op) r)(ha:PE X a ta)(hb:PE X b tb)(hm:behindInMarks op b=false):PE X (.Compare a [op] [b] pos) (tOp r ta tb):=by
 intro pins s σ H Q I h
 exact wpAny_Compare1 (aD1 ha hb I h fun v u s2 x y H2 I2 rx ry q=>ho pins s2 σ H2 x y v u Q I2 rx ry q) hm
def anJ(t:TE):TT:=fun σ H Q=>t σ H fun x H'=>∃k,x=.bl k/\Q k H'
theorem awN{op:CmpOp}{r:R2}(ho:OpR X (compareOp op) r)(ha:PE X a ta)(hb:PE X b tb)(hm:behindInMarks op b=false):PT X (.Compare a [op] [b] pos) (anJ (tOp r ta tb)):=by
 intro pins s σ H Q I h
 refine wpAny_isTrue_Compare1 (thn (ha pins s σ H _ I h) fun v s1 ⟨x,H1,I1,r1,q1⟩=>thn (hb pins s1 σ H1 _ I1 q1) fun u s2 ⟨y,H2,I2,r2,q2⟩=>
  thn (ho pins s2 σ H2 x y v u _ I2 r1 r2 q2) fun c s3 ⟨z,H3,I3,r3,k,e,q3⟩=>?_) hm
 subst e
 cases r3
 exact wpAny_truthy_bool ⟨H3,I3,q3⟩
def arC(r r':R2)(ta tb tc:TE):TE:=fun σ H Q=>ta σ H fun x H1=>tb σ H1 fun y H2=>r x y H2 fun z H3=>∃k,z=.bl k/\
 (if k=true then tc σ H3 fun w' H4=>r' y w' H4 Q else Q (.bl false) H3)
theorem arJ{op op':CmpOp}{r r':R2}(ho:OpR X (compareOp op) r)(ho':OpR X (compareOp op') r')(ha:PE X a ta)(hb:PE X b tb)(hc:PE X c tc)
  (hm:lastMarks [op,op'] [b,c]=false:=by with_unfolding_all rfl):PT X (.Compare a [op,op'] [b,c] pos) (anJ (arC r r' ta tb tc)):=by
 intro pins s σ H Q I h
 refine isTrue_chain (thn (ha pins s σ H _ I h) fun v s1 ⟨x,H1,I1,r1,q1⟩=>test_link (thn (hb pins s1 σ H1 _ I1 q1) fun u s2 ⟨y,H2,I2,r2,q2⟩=>
  thn (ho pins s2 σ H2 x y v u _ I2 r1 r2 q2) fun d s3 ⟨z,H3,I3,r3,k,e,q3⟩=>?_)) hm
 subst e
 cases r3
 refine wpAny_truthy_bool ?_
 cases k with
 |false=>
  obtain⟨k',e',q'⟩:=q3
  cases e'
  exact ite_ff ⟨H3,I3,q'⟩
 |true=>
  refine ite_tt (test_last (thn (hc pins s3 σ H3 _ I3 q3) fun w' s4 ⟨z',H4,I4,r4,q4⟩=>thn (ho' pins s4 σ H4 y z' u w' _ I4 r2 r4 q4) fun d' s5 ⟨z2,H5,I5,r5,k2,e2,q5⟩=>?_))
  subst e2
  cases r5
  exact wpAny_truthy_bool ⟨H5,I5,q5⟩
theorem afF:(sizeLine:Nat)<2^63:=by rw[sizeLine_eq];decide
theorem anD:OpR X (binaryOp .Add) (fun x y H Q=>∃i j,x=.str i/\y=.str j/\i.length+j.length<=sizeLine/\Q (.str (i++j)) H):=by
 intro pins s σ H x y v u Q I rx ry h
 obtain⟨i,j,rfl,rfl,hz,q⟩:=h
 obtain⟨t,rfl⟩:=rx
 obtain⟨t',rfl⟩:=ry
 exact add_str (fun t' tk=>⟨.str (i++j),H,I.tok _,⟨_,rfl⟩,q⟩) hz
theorem abL{x:V}{us:List Value}(r:Vals [x] us):∃u,us=[u]/\RelV x u:=by
 cases r with
 |cons r1 r2=>cases r2;exact⟨_,rfl,r1⟩
theorem ag4{x y:V}{us:List Value}(r:Vals [x,y] us):∃u w',us=[u,w']/\RelV x u/\RelV y w':=by
 cases r with
 |cons r1 r2=>
  cases r2 with
  |cons r3 r4=>cases r4;exact⟨_,_,rfl,r1,r3⟩
theorem apV:ad9 X (.builtin "abs") (fun xs H Q=>∃i,xs=[.int i]/\Q (.int (if i<0 then -i else i)) H):=by
 intro pins s σ H xs us Q I r h
 obtain⟨i,rfl,q⟩:=h
 obtain⟨u,rfl,t,rfl⟩:=abL r
 exact call_abs_int fun u tk=>⟨.int (if i<0 then -i else i),H,I.tok _,⟨_,rfl⟩,q⟩
theorem apM(hc:X.calm=true):ad9 X (.builtin "min") (fun xs H Q=>∃i j,xs=[.int i,.int j]/\Q (.int (if j<i then j else i)) H):=by
 intro pins s σ H xs us Q I r h
 obtain⟨i,j,rfl,q⟩:=h
 obtain⟨u,w',rfl,⟨t,rfl⟩,⟨t',rfl⟩⟩:=ag4 r
 refine min_two_ints (I.ok.hd hc) fun h' tk k=>⟨_,H,I.kept k,?_,q⟩
 by_cases hj:j<i
 ·rw[if_pos hj,if_pos hj];exact⟨_,rfl⟩
 ·rw[if_neg hj,if_neg hj];exact⟨_,rfl⟩
theorem ao6:ad9 X (.type "int") (fun xs H Q=>(∃i,xs=[.int i]/\Q (.int i) H)∨∃k,xs=[.bl k]/\Q (.int (if k then 1 else 0)) H):=by
 intro pins s σ H xs us Q I r h
 rcases h with ⟨i,rfl,q⟩ | ⟨k,rfl,q⟩
 ·obtain⟨u,rfl,t,rfl⟩:=abL r
  exact call_int_int ⟨.int i,H,I,⟨_,rfl⟩,q⟩
 ·obtain⟨u,rfl,r1⟩:=abL r
  cases r1
  exact call_int_bool ⟨.int (if k then 1 else 0),H,I.tok _,⟨_,rfl⟩,q⟩
theorem akG:ad9 X (.type "str") (fun xs H Q=>∃i,xs=[.int i]/\i.natAbs.log2<1920/\Q (.str (toString i)) H):=by
 intro pins s σ H xs us Q I r h
 obtain⟨i,rfl,hz,q⟩:=h
 obtain⟨u,rfl,t,rfl⟩:=abL r
 exact PySem.P.str_of_int hz ⟨.str _,H,I.tok _,⟨_,rfl⟩,q⟩
end
structure ObjM(h:Heap)(x dx C:Addr)(mA:Str->Option Value):Prop where
 obj:h.get? x=some (PySem.W.instObj C dx)
 ns:h.Ns1 dx mA
 ne:dx≠x
theorem ajO{h:Heap}{dx:Addr}{mA:Str->Option Value}(n:h.Ns1 dx mA):∃od,h.get? dx=some od/\∀name,PySem.W.lookIn name od=some (mA name):=by
 obtain⟨o,es,ep,ho,hd,hk,_,hm⟩:=n
 refine⟨o,ho,fun name=>?_⟩
 have e:=hm name
 unfold nsFind findBy at e
 rw[←Array.find?_toList] at e
 unfold PySem.W.lookIn
 rw[hd]
 dsimp only
 split
 ·rename_i y q
  rw[q] at e
  exact congrArg some e
 ·rename_i q
  rw[q] at e
  have a:es.toList.any (·.refKey)=false:=by
   rw[List.any_eq_false]
   intro y hy
   obtain⟨z,t,hkey⟩:=hk y (Array.mem_toList_iff.mp hy)
   simp[DictEntry.refKey,hkey]
  have a':¬es.toList.any (·.refKey)=true:=by rw[a];exact Bool.false_ne_true
  rw[if_neg a']
  exact congrArg some e
theorem ObjM.look{h:Heap}{x dx C:Addr}{mA:Str->Option Value}(I:ObjM h x dx C mA):∃od,PySem.W.InstAt h x (PySem.W.instObj C dx) C (some od)/\∀name,PySem.W.lookIn name od=some (mA name):=
 let ⟨od,ho,hl⟩:=ajO I.ns
 ⟨od,⟨I.obj,rfl,rfl,ho⟩,hl⟩
section
variable{prog:Program}{w:World}{A:Around}{E:Value->Shared->Prop}{s:Shared}{K:PySem.W.Frag}{x dx C f:Addr}{mA:Str->Option Value}{name:Str}{v:Value}
theorem as2{expr:Bool}{Q:Value->Shared->Prop}(X:K.In s.heap)(I:ObjM s.heap x dx C mA)(hg:PySem.W.plainGet K C name=true)(hh:PySem.W.hasDictIn K C=true)
  (ha:PySem.W.findIn K (.ref C) name=some none) (hv:mA name=some v) (hv':PySem.W.handedIn v=true) (h:Q v {s with toks:=s.toks+1}):
  wpAny (model prog w) A (getAttr (.ref x) name expr) Q E s:=by
 obtain⟨od,J,hl⟩:=I.look
 exact PySem.W.get_value X J (PySem.W.plainGet_of hg).1 (PySem.W.findObj_own hh ha rfl (by rw[hl,hv])) hv' h
theorem avP{ns:List Str}{Q:Unit->Shared->Prop}(X:K.In s.heap)(I:ObjM s.heap x dx C mA)
  (hs:PySem.W.findIn K (.ref C) "__setattr__"=some (some (.builtin "object.__setattr__"))) (hp:PySem.W.plainOver K C=true) (ht:PySem.W.takerIn K C name=some none) (hh:PySem.W.hasDictIn K C=true)
  (hw:PySem.Within mA ns) (hsz:ns.length<=sizeLine)
  (h:∀h',ObjM h' x dx C (fun y=>if y=name then some v else mA y)->Heap.SameBut dx s.heap h'->Q () {s with heap:=h',toks:=s.toks+2}):
  wpAny (model prog w) A (setAttr (.ref x) name v) Q E s:=by
 obtain⟨od,J,hl⟩:=I.look
 refine PySem.W.set_plain X J hs (PySem.W.osa_open (s:={s with toks:=s.toks+1}) (r:=none) X J hp ht fun b=>?_)
 obtain⟨cd,hc,hd'⟩:=PySem.W.any_some hh
 have hx:s.heap.get? x=some ⟨.ref C,some dx,.plain,#[]⟩:=I.obj
 refine wpAny_bind (wpAny_pure (wpAny_bind (wpAny_bind (wpAny_loadPart hx (wpAny_bind (PySem.W.Looks.here (s:={s with toks:=s.toks+1}) (PySem.W.looks_clsIn X hc) ?_))))))
 rw[hd']
 refine wpAny_pure (a:=some dx) (wpAny_bind (wpAny_pure (wpAny_bind ?_)))
 refine wpAny_nsSet1 (s:={s with toks:=s.toks+1}) I.ns fun h' hn2 hs2=>?_
 obtain⟨oD,esD,epD,hoD,hdD,hcD⟩:=hn2.count (PySem.Within.cons name v hw)
 refine wpAny_bind (wpAny_lookBehind hoD (by rw[hdD];exact pastItsLine_dict (Nat.le_trans hcD (by rw[List.length_cons];omega))) ?_)
 exact wpAny_pure (h _ ⟨(hs2.2 _ (Ne.symm I.ne)).trans I.obj,hn2,I.ne⟩ hs2)
theorem aqY{R:Result->Shared->Prop}{vs:List Value}{kw:List (Str×Value)}(X:K.In s.heap)(hm:PySem.W.makesIn K C=true)
  (hi:PySem.W.findIn K (.ref C) "__init__"=some (some (.ref f))) (hf:PySem.W.typeIn K (.ref f)=some (.type "function"))
  (h:codeAny (model prog w) (A.under (.builtin "type.__call__" ⟨.ref C::vs,kw⟩)) (.call (.ref f) ⟨.ref (s.heap.objs.size+1)::vs,kw⟩) (PySem.W.InitBack (s.heap.objs.size+1) R)
   {s with heap:=(s.heap.push PySem.W.emptyDict).push (PySem.W.instObj C s.heap.objs.size)}):
  codeAny (model prog w) A (.call (.ref C) ⟨vs,kw⟩) R s:=by
 obtain⟨hh,g,d,t,os⟩:=s
 exact PySem.W.make_core (PySem.W.makes_of X hm) (PySem.W.looks_findIn X hi) (fun self=>PySem.W.bind_fn X self hf) (.inl rfl) h
theorem aoS{R:Result->Shared->Prop}(X:K.In s.heap)(hm:PySem.W.makesIn K C=true)
  (hi:PySem.W.findIn K (.ref C) "__init__"=some (some (.builtin "object.__init__")))
  (hb:∀self,PySem.W.Looks (model prog w) s.heap (bindSpecial (.builtin "object.__init__") self) (.builtin "object.__init__",[self]))
  (h:codeAny (model prog w) (A.under (.builtin "type.__call__" ⟨[.ref C],[]⟩)) (.call (.builtin "object.__init__") ⟨[.ref (s.heap.objs.size+1)],[]⟩) (PySem.W.InitBack (s.heap.objs.size+1) R)
   {s with heap:=(s.heap.push PySem.W.emptyDict).push (PySem.W.instObj C s.heap.objs.size)}):
  codeAny (model prog w) A (.call (.ref C) ⟨[],[]⟩) R s:=by
 obtain⟨hh,g,d,t,os⟩:=s
 exact PySem.W.make_core (PySem.W.makes_of X hm) (PySem.W.looks_findIn X hi) hb (.inr ⟨rfl,rfl⟩) h
end
def aaM(f:Str)(v:V):List (Str×V)->List (Str×V)
 |[]=>[(f,v)]
 |(g,x)::r=>if g=f then (g,v)::r else (g,x)::aaM f v r
theorem aaJ(f g:Str)(v:V):∀fs:List (Str×V),(aaM f v fs).lookup g=if g=f then some v else fs.lookup g
 |[]=>by
  show List.lookup g [(f,v)]=_
  by_cases h:g=f
  ·have hb:(g==f)=true:=beq_iff_eq.mpr h
   simp only[List.lookup,hb,if_pos h]
  ·have hb:(g==f)=false:=beq_eq_false_iff_ne.mpr h
   simp only[List.lookup,hb,if_neg h]
 |(k,x)::r=>by
  have ih:=aaJ f g v r
  rw[show aaM f v ((k,x)::r)=(if k=f then (k,v)::r else (k,x)::aaM f v r) from rfl]
  by_cases hk:k=f
  ·rw[if_pos hk]
   by_cases h:g=k
   ·have hb:(g==k)=true:=beq_iff_eq.mpr h
    simp only[List.lookup,hb,if_pos (h.trans hk)]
   ·have hb:(g==k)=false:=beq_eq_false_iff_ne.mpr h
    simp only[List.lookup,hb,if_neg (fun e:g=f=>h (e.trans hk.symm))]
  ·rw[if_neg hk]
   by_cases h:g=k
   ·have hb:(g==k)=true:=beq_iff_eq.mpr h
    simp only[List.lookup,hb,if_neg (fun e:g=f=>hk (h.symm.trans e))]
   ·have hb:(g==k)=false:=beq_eq_false_iff_ne.mpr h
    simp only[List.lookup,hb]
    exact ih
theorem afE(f:Str)(v:V):∀fs:List (Str×V),f∈(aaM f v fs).map (·.1)/\∀g,g∈fs.map (·.1)->g∈(aaM f v fs).map (·.1)
 |[]=>⟨by simp[aaM],fun g h=>by simp at h⟩
 |(k,x)::r=>by
  obtain⟨i1,i2⟩:=afE f v r
  rw[show aaM f v ((k,x)::r)=(if k=f then (k,v)::r else (k,x)::aaM f v r) from rfl]
  by_cases hk:k=f
  ·rw[if_pos hk]
   subst hk
   exact⟨by simp,fun g h=>by simpa using h⟩
  ·rw[if_neg hk]
   refine⟨?_,fun g h=>?_⟩
   ·rw[List.map_cons]
    exact List.mem_cons_of_mem _ i1
   ·rw[List.map_cons] at h ⊢
    rcases List.mem_cons.mp h with e | e
    ·exact List.mem_cons.mpr (.inl e)
    ·exact List.mem_cons_of_mem _ (i2 g e)
theorem af3(f:Str)(v:V):∀fs:List (Str×V),(aaM f v fs).length<=fs.length+1
 |[]=>by simp[aaM]
 |(k,x)::r=>by
  have ih:=af3 f v r
  rw[show aaM f v ((k,x)::r)=(if k=f then (k,v)::r else (k,x)::aaM f v r) from rfl]
  by_cases hk:k=f
  ·rw[if_pos hk,List.length_cons,List.length_cons];omega
  ·rw[if_neg hk,List.length_cons,List.length_cons];omega
theorem RelO.some_of{v:V}{o:Option Value}(r:RelO (some v) o):∃u,o=some u/\RelV v u:=by
 cases o with
 |none=>exact (show False from r).elim
 |some u=>exact⟨u,rfl,r⟩
theorem ajN{v:V}{u:Value}(r:RelV v u):PySem.W.handedIn u=true:=by
 cases v with
 |non=>cases (show u=Value.none from r);rfl
 |bl b=>cases (show u=Value.bool b from r);rfl
 |int i=>obtain⟨t,e⟩:=(show ∃t,u=Value.int i t from r);cases e;rfl
 |str x=>obtain⟨t,e⟩:=(show ∃t,u=Value.str x t from r);cases e;rfl
 |byt b=>obtain⟨t,e⟩:=(show ∃t,u=Value.bytes b t from r);cases e;rfl
 |flt b=>obtain⟨t,e⟩:=(show ∃t,u=Value.float b t from r);cases e;rfl
 |ref a=>cases (show u=Value.ref a from r);rfl
 |ty n=>cases (show u=Value.type n from r);rfl
section
variable{P:Program}{w:World}{H H':Hp}{h h':Heap}{a C dx:Addr}{fs fs':List (Str×V)}
theorem aj5(hok:HOk P w H h)(e:H a=some (.ins C dx fs)):∃mA,ObjM h a dx C mA/\(∀f,RelO (fs.lookup f) (mA f))/\PySem.Within mA (fs.map (·.1))/\fs.length<=1000/\H dx=some (.own a):=by
 obtain⟨d,z,ne,ob,mA,n,r,q⟩:=(show ObjOk P w H h a (.ins C dx fs) from hok a _ e)
 exact⟨mA,⟨ob,n,ne⟩,r,q,z,d⟩
end
structure Cls(K:PySem.W.Frag)(C:Addr):Prop where
 pg:PySem.W.plainGet K C Str.empty=true
 hd:PySem.W.hasDictIn K C=true
 po:PySem.W.plainOver K C=true
 sa:PySem.W.findIn K (.ref C) "__setattr__"=some (some (.builtin "object.__setattr__"))
theorem Cls.get{K:PySem.W.Frag}{C:Addr}(c:Cls K C)(f:Str):PySem.W.plainGet K C f=true:=c.pg
def NoAttr(K:PySem.W.Frag)(C:Addr)(f:Str):Prop:=PySem.W.findIn K (.ref C) f=some none
theorem NoAttr.taker{K:PySem.W.Frag}{C:Addr}{f:Str}(n:NoAttr K C f):PySem.W.takerIn K C f=some none:=by
 unfold PySem.W.takerIn
 rw[show PySem.W.findIn K (.ref C) f=some none from n]
 rfl
structure Meth(K:PySem.W.Frag)(C:Addr)(m:Str)(f:Addr):Prop where
 at_:PySem.W.findIn K (.ref C) m=some (some (.ref f))
 fn:PySem.W.isFn K (.ref f)=true
 kp:PySem.W.keepIn K (.ref f)=true
section
variable{X:Cx}{pins:List (Addr×Obj)}{σ:St}{H:Hp}{s:Shared}{a C dx:Addr}{fs:List (Str×V)}{f:Str}{v:V}{A:Around}{E:Value->Shared->Prop}
theorem am7{b:Bool}{Q:Value->Shared->Prop}(I:Inv X pins σ H s)(e:H a=some (.ins C dx fs))(c:Cls X.K C)(n:NoAttr X.K C f)(l:fs.lookup f=some v)
  (h:∀u s',Inv X pins σ H s'->RelV v u->Q u s'):wpAny (model X.prog X.w) A (getAttr (.ref a) f b) Q E s:=by
 obtain⟨mA,O,r,_,_,_⟩:=aj5 I.hok e
 obtain⟨u,hu,ru⟩:=RelO.some_of (v:=v) (o:=mA f) (by rw[←l];exact r f)
 exact as2 I.kIn O (c.get f) c.hd n hu (ajN ru) (h u _ (I.tok _) ru)
theorem amN{y:V}{u:Value}{Q:Unit->Shared->Prop}(I:Inv X pins σ H s)(e:H a=some (.ins C dx fs))(c:Cls X.K C)(n:NoAttr X.K C f)(hl:fs.length<1000)(ry:RelV y u)
  (h:∀s',Inv X pins σ (upd H a (.ins C dx (aaM f y fs))) s'->Q () s'):wpAny (model X.prog X.w) A (setAttr (.ref a) f u) Q E s:=by
 obtain⟨mA,O,r,wi,_,ho⟩:=aj5 I.hok e
 have hz:(fs.map (·.1)).length<=sizeLine:=by rw[List.length_map,sizeLine_eq];omega
 refine avP I.kIn O c.sa c.po n.taker c.hd wi hz fun h' O' sb=>h _ ?_
 have hd:∃o,h'.get? dx=some o:=let ⟨o,_,_,e',_⟩:=O'.ns;⟨o,e'⟩
 refine I.write (x:=a) (e:=dx) (by rw[e];exact True.intro) (.inr ho) (fun b q hb z=>(sb.2 b hb).trans z) hd ?_
 refine⟨by rw[aaE O.ne];exact ho,?_,O.ne,O'.obj,_,O'.ns,fun g=>?_,fun g hg=>?_⟩
 ·have:=af3 f y fs;omega
 ·show RelO ((aaM f y fs).lookup g) (if g=f then some u else mA g)
  rw[aaJ]
  by_cases q:g=f
  ·rw[if_pos q,if_pos q];exact ry
  ·rw[if_neg q,if_neg q];exact r g
 ·by_cases q:g=f
  ·rw[q];exact (afE f y fs).1
  ·refine (afE f y fs).2 g (wi g fun z=>hg ?_)
   show (if g=f then some u else mA g)=none
   rw[if_neg q];exact z
theorem Inv.made(I:Inv X pins σ H s):Inv X pins σ (upd (upd H s.heap.objs.size (.own (s.heap.objs.size+1))) (s.heap.objs.size+1) (.ins C s.heap.objs.size []))
  {s with heap:=(s.heap.push PySem.W.emptyDict).push (PySem.W.instObj C s.heap.objs.size)}:=by
 have e1:(s.heap.push PySem.W.emptyDict).get? s.heap.objs.size=some PySem.W.emptyDict:=Heap.get?_push_size s.heap rfl
 have e2:((s.heap.push PySem.W.emptyDict).push (PySem.W.instObj C s.heap.objs.size)).get? (s.heap.objs.size+1)=some (PySem.W.instObj C s.heap.objs.size):=by
  have:=Heap.get?_push_size (s.heap.push PySem.W.emptyDict) (o:=PySem.W.instObj C s.heap.objs.size) rfl
  rwa [Heap.size_push] at this
 have e3:(s.heap.push PySem.W.emptyDict).Ns s.heap.objs.size (fun _=>none):=⟨PySem.W.emptyDict,#[],_,e1,rfl,(fun e he=>absurd he (by simp)),fun _=>rfl⟩
 have I1:=I.laid (a:=s.heap.objs.size) (o:=.own (s.heap.objs.size+1)) (h':=s.heap.push PySem.W.emptyDict) (t':=s.toks) (fun b u q=>Heap.get?_push_of_some _ q) (Nat.le_refl _) ⟨_,e1⟩
 refine I1.laid (a:=s.heap.objs.size+1) (o:=.ins C s.heap.objs.size []) (t':=s.toks) (fun b u q=>Heap.get?_push_of_some _ q) (Nat.le_of_eq (Heap.size_push _ _)) ?_
 have ne:s.heap.objs.size≠s.heap.objs.size+1:=Nat.ne_of_lt (Nat.lt_succ_self _)
 refine⟨by rw[aaE ne,aaA],Nat.zero_le _,ne,e2,fun _=>none,(Heap.Ns1.of_empty e3).at fun o q=>Heap.get?_push_of_some _ q,fun _=>True.intro,fun y hy=>absurd rfl hy⟩
theorem anT{prog:Program}{w:World}{env:Env}{e:Expr}{f:Str}{pos:Pos}{s:Shared}{Q:Value->Shared->Prop}(hb:attributeBase e f env (eval e env)=eval e env)
  (h:wpAny (model prog w) A (eval e env) (fun o s₁=>wpAny (model prog w) A (getAttr o f true) Q E s₁) E s):wpAny (model prog w) A (eval (.Attribute e f pos) env) Q E s:=
 Attribute_any_ h (by rw[arm_eval_Attribute,hb])
end
def aJW(K:PySem.W.Frag)(ta:TE)(f:Str):TE:=fun σ H Q=>ta σ H fun x H1=>∃a C dx fs v,x=.ref a/\H1 a=some (.ins C dx fs)/\Cls K C/\NoAttr K C f/\fs.lookup f=some v/\Q v H1
def aGQ(K:PySem.W.Frag)(ta tv:TE)(f:Str):TS:=fun D σ H=>tv σ H fun y H1=>ta σ H1 fun x H2=>∃a C dx fs,x=.ref a/\H2 a=some (.ins C dx fs)/\Cls K C/\NoAttr K C f/\fs.length<1000/\
 D.nx σ (upd H2 a (.ins C dx (aaM f y fs)))
section
variable{X:Cx}{o e value:Expr}{f:Str}{pos pos' tpos:Pos}{ta tv:TE}
theorem aCV(he:PE X e ta)(hb:attributeBase e f X.env (eval e X.env)=eval e X.env):PE X (.Attribute e f pos) (aJW X.K ta f):=by
 intro pins s σ H Q I h
 refine anT hb (thn (he pins s σ H _ I h) fun u s1 ⟨x,H1,I1,rx,a,C,dx,fs,v,ex,ea,c,n,l,q⟩=>?_)
 subst ex
 obtain rfl:u=Value.ref a:=rx
 exact am7 I1 ea c n l fun u' s2 I2 ru=>⟨v,H1,I2,ru,q⟩
theorem azS(ha:PE X o ta)(hv:PE X value tv)(hs:swapsWith value (some (.Attribute o f pos')) pos.line X.env=pure false):PS X (.Assign [.Attribute o f pos'] value pos) (aGQ X.K ta tv f):=by
 intro pins s σ H D I h
 refine plainObj_wpAny_Assign_Attribute (thn (hv pins s σ H _ I h) fun u s1 ⟨y,H1,I1,ry,q⟩=>thn (ha pins s1 σ H1 _ I1 q) fun ov s2 ⟨x,H2,I2,rx,a,C,dx,fs,ex,ea,c,n,l,q2⟩=>?_) hs
 subst ex
 obtain rfl:ov=Value.ref a:=rx
 exact amN I2 ea c n l ry fun s3 I3=>⟨σ,_,I3,q2⟩
end
section
variable{X:Cx}{pins:List (Addr×Obj)}{σ:St}{H:Hp}{s:Shared}{A:Around}{E:Value->Shared->Prop}{Q:Value->Shared->Prop}{c:Value}{b:Bool}
inductive TyOf (K:PySem.W.Frag) (H:Hp):V->Value->Prop where
 |non:TyOf K H .non (.type "NoneType")
 |bl (x:Bool):TyOf K H (.bl x) (.type "bool")
 |int (i:Int):TyOf K H (.int i) (.type "int")
 |str (x:Str):TyOf K H (.str x) (.type "str")
 |flt (x:UInt64):TyOf K H (.flt x) (.type "float")
 |lst {a:Addr} {xs:List V} (e:H a=some (.lst xs)):TyOf K H (.ref a) (.type "list")
 |frz {a:Addr} {o:Obj} {xs:List V} (e:H a=some (.frz o (.lst xs))):TyOf K H (.ref a) (.type "list")
 |tup {a:Addr} {xs:List V} (e:H a=some (.tup xs)):TyOf K H (.ref a) (.type "tuple")
 |dK {a:Addr} {kvs:List (Key×V)} (e:H a=some (.dK kvs)):TyOf K H (.ref a) (.type "dict")
 |dT {a:Addr} {kvs:List (List Key×V)} (e:H a=some (.dT kvs)):TyOf K H (.ref a) (.type "dict")
 |ins {a C dx:Addr} {fs:List (Str×V)} (e:H a=some (.ins C dx fs)) (cl:Cls K C) (ha:PySem.W.findIn K (.ref C) "__class__"=some (some (.builtin "object.__class__")))
   (hn:PySem.W.specialIn K (.builtin "object.__class__") "__get__"=some (some (.builtin "getset_descriptor.__get__"))) (htk:PySem.W.takesIn K (.builtin "object.__class__")=some true)
   (hm:PySem.W.mroIn K C (.type "object")=some true):TyOf K H (.ref a) (.ref C)
theorem apK{x:V}{u t:Value}(I:Inv X pins σ H s)(rx:RelV x u)(ty:TyOf X.K H x t)(e:PySem.W.kitOne X.K t c=some b)(h:∀tk,Q (.bool b) {s with toks:=tk}):
  wpAny (model X.prog X.w) A (call (.builtin "isinstance") [u,c]) Q E s:=by
 cases ty with
 |non=>cases (show u=Value.none from rx);exact PySem.W.kia_one PySem.W.kitx_none I.kIn True.intro e (fun z=>nomatch z) h
 |bl y=>cases (show u=Value.bool y from rx);exact PySem.W.kia_one PySem.W.kitx_bool I.kIn True.intro e (fun z=>nomatch z) h
 |int i=>obtain⟨t,q⟩:=(show ∃t,u=Value.int i t from rx);cases q;exact PySem.W.kia_one PySem.W.kitx_int I.kIn True.intro e (fun z=>nomatch z) h
 |str y=>obtain⟨t,q⟩:=(show ∃t,u=Value.str y t from rx);cases q;exact PySem.W.kia_one PySem.W.kitx_str I.kIn True.intro e (fun z=>nomatch z) h
 |flt y=>obtain⟨t,q⟩:=(show ∃t,u=Value.float y t from rx);cases q;exact PySem.W.kia_one PySem.W.kitx_float I.kIn True.intro e (fun z=>nomatch z) h
 |@lst a xs ea=>
  cases (show u=Value.ref a from rx)
  obtain⟨_,_,n,_,h1⟩:=(show ObjOk X.prog X.w H s.heap a (.lst xs) from I.hok a _ ea)
  exact PySem.W.kia_one PySem.W.kitx_list I.kIn ⟨_,h1,rfl⟩ e (fun z=>nomatch z) h
 |@frz a ob xs ea=>
  cases (show u=Value.ref a from rx)
  obtain⟨_,_,_,n,_,h1⟩:=(show ObjOk X.prog X.w H s.heap a (.frz ob (.lst xs)) from I.hok a _ ea)
  exact PySem.W.kia_one PySem.W.kitx_list I.kIn ⟨_,h1,rfl⟩ e (fun z=>nomatch z) h
 |@tup a xs ea=>
  cases (show u=Value.ref a from rx)
  obtain⟨_,_,_,p⟩:=(show ObjOk X.prog X.w H s.heap a (.tup xs) from I.hok a _ ea)
  obtain⟨o,h1,h2,_⟩:=p
  exact PySem.W.kia_one PySem.W.kitx_tuple I.kIn ⟨o,h1,h2⟩ e (fun z=>nomatch z) h
 |@dK a kvs ea=>
  cases (show u=Value.ref a from rx)
  obtain⟨_,_,vs,_,p⟩:=(show ObjOk X.prog X.w H s.heap a (.dK kvs) from I.hok a _ ea)
  obtain⟨o,es,ep,h1,h2,_⟩:=p
  exact PySem.W.kia_one PySem.W.kitx_dict I.kIn ⟨o,h1,h2.1⟩ e (fun z=>nomatch z) h
 |@dT a kvs ea=>
  cases (show u=Value.ref a from rx)
  obtain⟨_,_,xs,_,o,es,ep,h1,h2,_⟩:=(show ObjOk X.prog X.w H s.heap a (.dT kvs) from I.hok a _ ea)
  exact PySem.W.kia_one PySem.W.kitx_dict I.kIn ⟨o,h1,h2.1⟩ e (fun z=>nomatch z) h
 |@ins a C dx fs ea cl ha hn htk hm=>
  cases (show u=Value.ref a from rx)
  obtain⟨mA,O,_⟩:=aj5 I.hok ea
  obtain⟨od,J,_⟩:=O.look
  exact PySem.W.kia_one (PySem.W.kitx_own (cl.get _) cl.hd ha hn htk hm) I.kIn J e (fun z=>nomatch z) h
end
structure Room(k:Nat)(A:Around):Prop where
 hd:A.handled=none
 dp:A.depth+3*k+5<recursionLimit
 un:A.units+16*k+200<cLine
theorem Room.mono{j k:Nat}{A:Around}(r:Room k A)(h:j<=k):Room j A:=⟨r.hd,by have:=r.dp;omega,by have:=r.un;omega⟩
theorem Room.deeper{k:Nat}{A:Around}(r:Room (k+1) A)(env:Env):Room k (A.deeper env):=
 ⟨r.hd,by have:=r.dp;show A.depth+1+3*k+5<_;omega,by have:=r.un;show A.units+3+16*k+200<_;omega⟩
theorem ahS{A:Around}{C:Addr}{us:List Value}{kw:List (Str×Value)}:(A.under (.builtin "type.__call__" ⟨.ref C::us,kw⟩)).depth=A.depth+1:=by
 first | rfl | simp[Around.under,Code.weight,Code.isCreation,Code.isGuard,Code.isCaller,Code.frames,Code.isFrame,guardIds]
theorem ahW{A:Around}{C:Addr}{us:List Value}{kw:List (Str×Value)}:(A.under (.builtin "type.__call__" ⟨.ref C::us,kw⟩)).units=A.units+1:=by
 first | rfl | simp[Around.under,Code.cUnits,Code.frames,Code.isFrame]
theorem Room.make{k:Nat}{A:Around}(r:Room (k+1) A)(C:Addr)(us:List Value)(kw:List (Str×Value)):Room k (A.under (.builtin "type.__call__" ⟨.ref C::us,kw⟩)):=
 ⟨r.hd,by have:=r.dp;rw[ahS];omega,by have:=r.un;rw[ahW];omega⟩
theorem Room.depth{k:Nat}{A:Around}(r:Room k A):A.depth<recursionLimit:=by have:=r.dp;omega
def aiO:TA:=fun _ H Q=>Q [] H
def agH(ta:TE)(tr:TA):TA:=fun σ H Q=>ta σ H fun x H1=>tr σ H1 fun xs H2=>Q (x::xs) H2
section
variable{X:Cx}{e:Expr}{es:List Expr}{te:TE}{t:TA}{pos:Pos}
theorem adD:PA X [] aiO:=fun _ _ _ _ H Q I h=>Calls.spliced_nil ⟨[],H,I,.nil,h⟩
theorem acB(ha:PE X e te)(hr:PA X es t)(hs:starEach (e::es) X.env=(false,eval e X.env)::starEach es X.env:=by rfl):PA X (e::es) (agH te t):=by
 intro pos pins s σ H Q I h
 rw[hs]
 show wpAny _ _ (spliced ((false,eval e X.env)::backTo pos (starEach es X.env))) _ _ s
 refine Calls.spliced_cons (thn (ha pins s σ H _ I h) fun u s1 ⟨x,H1,I1,r1,q1⟩=>?_)
 exact thn (hr pos pins s1 σ H1 _ I1 q1) fun us s2 ⟨xs,H2,I2,r2,q2⟩=>⟨x::xs,H2,I2,.cons r1 r2,q2⟩
def aGO(t:TA):TE:=fun σ H Q=>t σ H fun xs H1=>xs.length<=sizeLine/\∀p,H1 p=none->Q (.ref p) (upd H1 p (.tup xs))
def aHN(t:TA):TE:=fun σ H Q=>t σ H fun xs H1=>xs.length<=sizeLine/\∀p,H1 p=none->Q (.ref p) (upd H1 p (.lst xs))
theorem ayR{x1}(h:PA X es t):PE X (.Tuple es x1 pos) (aGO t):=by
 intro pins s σ H Q I hq
 refine wpAny_Tuple_spliced (thn (h pos pins s σ H _ I hq) fun us s1 ⟨xs,H1,I1,r,z,q⟩=>⟨by rw[←r.length];exact z,?_⟩)
 have hf:H1 s1.heap.objs.size=none:=I1.hok.fresh (Nat.le_refl _)
 refine⟨.ref s1.heap.objs.size,upd H1 s1.heap.objs.size (.tup xs),I1.laid (t':=s1.toks) (fun b u e=>Heap.get?_push_of_some _ e) (Nat.le_refl _) ?_,rfl,q _ hf⟩
 exact⟨z,us,r,⟨_,Heap.get?_push_size _ rfl,rfl,_,rfl⟩⟩
theorem azQ(h:PA X es t):PE X (.List es pos) (aHN t):=by
 intro pins s σ H Q I hq
 refine wpAny_List_spliced (thn (h pos pins s σ H _ I hq) fun us s1 ⟨xs,H1,I1,r,z,q⟩=>⟨by rw[←r.length];exact z,?_⟩)
 have hf:H1 s1.heap.objs.size=none:=I1.hok.fresh (Nat.le_refl _)
 refine⟨.ref s1.heap.objs.size,upd H1 s1.heap.objs.size (.lst xs),I1.laid (t':=s1.toks) (fun b u e=>Heap.get?_push_of_some _ e) (Nat.le_refl _) ?_,rfl,q _ hf⟩
 exact⟨z,us,0,r,Heap.get?_push_size _ rfl⟩
end
abbrev Sp:=List V->Hp->VK->XK->Prop
abbrev CXT:=List Env->Hp->Shared->XK->Value->Shared->Prop
structure Env0(P:Program)(w:World)(K:PySem.W.Frag)(mg:Str->Option Value)(base:Heap)(A:Around)(outer:List Env)(s:Shared)(H:Hp):Prop where
 frames:A.frames=some outer
 mod:Mod K mg base
 bs:∀b o,base.get? b=some o->s.heap.get? b=some o/\H b=none
 bsz:base.objs.size<=s.heap.objs.size
 funs:s.heap.FunFrames base outer
 frf:∀b∈frs outer,H b=none
 hok:HOk P w H s.heap
 bare:AllBare s.gens
def CE(outer:List Env)(P:Program)(w:World)(H:Hp)(s:Shared)(Q:VK)(u:Value)(s':Shared):Prop:=
 ∃v H',s'.os=s.os/\AllBare s'.gens/\Un (frs outer) [] H H' s.heap s'.heap/\HOk P w H' s'.heap/\RelV v u/\Q v H'
def CR(CX:CXT)(outer:List Env)(P:Program)(w:World)(H:Hp)(s:Shared)(Q:VK)(E:XK)(r:Result)(s':Shared):Prop:=
 match r with
 |.ok (.ret u)=>CE outer P w H s Q u s'
 |.ok _=>False
 |.error e=>CX outer H s E e s'
structure FnOk(P:Program)(w:World)(K:PySem.W.Frag)(mg:Str->Option Value)(base:Heap)(CX:CXT)(k:Nat)(f:Addr)(fd:FuncData)(ps:List Str)(sp:Sp):Prop where
 len:∀vs H Q E,sp vs H Q E->vs.length=ps.length
 run:∀(A:Around) (outer:List Env) (s:Shared) (H:Hp) (args:Args) (us:List Value) (vs:List V) (Q:VK) (E:XK),Room k A->Env0 P w K mg base A outer s H->BindsTo s fd args (ps.zip us)->Vals vs us->sp vs H Q E->
  codeAny (model P w) A (.call (.ref f) args) (CR CX outer P w H s Q E) s
theorem Env0.make{P:Program}{w:World}{K:PySem.W.Frag}{mg:Str->Option Value}{base:Heap}{A:Around}{outer:List Env}{s:Shared}{H:Hp}(e:Env0 P w K mg base A outer s H)(C:Addr)(us:List Value)(kw:List (Str×Value)):
  Env0 P w K mg base (A.under (.builtin "type.__call__" ⟨.ref C::us,kw⟩)) outer s H:=⟨by first | exact e.frames | (simpa [Around.under,Code.envs,Code.isFrame,pushEnvs] using e.frames),e.mod,e.bs,e.bsz,e.funs,e.frf,e.hok,e.bare⟩
section
variable{X:Cx}{pins:List (Addr×Obj)}{σ:St}{H:Hp}{s s':Shared}
theorem Inv.env0(I:Inv X pins σ H s):Env0 X.prog X.w X.K X.mg X.base X.A X.stack s H:=
 ⟨I.ok.frames,I.ok.mod,I.bs,Nat.le_trans I.ok.bsz I.sz,I.stack,I.stkFree,I.hok,I.bare⟩
theorem Inv.after{Q:VK}{u:Value}(I:Inv X pins σ H s)(h:CE X.stack X.prog X.w H s Q u s'):EP X pins σ Q u s':=by
 obtain⟨v,H',os,bare,un,hok,r,q⟩:=h
 obtain⟨hh,g,d,t,os'⟩:=s'
 obtain rfl:os'=s.os:=os
 exact⟨v,H',I.call (h':=hh) (g':=g) (d':=d) (t':=t) (ch:=[]) un hok bare (fun b z=>absurd z (by simp)),r,q⟩
end
def ajE(sp:Sp)(dvs:List V)(E:XK)(t:TA):TE:=fun σ H Q=>t σ H fun vs H1=>sp (vs++dvs) H1 Q E
def anS(C:Addr)(sp:Sp)(dvs:List V)(E:XK)(t:TA):TE:=fun σ H Q=>t σ H fun vs H1=>∀x dx,H1 x=none->H1 dx=none->dx≠x->
 sp (.ref x::(vs++dvs)) (upd (upd H1 dx (.own x)) x (.ins C dx [])) (fun v H2=>v=.non/\Q (.ref x) H2) E
def Binds(K:PySem.W.Frag)(fd:FuncData)(ps:List Str)(ds:List Value):Prop:=
 ∀(s:Shared) (us:List Value),K.In s.heap->(us++ds).length=ps.length->BindsTo s fd ⟨us,[]⟩ (ps.zip (us++ds))
theorem Binds.all{K:PySem.W.Frag}{fd:FuncData}{ps:List Str}(h:∀us:List Value,us.length=ps.length->bindArgs fd ⟨us,[]⟩=pure (ps.zip us)):Binds K fd ps []:=fun s us _ hl=>by
 rw[List.append_nil] at hl ⊢
 exact .of_eq (h us hl)
def adG(CX:CXT)(X:Cx)(E:XK):Prop:=∀(pins:List (Addr×Obj)) (σ:St) (H:Hp) (s:Shared) (e:Value) (s':Shared),Inv X pins σ H s->CX X.stack H s E e s'->X.xe e s'
section
variable{X:Cx}{CX:CXT}{k:Nat}{f C:Addr}{fd:FuncData}{ps:List Str}{sp:Sp}{dvs:List V}{ds:List Value}{E:XK}{x m:Str}{p pos apos:Pos}{e o:Expr}{es:List Expr}{ta:TE}{t:TA}
theorem arV{pins:List (Addr×Obj)}{σ:St}{H:Hp}{s:Shared}{Q:VK}{us:List Value}{vs:List V}(F:FnOk X.prog X.w X.K X.mg X.base CX k f fd ps sp)(hr:Room k X.A)(hb:Binds X.K fd ps ds)(hd:Vals dvs ds)(hx:adG CX X E)
  (I:Inv X pins σ H s) (r:Vals vs us) (h:sp (vs++dvs) H Q E):wpAny (model X.prog X.w) X.A (call (.ref f) us) (EP X pins σ Q) X.xe s:=by
 have r2:Vals (vs++dvs) (us++ds):=r.append hd
 have hl:(us++ds).length=ps.length:=by rw[←r2.length];exact F.len _ _ _ _ h
 refine wpAny_call (codeAny_mono (F.run X.A X.stack s H ⟨us,[]⟩ (us++ds) (vs++dvs) Q E hr I.env0 (hb s us I.kIn hl) r2 h) fun r s' hq=>?_)
 cases r with
 |error e=>exact hx pins σ H s e s' I hq
 |ok fl=>
  cases fl with
  |ret u=>exact I.after hq
  |next=>exact False.elim hq
  |brk=>exact False.elim hq
  |cont=>exact False.elim hq
theorem anM(F:FnOk X.prog X.w X.K X.mg X.base CX k f fd ps sp)(hr:Room k X.A)(hg:Gl X x)(hm:X.mg x=some (.ref f))(hk:PySem.W.keepIn X.K (.ref f)=true)(hb:Binds X.K fd ps ds)(hd:Vals dvs ds)(hx:adG CX X E)
  (ha:PA X (e::es) t) (hdb:(x==("__debug__":Str))=false:=by decide) (he:starEach (e::es) X.env=(false,eval e X.env)::starEach es X.env:=by rfl) (hpl:(backTo pos (starEach es X.env)).any (·.1)=false:=by rfl):
  PE X (.Call (.Name x p) (e::es) [] pos) (ajE sp dvs E t):=by
 intro pins s σ H Q I h
 refine wpAny_Call_Name_kw (abG I hg hm ?_ hdb)
 refine PySem.W.callWith_K (h₀:=X.base) I.ok.mod.kin hk (thn (ha pos pins s σ H _ I h) fun us s1 ⟨vs,H1,I1,r,q⟩=>⟨I1.kIn,?_⟩) he hpl
 exact arV F hr hb hd hx I1 r q
structure Mk(K:PySem.W.Frag)(C f:Addr):Prop where
 makes:PySem.W.makesIn K C=true
 init:PySem.W.findIn K (.ref C) "__init__"=some (some (.ref f))
 fn:PySem.W.isFn K (.ref f)=true
 kp:PySem.W.keepIn K (.ref C)=true
theorem alM{pins:List (Addr×Obj)}{σ:St}{H:Hp}{s:Shared}{Q:VK}{us:List Value}{vs:List V}(M:Mk X.K C f)(F:FnOk X.prog X.w X.K X.mg X.base CX k f fd ps sp)(hr:Room (k+1) X.A)(hb:Binds X.K fd ps ds)(hd:Vals dvs ds)
  (hx:adG CX X E) (I:Inv X pins σ H s) (r:Vals vs us)
  (h:∀x dx,H x=none->H dx=none->dx≠x->sp (.ref x::(vs++dvs)) (upd (upd H dx (.own x)) x (.ins C dx [])) (fun v H2=>v=.non/\Q (.ref x) H2) E):
  wpAny (model X.prog X.w) X.A (call (.ref C) us) (EP X pins σ Q) X.xe s:=by
 have hq:=h (s.heap.objs.size+1) s.heap.objs.size (I.hok.fresh (Nat.le_succ _)) (I.hok.fresh (Nat.le_refl _)) (Nat.ne_of_lt (Nat.lt_succ_self _))
 have I2:=Inv.made (C:=C) I
 have r2:Vals (V.ref (s.heap.objs.size+1)::(vs++dvs)) (Value.ref (s.heap.objs.size+1)::(us++ds)):=.cons rfl (r.append hd)
 have hl:(Value.ref (s.heap.objs.size+1)::us++ds).length=ps.length:=by
  have e:=r2.length
  rw[F.len _ _ _ _ hq] at e
  exact e.symm
 refine wpAny_call (aqY (f:=f) I.kIn M.makes M.init (beq_iff_eq.mp M.fn) (codeAny_mono (F.run _ X.stack _ _ ⟨Value.ref (s.heap.objs.size+1)::us,[]⟩ (Value.ref (s.heap.objs.size+1)::(us++ds)) _ _ E (hr.make C us [])
  (I2.env0.make C us []) (hb _ (Value.ref (s.heap.objs.size+1)::us) I2.kIn hl) r2 hq) fun r s' hq'=>?_))
 cases r with
 |error e=>exact hx pins σ _ _ e s' I2 hq'
 |ok fl=>
  cases fl with
  |ret u=>
   obtain⟨v,H',I3,rv,ev,q3⟩:=I2.after hq'
   subst ev
   exact⟨rv,⟨V.ref (s.heap.objs.size+1),H',I3,rfl,q3⟩⟩
  |next=>exact False.elim hq'
  |brk=>exact False.elim hq'
  |cont=>exact False.elim hq'
theorem auA(M:Mk X.K C f)(F:FnOk X.prog X.w X.K X.mg X.base CX k f fd ps sp)(hr:Room (k+1) X.A)(hg:Gl X x)(hm:X.mg x=some (.ref C))(hb:Binds X.K fd ps ds)(hd:Vals dvs ds)(hx:adG CX X E)
  (ha:PA X (e::es) t) (hdb:(x==("__debug__":Str))=false:=by decide) (he:starEach (e::es) X.env=(false,eval e X.env)::starEach es X.env:=by rfl) (hpl:(backTo pos (starEach es X.env)).any (·.1)=false:=by rfl):
  PE X (.Call (.Name x p) (e::es) [] pos) (anS C sp dvs E t):=by
 intro pins s σ H Q I h
 refine wpAny_Call_Name_kw (abG I hg hm ?_ hdb)
 refine PySem.W.callWith_K (h₀:=X.base) I.ok.mod.kin M.kp (thn (ha pos pins s σ H _ I h) fun us s1 ⟨vs,H1,I1,r,q⟩=>⟨I1.kIn,?_⟩) he hpl
 exact alM M F hr hb hd hx I1 r q
theorem arQ(M:Mk X.K C f)(F:FnOk X.prog X.w X.K X.mg X.base CX k f fd ps sp)(hr:Room (k+1) X.A)(hg:Gl X x)(hm:X.mg x=some (.ref C))(hb:Binds X.K fd ps ds)(hd:Vals dvs ds)(hx:adG CX X E)
  (hdb:(x==("__debug__":Str))=false:=by decide):PE X (.Call (.Name x p) [] [] pos) (anS C sp dvs E aiO):=by
 intro pins s σ H Q I h
 refine wpAny_Call_Name_kw (abG I hg hm ?_ hdb)
 exact PySem.W.callWith_K0 I.kIn M.kp (alM (us:=[]) M F hr hb hd hx I .nil h)
end
section
variable{X:Cx}{CX:CXT}{k:Nat}{f C:Addr}{fd:FuncData}{ps ks:List Str}{sp:Sp}{E:XK}{x m:Str}{p pos apos kpos:Pos}{e o:Expr}{es:List Expr}{kws:List Keyword}{te ta:TE}{t tk:TA}{nm:Option Str}
variable{g:List Value->List Value->List Value}{gV:List V->List V->List V}
end
structure FnScope(N P:List Str)(sc:Scope):Prop where
 kind:sc.kind=.function
 co:sc.isCoroutine=false
 gen:sc.isGenerator=false
 nd:N.Nodup
 pre:N.take P.length=P
 par:∀x∈P,sc.names.lookup x=some .local∨sc.names.lookup x=some .cell
 nofree:∀y∈sc.names,y.2≠ .free
theorem ajH{kindOf:Str->Option NameKind}{x:Str}:∀{binds:List (Str×Value)} {m:Str->Option Value},(∀v,(x,v)∉binds)->bindL kindOf binds m x=m x
 |[],_,_=>rfl
 |(n,v)::r,m,h=>by
  unfold bindL
  rw[ajH fun w hw=>h w (List.mem_cons_of_mem _ hw)]
  split
  ·have:x≠n:=by rintro rfl;exact h v List.mem_cons_self
   simp[this]
  ·rfl
theorem ajQ{kindOf:Str->Option NameKind}{x:Str}:∀{binds:List (Str×Value)} {m:Str->Option Value},(∀v,(x,v)∉binds)->bindC kindOf binds m x=m x
 |[],_,_=>rfl
 |(n,v)::r,m,h=>by
  unfold bindC
  rw[ajQ fun w hw=>h w (List.mem_cons_of_mem _ hw)]
  split
  ·rfl
  ·have:x≠n:=by rintro rfl;exact h v List.mem_cons_self
   simp[this]
theorem ai7{kindOf:Str->Option NameKind}{x:Str}{v:Value}:∀{P:List Str} {vs:List Value} {i:Nat} {m:Str->Option Value},P.Nodup->P[i]? =some x->vs[i]? =some v->kindOf x=some .local->
  bindL kindOf (P.zip vs) m x=some v
 |[],_,_,_,_,h,_,_=>by simp at h
 |_::_,[],_,_,_,_,h,_=>by simp at h
 |p::P,w::vs,0,m,nd,h1,h2,hk=>by
  simp at h1 h2;subst h1;subst h2
  show bindL kindOf ((p,w)::P.zip vs) m p=_
  unfold bindL
  rw[ajH fun v hv=>(List.nodup_cons.mp nd).1 (List.of_mem_zip hv).1,if_pos hk]
  simp
 |p::P,w::vs,i+1,m,nd,h1,h2,hk=>by
  show bindL kindOf ((p,w)::P.zip vs) m x=_
  unfold bindL
  exact ai7 (i:=i) (List.nodup_cons.mp nd).2 (by simpa using h1) (by simpa using h2) hk
theorem ajJ{kindOf:Str->Option NameKind}{x:Str}{v:Value}:∀{P:List Str} {vs:List Value} {i:Nat} {m:Str->Option Value},P.Nodup->P[i]? =some x->vs[i]? =some v->kindOf x≠some .local->
  bindC kindOf (P.zip vs) m x=some v
 |[],_,_,_,_,h,_,_=>by simp at h
 |_::_,[],_,_,_,_,h,_=>by simp at h
 |p::P,w::vs,0,m,nd,h1,h2,hk=>by
  simp at h1 h2;subst h1;subst h2
  show bindC kindOf ((p,w)::P.zip vs) m p=_
  unfold bindC
  rw[ajQ fun v hv=>(List.nodup_cons.mp nd).1 (List.of_mem_zip hv).1,if_neg hk]
  simp
 |p::P,w::vs,i+1,m,nd,h1,h2,hk=>by
  show bindC kindOf ((p,w)::P.zip vs) m x=_
  unfold bindC
  exact ajJ (i:=i) (List.nodup_cons.mp nd).2 (by simpa using h1) (by simpa using h2) hk
def start(N:List Str)(vs:List V):St:=vs.map some++List.replicate (N.length-vs.length) none
def aaS(CX:CXT)(P:Program)(w:World)(K:PySem.W.Frag)(mg:Str->Option Value)(base:Heap)(N:List Str)(qual:Str)(scope:Scope)(f:Addr)(cd:Value)(A:Around)(outer:List Env)(s:Shared)(H:Hp)(E:XK):Cx where
 prog:=P
 w:=w
 K:=K
 mg:=mg
 base:=base
 A:=A.deeper (envOfC qual scope s.heap.objs.size f cd)
 N:=N
 s₀:=s
 H₀:=H
 env:=envOfC qual scope s.heap.objs.size f cd
 outer:=outer
 stack:=envOfC qual scope s.heap.objs.size f cd::outer
 ex:=[]
 calm:=true
 fn:=fun _=>true
 pn:=[]
 xe:=fun e s'=>wpAny (model P w) (A.deeper (envOfC qual scope s.heap.objs.size f cd)) (leaving (envOfC qual scope s.heap.objs.size f cd) e) (fun _ s''=>CX outer H s E e s'') (fun e' s''=>CX outer H s E e' s'') s'
theorem alZ{sc:Scope}{n:Nat}{x:Str}(h:sc.names.lookup x=some .cell):∃c,(cellsFrom n sc.names []).lookup x=some c:=by
 have q:=PySem.W.cellsFrom_some sc.names n [] (.inl h)
 exact Option.isSome_iff_exists.mp q
theorem ajB{CX:CXT}{P:Program}{w:World}{K:PySem.W.Frag}{mg:Str->Option Value}{base:Heap}{N ps:List Str}{qual:Str}{scope:Scope}{f:Addr}{cd:Value}{A:Around}{outer:List Env}{s s1:Shared}{H:Hp}{E:XK}{us:List Value}{vs:List V}
  (S:FnScope N ps scope) (hd:A.handled=none) (e0:Env0 P w K mg base A outer s H) (hl:vs.length=ps.length) (r:Vals vs us)
  (x:InCallC s s.heap.objs.size (bindL (envOfC qual scope s.heap.objs.size f cd).kindOf (ps.zip us) fun _=>none) (cellsFrom (s.heap.objs.size+1) scope.names []) (bindC (envOfC qual scope s.heap.objs.size f cd).kindOf (ps.zip us) fun _=>none) s1):
  Inv (aaS CX P w K mg base N qual scope f cd A outer s H E) [] (start N vs) H s1:=by
 have hpl:ps.length<=N.length:=by have:=congrArg List.length S.pre;rw[List.length_take] at this;omega
 obtain⟨h1,tk,rfl,hk⟩:=x.done
 have noA:∀b:Addr,b∉(aaS CX P w K mg base N qual scope f cd A outer s H E).ex:=fun b z=>absurd (show b∈([]:List Addr) from z) (by simp)
 refine⟨⟨e0.mod,S.kind,rfl,rfl,Nat.le_refl _,fun y z c h1 h2=>?_,fun y hy=>?_,fun y c _ h=>?_,fun _=>hd,Around.frames_deeper e0.frames,.inr ⟨rfl,rfl⟩,fun b z=>absurd z (noA b),e0.bs,e0.bsz,fun b _ _=>noA b,fun b z=>absurd z (noA b),e0.funs,e0.frf⟩,
  rfl,e0.bare,Un.kept hk,⟨_,x.toInCall.ns,fun i y v h1 h2 h3=>?_⟩,fun y c h=>⟨_,x.cell y c h⟩,e0.hok.fresh (Nat.le_refl _),fun y c h=>?_,fun p hp=>absurd (show p∈([]:List (Addr×Obj)) from hp) (by simp),e0.hok.kept hk,?_⟩
 ·exact name_of_addr x.apart (PySem.mem_of_lookup h1) (PySem.mem_of_lookup h2)
 ·have hy:scope.names.lookup y=some .cell∨scope.names.lookup y=some .free:=hy
  rcases hy with hy | hy
  ·exact alZ hy
  ·exact absurd rfl (S.nofree _ (PySem.mem_of_lookup hy))
 ·exact Nat.le_of_lt (x.above y c (PySem.mem_of_lookup h))
 ·have hi:i<vs.length:=by
   unfold start at h2
   by_cases hi:i<vs.length
   ·exact hi
   ·rw[List.getElem?_append_right (by simpa using hi)] at h2
    rw[List.getElem?_replicate] at h2
    split at h2<;>cases h2
  have ha:vs[i]? =some v:=by
   unfold start at h2
   rw[List.getElem?_append_left (by simpa using hi),List.getElem?_map] at h2
   cases e:vs[i]? with
   |none=>rw[e] at h2;cases h2
   |some a=>rw[e] at h2;cases h2;rfl
  obtain⟨u,hu,rv⟩:=r.get ha
  have hp:ps[i]? =some y:=by
   rw[←S.pre,List.getElem?_take_of_lt (by omega)];exact h1
  have ndP:ps.Nodup:=by rw[←S.pre];exact S.nd.sublist (List.take_sublist _ _)
  refine⟨u,rv,?_⟩
  rcases S.par y (List.mem_of_getElem? hp) with k | k
  ·exact .inl ⟨k,ai7 ndP hp hu k⟩
  ·obtain⟨c,e⟩:=alZ (n:=s.heap.objs.size+1) k
   refine .inr ⟨.inl k,c,e,?_⟩
   have q:=x.cell y c e
   rw[ajJ ndP hp hu (by show scope.names.lookup y≠_;rw[k];decide)] at q
   exact q
 ·exact e0.hok.fresh (Nat.le_of_lt (x.above y c (PySem.mem_of_lookup h)))
 ·unfold start
  show _=N.length
  rw[List.length_append,List.length_map,List.length_replicate]
  omega
theorem ap9{CX:CXT}{P:Program}{w:World}{K:PySem.W.Frag}{mg:Str->Option Value}{base:Heap}{k:Nat}{f:Addr}{name qual:Str}{params:Arguments}{body:List Stmt}{scope:Scope}{dV kV doc pm cdv ct oc:Value}{an od:Option Addr}
  {osl:Array (Option Value)} {N ps:List Str} {sp:Sp} (lk:K.lookup f=some ⟨oc,od,.func (PySem.W.fnOf name qual params body scope dV kV doc pm an cdv ct),osl⟩) (hcd:PySem.W.codeIn K cdv qual=true) (S:FnScope N ps scope)
  (len:∀vs H Q E,sp vs H Q E->vs.length=ps.length)
  (hbody:∀(A:Around) (outer:List Env) (s:Shared) (H:Hp) (vs:List V) (Q:VK) (E:XK),Room k (A.deeper (envOfC qual scope s.heap.objs.size f cdv))->sp vs H Q E->
   ∃t,PSs (aaS CX P w K mg base N qual scope f cdv A outer s H E) body t/\t {nx:=fun _ H'=>Q .non H',rt:=Q} (start N vs) H):
  FnOk P w K mg base CX (k+1) f (PySem.W.fnOf name qual params body scope dV kV doc pm an cdv ct) ps sp:=by
 refine⟨len,fun A outer s H args us vs Q E hr e0 hb r hsp=>?_⟩
 have hl:=len _ _ _ _ hsp
 have KX:K.In s.heap:=e0.mod.kin.keeps fun b o e=>(e0.bs b o e).1
 have lim:s.heap.NoLimit:=e0.mod.nolimit.keeps fun b o e=>(e0.bs b o e).1
 have hkind:∀y∈ps.zip us,scope.names.lookup y.1=some .local∨(scope.names.lookup y.1=some .cell/\((cellsFrom (s.heap.objs.size+1) scope.names []).lookup y.1).isSome=true):=fun ⟨n,v⟩ hy=>by
  rcases S.par n (List.of_mem_zip hy).1 with q | q
  ·exact .inl q
  ·exact .inr ⟨q,PySem.W.cellsFrom_some _ _ _ (.inl q)⟩
 refine codeAny_call_function hr.depth (KX _ _ lk) rfl S.co S.gen rfl (PySem.W.codeRec_of KX hcd) (hb _ _ _ _ ?_)
 refine wpAny_newFunctionEnv_cells S.kind hkind fun env he s1 x=>?_
 subst he
 refine⟨lim.keeps x.toInCall.keep,codeAny_func ?_⟩
 obtain⟨t,ht,hq⟩:=hbody A outer s H vs Q E (hr.deeper _) hsp
 have I:Inv (aaS CX P w K mg base N qual scope f cdv A outer s H E) [] (start N vs) H s1:=ajB S hr.hd e0 hl r x
 refine wpAny_mono (ht [] s1 (start N vs) H _ I hq) (fun fl s' hs=>?_) fun e s' hs=>hs
 have fin:∀{σ':St} {H':Hp} {v:V} {u:Value},Inv (aaS CX P w K mg base N qual scope f cdv A outer s H E) [] σ' H' s'->RelV v u->Q v H'->CE outer P w H s Q u s':=
  fun {σ' H' v u} J rv q=>⟨v,H',J.os,J.bare,J.base,J.hok,rv,q⟩
 cases fl with
 |ret u=>
  obtain⟨v,σ',H',J,rv,q⟩:=hs
  exact fin J rv q
 |next=>
  obtain⟨σ',H',J,q⟩:=hs
  exact fin (v:=V.non) (u:=Value.none) J rfl q
 |brk=>
  obtain⟨_,_,_,q⟩:=hs
  exact False.elim q
 |cont=>
  obtain⟨_,_,_,q⟩:=hs
  exact False.elim q
section
variable{X:Cx}{x:Str}{p pos:Pos}{e:Expr}{es:List Expr}{t:TA}{id T:String}{r:List V->Hp->VK->Prop}
def tCB(r:List V->Hp->VK->Prop)(t:TA):TE:=fun σ H Q=>t σ H fun vs H1=>r vs H1 Q
theorem aq6(hc:ad9 X (.builtin id) r)(hg:Gl X x)(hm:X.mg x=none)(hv:bootBuiltins x=some (.builtin id))(ha:PA X (e::es) t)(hn:x≠"__name__":=by decide)(hdb:(x==("__debug__":Str))=false:=by decide)
  (he:starEach (e::es) X.env=(false,eval e X.env)::starEach es X.env:=by rfl) (hpl:(backTo pos (starEach es X.env)).any (·.1)=false:=by rfl):PE X (.Call (.Name x p) (e::es) [] pos) (tCB r t):=by
 intro pins s σ H Q I h
 refine wpAny_Call_Name_kw (ah1 I hg hm hv ?_ hn hdb)
 exact PyProof.Rows.callWith_builtin1 (thn (ha pos pins s σ H _ I h) fun us s1 ⟨vs,H1,I1,r1,q1⟩=>hc pins s1 σ H1 vs us Q I1 r1 q1) he hpl
theorem aoQ(hc:ad9 X (.type T) r)(hg:Gl X x)(hm:X.mg x=none)(hv:bootBuiltins x=some (.type T))(ha:PA X (e::es) t)(hn:x≠"__name__":=by decide)(hdb:(x==("__debug__":Str))=false:=by decide)
  (he:starEach (e::es) X.env=(false,eval e X.env)::starEach es X.env:=by rfl) (hpl:(backTo pos (starEach es X.env)).any (·.1)=false:=by rfl):PE X (.Call (.Name x p) (e::es) [] pos) (tCB r t):=by
 intro pins s σ H Q I h
 refine wpAny_Call_Name_kw (ah1 I hg hm hv ?_ hn hdb)
 exact PyProof.Rows.callWith_type1 (thn (ha pos pins s σ H _ I h) fun us s1 ⟨vs,H1,I1,r1,q1⟩=>hc pins s1 σ H1 vs us Q I1 r1 q1) he hpl
end
end L2
namespace HT
open PySem PyProof.Rows
section
open PySem.SeqAt
open PySem.AutoSeq1 (wpAny_loadPart')
open PySem.MeetsSeq PySem.MeetsSeq2 PySem.MeetsSeq3
end
section
variable{prog:Program}{w:World}{A:Around}{E:Value->Shared->Prop}{s:Shared}
def sIx(n d:Nat):Option Int->Nat
 |none=>d
 |some v=>if v<0 then (v+(n:Int)).toNat else min v.toNat n
theorem sIx_le(n d:Nat)(hd:d<=n)(o:Option Int):sIx n d o<=n:=by
 cases o with
 |none=>exact hd
 |some v=>
  show (if v<0 then (v+(n:Int)).toNat else min v.toNat n)<=n
  by_cases hv:v<0
  ·rw[if_pos hv];omega
  ·rw[if_neg hv];exact Nat.min_le_right _ _
end
end HT
namespace L2
open PySem PySem.Spec PyProof.Rows
abbrev TO:=St->Hp->(Option Int->Hp->Prop)->Prop
def PO(X:Cx)(e:Option Expr)(t:TO):Prop:=
 ∀(pins:List (Addr×Obj)) (s:Shared) (σ:St) (H:Hp) (Q:Option Int->Hp->Prop),Inv X pins σ H s->t σ H Q->
  wpAny (model X.prog X.w) X.A (evalPart e X.env) (fun u s'=>∃o H',Inv X pins σ H' s'/\IsPart u o/\Q o H') X.xe s
def an0:TO:=fun _ H Q=>Q none H
def axM(t:TE):TO:=fun σ H Q=>t σ H fun x H1=>∃i,x=.int i/\Q (some i) H1
section
variable{X:Cx}{e:Expr}{te:TE}{lo hi:Option Expr}{tl th:TO}{pos p2:Pos}
theorem asL:PO X none an0:=by
 intro pins s σ H Q I h
 rw[evalPart_none]
 exact wpAny_pure ⟨none,H,I,.none,h⟩
theorem asR(h:PE X e te):PO X (some e) (axM te):=by
 intro pins s σ H Q I hw
 rw[evalPart_some]
 refine thn (h pins s σ H _ I hw) fun u s1 ⟨x,H1,I1,r1,q1⟩=>?_
 obtain⟨i,rfl,q⟩:=q1
 obtain⟨t,rfl⟩:=r1
 exact⟨some i,H1,I1,.int i t,q⟩
def SlR(X:Cx)(r:V->Option Int->Option Int->Hp->VK->Prop):Prop:=
 ∀(pins:List (Addr×Obj)) (s:Shared) (σ:St) (H:Hp) (x:V) (v vl vu:Value) (lo hi:Option Int) (sl:Addr) (Q:VK),Inv X pins σ H s->RelV x v->s.heap.IsSliceOf sl vl vu .none->IsPart vl lo->IsPart vu hi->r x lo hi H Q->
  ∃T id,typeLookup (.type T) "__getitem__"=pure (some (.builtin id))/\s.TypeIs v T/\wpAny (model X.prog X.w) X.A (getItem v (.ref sl)) (EP X pins σ Q) X.xe s
def tSl(r:V->Option Int->Option Int->Hp->VK->Prop)(te:TE)(tl th:TO):TE:=fun σ H Q=>te σ H fun x H1=>tl σ H1 fun l H2=>th σ H2 fun u H3=>r x l u H3 Q
theorem apX{r:V->Option Int->Option Int->Hp->VK->Prop}(hr:SlR X r)(he:PE X e te)(hl:PO X lo tl)(hu:PO X hi th):PE X (.Subscript e (.Slice lo hi none p2) pos) (tSl r te tl th):=by
 intro pins s σ H Q I h
 refine Subscript_ (thn (he pins s σ H _ I h) fun v s1 ⟨x,H1,I1,r1,q1⟩=>?_)
 refine wpAny_Slice (thn (hl pins s1 σ H1 _ I1 q1) fun vl s2 ⟨l,H2,I2,pl,q2⟩=>thn (hu pins s2 σ H2 _ I2 q2) fun vu s3 ⟨u,H3,I3,pu,q3⟩=>?_)
 rw[evalPart_none]
 refine wpAny_pure ?_
 have I4:Inv X pins σ H3 {s3 with heap:=s3.heap.push {cls:=.type "slice",data:=.fields #[vl,vu,.none]} }:=I3.kept (t':=s3.toks) fun b ob q=>Heap.get?_push_of_some _ q
 obtain⟨T,id,hT,ht,hg⟩:=hr pins {s3 with heap:=s3.heap.push {cls:=.type "slice",data:=.fields #[vl,vu,.none]} } σ H3 x v vl vu l u s3.heap.objs.size Q I4 r1 (Heap.IsSliceOf.new ..) pl pu q3
 show wpAny (model X.prog X.w) X.A (subscriptTail e (.Slice lo hi none p2) v (.ref s3.heap.objs.size)) (EP X pins σ Q) X.xe {s3 with heap:=s3.heap.push {cls:=.type "slice",data:=.fields #[vl,vu,.none]} }
 exact tail_any (ops:=[.ref s3.heap.objs.size,v]) ht hT hg (by with_unfolding_all rfl)
def aiQ(xs:List V)(lo hi:Option Int):List V:=(xs.drop (HT.sIx xs.length 0 lo)).take (HT.sIx xs.length xs.length hi-HT.sIx xs.length 0 lo)
theorem amG(xs:List V)(lo hi:Option Int):(aiQ xs lo hi).length<=xs.length:=by
 unfold aiQ
 rw[List.length_take,List.length_drop]
 omega
end
def ixN(n:Nat)(i:Int):Option Nat:=if 0<=i then (if i<n then some i.toNat else none) else if -(n:Int)<=i then some (i+n).toNat else none
def atI{α:Type}(xs:List α)(i:Int):Option α:=(ixN xs.length i).bind fun j=>xs[j]?
theorem anZ{n:Nat}{i:Int}{j:Nat}(h:ixN n i=some j):seqIndex? i n=some j/\j<n/\ -(n:Int)<=i/\i<n:=by
 unfold ixN at h
 by_cases h0:0<=i
 ·rw[if_pos h0] at h
  by_cases h1:i<n
  ·rw[if_pos h1] at h
   have e:i.toNat=j:=Option.some.inj h
   exact⟨by rw[seqIndex_of h0 h1,e],by omega,by omega,h1⟩
  ·rw[if_neg h1] at h;cases h
 ·rw[if_neg h0] at h
  by_cases h1: -(n:Int)<=i
  ·rw[if_pos h1] at h
   have e:(i+n).toNat=j:=Option.some.inj h
   exact⟨by rw[seqIndex_neg (by omega) h1,e],by omega,h1,by omega⟩
  ·rw[if_neg h1] at h;cases h
theorem ajR{α:Type}{xs:List α}{i:Int}{v:α}(h:atI xs i=some v):∃j,seqIndex? i xs.length=some j/\xs[j]? =some v/\j<xs.length/\ -(xs.length:Int)<=i/\i<xs.length:=by
 unfold atI at h
 cases e:ixN xs.length i with
 |none=>rw[e] at h;cases h
 |some j=>
  rw[e] at h
  obtain⟨h1,h2,h3,h4⟩:=anZ e
  exact⟨j,h1,h,h2,h3,h4⟩
theorem akJ{α:Type}{xs:List α}{j:Nat}{v:α}(h:xs[j]? =some v):atI xs (j:Int)=some v:=by
 have hj:j<xs.length:=(List.getElem?_eq_some_iff.mp h).1
 have e:ixN xs.length (j:Int)=some j:=by
  unfold ixN
  rw[if_pos (by omega),if_pos (by omega)];simp
 unfold atI;rw[e];exact h
def aoD(b:Expr):Prop:=∀o i,subscripted b false o i=operate [o,i] (getItem o i)
def IxR(X:Cx)(r:R2):Prop:=
 ∀(value slice:Expr) (pins:List (Addr×Obj)) (s:Shared) (σ:St) (H:Hp) (x y:V) (v u:Value) (Q:VK),Inv X pins σ H s->RelV x v->RelV y u->r x y H Q->
  subscripted slice false v u=operate [v,u] (getItem v u)->wpAny (model X.prog X.w) X.A (subscriptTail value slice v u) (EP X pins σ Q) X.xe s
def MtR(X:Cx)(id:String)(r:V->List V->Hp->VK->Prop):Prop:=
 ∀(pins:List (Addr×Obj)) (s:Shared) (σ:St) (H:Hp) (x:V) (xs:List V) (v:Value) (us:List Value) (Q:VK),Inv X pins σ H s->RelV x v->Vals xs us->r x xs H Q->
  wpAny (model X.prog X.w) X.A (call (.builtin id) (v::us)) (EP X pins σ Q) X.xe s
section
variable{X:Cx}{a b:Expr}{ta tb:TE}{pos:Pos}
theorem aFY{r:R2}(hr:IxR X r)(ha:PE X a ta)(hb:PE X b tb)(hs:aoD b):PE X (.Subscript a b pos) (tOp r ta tb):=by
 intro pins s σ H Q I h
 exact Subscript_ (aD1 ha hb I h fun v u s2 x y H2 I2 rx ry q=>hr a b pins s2 σ H2 x y v u Q I2 rx ry q (hs _ _))
def aEX(K:PySem.W.Frag):R2:=fun x y H Q=>∃p xs i v,x=.ref p/\y=.int i/\SqL K H p xs/\atI xs i=some v/\Q v H
def aCD(K:PySem.W.Frag):R2:=fun x y H Q=>∃p xs i v,x=.ref p/\y=.int i/\SqT K H p xs/\atI xs i=some v/\Q v H
def rIxS:R2:=fun x y H Q=>∃z i c,x=.str z/\y=.int i/\z.length<=sizeLine/\atI z.cps.toList i=some c/\Q (.str ⟨#[c]⟩) H
theorem auC:IxR X (aEX X.K):=by
 intro value slice pins s σ H x y v u Q I rx ry h hs
 obtain⟨p,xs,i,z,rfl,rfl,hq,he,q⟩:=h
 cases rx
 obtain⟨t,rfl⟩:=ry
 obtain⟨its,r,pl,hz⟩:=I.list hq
 obtain⟨j,h1,h2,h3,h4,h5⟩:=ajR he
 obtain⟨w,ew,rw'⟩:=r.get h2
 have hl:=r.length
 have hn:=afF
 have fin:EP X pins σ Q w s:=⟨z,H,I,rw',q⟩
 by_cases h0:0<=i
 ·have hj:i.toNat=j:=by
   rw[seqIndex_of h0 h5] at h1
   exact Option.some.inj h1
  exact item_listR pl.isList h0 (by omega) (by rw[hj];simpa using ew) fin hs
 ·have hj:(i+(its.toArray.size:Int)).toNat=j:=by
   rw[seqIndex_neg (by omega) h4] at h1
   rw[List.size_toArray,←hl]
   exact Option.some.inj h1
  exact subscriptTail_builtinR (x:=w) pl.isList.typeIs slot_list_getitem.lookup
   (wpAny_getItem_list_neg (Q:=fun r s'=>r=w/\EP X pins σ Q r s') pl.isList (by omega) (by rw[List.size_toArray]<;>omega) (by omega) (by rw[hj];simpa using ew) ⟨rfl,fin⟩) hs
theorem aB3:IxR X (aCD X.K):=by
 intro value slice pins s σ H x y v u Q I rx ry h hs
 obtain⟨p,xs,i,z,rfl,rfl,hq,he,q⟩:=h
 cases rx
 obtain⟨t,rfl⟩:=ry
 obtain⟨its,r,pl,hz⟩:=I.tuple hq
 obtain⟨j,h1,h2,h3,h4,h5⟩:=ajR he
 obtain⟨w,ew,rw'⟩:=r.get h2
 have hl:=r.length
 have hn:=afF
 have fin:EP X pins σ Q w s:=⟨z,H,I,rw',q⟩
 exact subscriptTail_builtinR (x:=w) pl.typeIs slot_tuple_getitem.lookup
  (getItem_tuple (j:=j) (Q:=fun r s'=>r=w/\EP X pins σ Q r s') pl (by omega) (by omega) (by rw[List.size_toArray,←hl];exact h1) (by simpa using ew) ⟨rfl,fin⟩) hs
theorem azV:IxR X rIxS:=by
 intro value slice pins s σ H x y v u Q I rx ry h hs
 obtain⟨z,i,c,rfl,rfl,hz,he,q⟩:=h
 obtain⟨t,rfl⟩:=rx
 obtain⟨t',rfl⟩:=ry
 obtain⟨j,h1,h2,h3,h4,h5⟩:=ajR he
 have hl:z.cps.toList.length=z.length:=by simp[Str.length]
 rw[hl] at h1 h4 h5
 have hn:=afF
 exact tail_any (typeIs_str s z t) slot_str_getitem.lookup (getItem_str (c:=c) (by
  have e1:decide (i< -(2^63:Int))=false:=decide_eq_false (by omega)
  have e2:decide (i ≥ 2^63)=false:=decide_eq_false (by omega)
  rw[e1,e2,Bool.or_false]) (by rw[h1];simpa using h2) ⟨.str ⟨#[c]⟩,H,I.tok _,⟨_,rfl⟩,q⟩) hs
theorem amL(its:List Value)(n j:Nat)(u:Value):Obj.mapSeq (·.setIfInBounds j u) {cls:=.type "list",data:=.seq its.toArray n}={cls:=.type "list",data:=.seq (its.set j u).toArray n}:=by
 simp[Obj.mapSeq]
theorem Inv.lst{pins:List (Addr×Obj)}{σ:St}{H:Hp}{s:Shared}{p:Addr}{xs:List V}(I:Inv X pins σ H s)(h:H p=some (.lst xs)):
  ∃(its:List Value) (n:Nat),Vals xs its/\s.heap.get? p=some {cls:=.type "list",data:=.seq its.toArray n}/\xs.length<=sizeLine:=by
 obtain⟨z,its,n,r,e⟩:=I.hok p _ h
 exact⟨its,n,r,e,z⟩
theorem Inv.lstUpd{pins:List (Addr×Obj)}{σ:St}{H:Hp}{s:Shared}{p:Addr}{xs ys:List V}{its its':List Value}{n n':Nat}{f:Obj->Obj}(I:Inv X pins σ H s)(h:H p=some (.lst xs))
  (ho:s.heap.get? p=some {cls:=.type "list",data:=.seq its.toArray n}) (hf:f {cls:=.type "list",data:=.seq its.toArray n}={cls:=.type "list",data:=.seq its'.toArray n'}) (r:Vals ys its') (hz:ys.length<=sizeLine) (t:Nat):
  Inv X pins σ (upd H p (.lst ys)) {s with heap:=s.heap.update p f,toks:=t}:=by
 have e:(s.heap.update p f).get? p=some {cls:=.type "list",data:=.seq its'.toArray n'}:=by
  rw[Heap.get?_update_self f ho (by rw[hf]<;>rfl),hf]
 refine I.write (x:=p) (e:=p) (by rw[h];trivial) (.inl rfl) (fun b u hb q=>(Heap.get?_update_other _ _ (Ne.symm hb)).trans q) ⟨_,e⟩ ?_
 exact⟨hz,its',n',r,e⟩
def ax3:V->V->V->Hp->(Hp->Prop)->Prop:=fun o i v H Q=>∃p xs k j,o=.ref p/\i=.int k/\H p=some (.lst xs)/\ixN xs.length k=some j/\Q (upd H p (.lst (xs.set j v)))
theorem aq2:aHZ X ax3:=by
 intro pins s σ H o i v ov iv u Q I ro ri rv h
 obtain⟨p,xs,k,j,rfl,rfl,hp,hj,q⟩:=h
 cases ro
 obtain⟨t,rfl⟩:=ri
 obtain⟨its,n,r,ho,hz⟩:=I.lst hp
 obtain⟨h1,h2,h3,h4⟩:=anZ hj
 have hl:=r.length
 have hn:=afF
 have I':Inv X pins σ (upd H p (.lst (xs.set j v))) {s with heap:=s.heap.update p (Obj.mapSeq (·.setIfInBounds j u))}:=
  I.lstUpd hp ho (amL its n j u) (r.set rv j) (by rw[List.length_set];exact hz) s.toks
 by_cases h0:0<=k
 ·have hk:k.toNat=j:=by
   rw[seqIndex_of h0 h4] at h1
   exact Option.some.inj h1
  exact PySem.W.ki_setAt ho h0 (by omega) (by rw[List.size_toArray,←hl];exact h4) (by rw[hk];exact⟨_,I',q⟩)
 ·have hk:(k+(its.toArray.size:Int)).toNat=j:=by
   rw[seqIndex_neg (by omega) h3] at h1
   rw[List.size_toArray,←hl]
   exact Option.some.inj h1
  exact PySem.W.ki_setBack ho (by omega) (by rw[List.size_toArray,←hl];exact h3) (by omega) (by rw[hk];exact⟨_,I',q⟩)
theorem akK(lo hi:Option Int)(n:Nat):(sliceBounds lo hi none n).1=((HT.sIx n 0 lo:Nat):Int)/\(sliceBounds lo hi none n).2.1=((HT.sIx n n hi:Nat):Int)/\(sliceBounds lo hi none n).2.2=1:=by
 refine⟨?_,?_,rfl⟩
 ·cases lo with
  |none=>simp[sliceBounds,HT.sIx]
  |some i=>
   simp only[sliceBounds,HT.sIx,Option.getD_none,show (1:Int)>0 by decide,if_true]
   by_cases h:i<0
   ·simp only[h,if_true]<;>omega
   ·simp only[h,if_false]<;>omega
 ·cases hi with
  |none=>simp[sliceBounds,HT.sIx]
  |some i=>
   simp only[sliceBounds,HT.sIx,Option.getD_none,show (1:Int)>0 by decide,if_true]
   by_cases h:i<0
   ·simp only[h,if_true]<;>omega
   ·simp only[h,if_false]<;>omega
theorem aiE(its:List Value)(lo hi:Option Int):slicePick its.toArray lo hi none=((its.drop (HT.sIx its.length 0 lo)).take (HT.sIx its.length its.length hi-HT.sIx its.length 0 lo)).toArray:=by
 obtain⟨h1,h2,h3⟩:=akK lo hi its.toArray.size
 unfold slicePick
 rw[h1,h2,h3]
 simp only[sliceRange_one,pick_run,List.size_toArray]<;>rfl
def aEC(K:PySem.W.Frag):V->Option Int->Option Int->Hp->VK->Prop:=fun x lo hi H Q=>∃a xs,x=.ref a/\SqL K H a xs/\∀p,H p=none->Q (.ref p) (upd H p (.lst (aiQ xs lo hi)))
theorem av5:SlR X (aEC X.K):=by
 intro pins s σ H x v vl vu lo hi sl Q I rx hs pl pu h
 obtain⟨a,xs,rfl,hx,q⟩:=h
 cases rx
 obtain⟨its,r,ht,hz⟩:=I.list hx
 have hlen:=r.length
 refine⟨"list",_,slot_list_getitem.lookup,ht.isList.typeIs,?_⟩
 refine wpAny_getItem_list_slice ht.isList hs pl pu .none (by simp) ?_ (by rw[List.size_toArray]<;>omega)
 rw[aiE,←hlen]
 refine⟨.ref s.heap.objs.size,_,I.laid (t':=s.toks) (o:=.lst (aiQ xs lo hi)) (fun b ob q=>Heap.get?_push_of_some _ q) (Nat.le_refl _) ?_,rfl,q _ (I.hok.fresh (Nat.le_refl _))⟩
 exact⟨Nat.le_trans (amG xs lo hi) hz,_,0,(r.drop (HT.sIx xs.length 0 lo)).take (HT.sIx xs.length xs.length hi-HT.sIx xs.length 0 lo),Heap.get?_push_size _ rfl⟩
def aeB:V->Bool
 |.non=>true
 |.bl _=>true
 |.int _=>true
 |.str _=>true
 |_=>false
def eqV:V->V->Bool
 |.non,.non=>true
 |.bl a,.bl b=>a==b
 |.bl a,.int b=>(if a then 1 else 0)==b
 |.int a,.bl b=>a==(if b then 1 else 0)
 |.int a,.int b=>a==b
 |.str a,.str b=>a==b
 |_,_=>false
theorem aBU{A:Around}{s:Shared}{y x:V}{u v:Value}(ry:RelV y u)(rx:RelV x v)(fy:aeB y=true)(fx:aeB x=true):SeqAt.EqAt A s u v (eqV y x):=by
 cases y with
 |non=>
  cases ry
  cases x with
  |non=>cases rx;exact SeqAt.EqAt.same _
  |bl b=>cases rx;exact SeqAt.EqAt.none_bool b
  |int b=>obtain⟨t,rfl⟩:=rx;exact SeqAt.EqAt.none_int b t
  |str b=>obtain⟨t,rfl⟩:=rx;exact SeqAt.EqAt.none_str b t
  |_=>exact absurd (show false=true from fx) Bool.false_ne_true
 |bl a=>
  cases ry
  cases x with
  |non=>cases rx;exact SeqAt.EqAt.bool_none a
  |bl b=>cases rx;exact SeqAt.EqAt.bool_bool a b
  |int b=>obtain⟨t,rfl⟩:=rx;exact SeqAt.EqAt.bool_int a b t
  |str b=>obtain⟨t,rfl⟩:=rx;exact SeqAt.EqAt.bool_str a b t
  |_=>exact absurd (show false=true from fx) Bool.false_ne_true
 |int a=>
  obtain⟨t',rfl⟩:=ry
  cases x with
  |non=>cases rx;exact SeqAt.EqAt.int_none a t'
  |bl b=>cases rx;exact SeqAt.EqAt.int_bool a t' b
  |int b=>obtain⟨t,rfl⟩:=rx;exact SeqAt.EqAt.int_int a t' b t
  |str b=>obtain⟨t,rfl⟩:=rx;exact SeqAt.EqAt.int_str a t' b t
  |_=>exact absurd (show false=true from fx) Bool.false_ne_true
 |str a=>
  obtain⟨t',rfl⟩:=ry
  cases x with
  |non=>cases rx;exact SeqAt.EqAt.str_none a t'
  |bl b=>cases rx;exact SeqAt.EqAt.str_bool a t' b
  |int b=>obtain⟨t,rfl⟩:=rx;exact SeqAt.EqAt.str_int a t' b t
  |str b=>obtain⟨t,rfl⟩:=rx;exact SeqAt.EqAt.str_str a t' b t
  |_=>exact absurd (show false=true from fx) Bool.false_ne_true
 |_=>exact absurd (show false=true from fy) Bool.false_ne_true
def eqU(x:V)(u:Value):Bool:=match u with
 |.none=>eqV .non x
 |.bool b=>eqV (.bl b) x
 |.int i _=>eqV (.int i) x
 |.str z _=>eqV (.str z) x
 |_=>false
theorem aqR{x y:V}{u:Value}(r:RelV y u)(f:aeB y=true):eqU x u=eqV y x:=by
 cases y with
 |non=>cases r;rfl
 |bl b=>cases r;rfl
 |int i=>obtain⟨t,rfl⟩:=r;rfl
 |str z=>obtain⟨t,rfl⟩:=r;rfl
 |_=>exact absurd (show false=true from f) Bool.false_ne_true
theorem akN{x:V}:∀{xs:List V} {us:List Value},Vals xs us->xs.all aeB=true->us.any (eqU x)=xs.any fun y=>eqV y x
 |_,_,.nil,_=>rfl
 |y::xs,u::us,.cons r t,f=>by
  rw[List.all_cons,Bool.and_eq_true] at f
  rw[List.any_cons,List.any_cons,aqR r f.1,akN t f.2]
theorem ahH{A:Around}{s:Shared}{x:V}{v:Value}(rx:RelV x v)(fx:aeB x=true):∀{xs:List V} {us:List Value},Vals xs us->xs.all aeB=true->∀u∈us,SeqAt.EqAt A s u v (eqU x u)
 |_,_,.nil,_=>fun u hu=>by cases hu
 |y::xs,u::us,.cons r t,f=>fun u' hu=>by
  rw[List.all_cons,Bool.and_eq_true] at f
  rcases List.mem_cons.mp hu with rfl | hu
  ·rw[aqR r f.1];exact aBU r rx f.1 fx
  ·exact ahH rx fx t f.2 u' hu
def inV(x:V)(xs:List V):Bool:=xs.any fun y=>eqV y x
def rIn(K:PySem.W.Frag)(neg:Bool):R2:=fun x y H Q=>∃p xs,y=.ref p/\(SqL K H p xs∨SqT K H p xs)/\aeB x=true/\xs.all aeB=true/\Q (.bl (if neg then !inV x xs else inV x xs)) H
theorem ao5:OpR X (compareOp .In) (rIn X.K false):=by
 intro pins s σ H x y v u Q I rx ry h
 obtain⟨p,xs,rfl,hq,fx,fs,q⟩:=h
 cases ry
 rcases hq with hq | hq
 ·obtain⟨its,r,pl,hz⟩:=I.list hq
  refine SeqAt.in_listAt (eqU x) pl.isList (fun w hw=>ahH rx fx r fs w (by simpa using hw)) ⟨.bl _,H,I,rfl,?_⟩
  rw[show its.toArray.any (eqU x)=its.any (eqU x) by simp,akN r fs]
  exact q
 ·obtain⟨its,r,pl,hz⟩:=I.tuple hq
  refine SeqAt.in_tupleAt (eqU x) pl (fun w hw=>ahH rx fx r fs w (by simpa using hw)) ⟨.bl _,H,I,rfl,?_⟩
  rw[show its.toArray.any (eqU x)=its.any (eqU x) by simp,akN r fs]
  exact q
theorem akA:ad9 X (.builtin "len") (fun xs H Q=>∃p ys,xs=[.ref p]/\(SqL X.K H p ys∨SqT X.K H p ys)/\Q (.int ys.length) H):=by
 intro pins s σ H xs us Q I r h
 obtain⟨p,ys,rfl,hq,q⟩:=h
 obtain⟨u,rfl,rx⟩:=abL r
 cases rx
 have hn:=afF
 rcases hq with hq | hq
 ·obtain⟨its,r',pl,hz⟩:=I.list hq
  have hlen:=r'.length
  exact Calls.call_len_list pl.isList (by simp only[List.size_toArray]<;>omega) ⟨.int ys.length,H,I.tok _,⟨s.toks+1,by rw[List.size_toArray,hlen]⟩,q⟩
 ·obtain⟨its,r',pl,hz⟩:=I.tuple hq
  have hlen:=r'.length
  exact len_tuple pl (by simp only[List.size_toArray]<;>omega) ⟨.int ys.length,H,I.tok _,⟨s.toks+1,by rw[List.size_toArray,hlen]⟩,q⟩
theorem aj9:ad9 X (.builtin "len") (fun xs H Q=>∃z,xs=[.str z]/\z.length<=sizeLine/\Q (.int z.length) H):=by
 intro pins s σ H xs us Q I r h
 obtain⟨z,rfl,hz,q⟩:=h
 obtain⟨u,rfl,t,rfl⟩:=abL r
 have hn:=afF
 exact len_str (by omega) ⟨.int z.length,H,I.tok _,⟨_,rfl⟩,q⟩
def tyV(K:PySem.W.Frag)(T:String)(x:V)(H:Hp):Prop:=match x with
 |.str _=>T="str"
 |.int _=>T="int"
 |.ref p=>(T="list"/\∃xs,SqL K H p xs)∨(T="tuple"/\∃o,K.lookup p=some o/\o.cls=.type "tuple"/\o.dict=none)∨
   (T="dict"/\((∃kvs,H p=some (.dK kvs))∨∃kvs,H p=some (.dT kvs)))∨(T="set"/\∃S n,H p=some (.set S n))
 |_=>False
theorem arR{pins:List (Addr×Obj)}{σ:St}{H:Hp}{s:Shared}{T:String}{x:V}{v:Value}(I:Inv X pins σ H s)(r:RelV x v)(ty:tyV X.K T x H):
  s.TypeIs v T/\∀a,v=.ref a->∃ob,s.heap.get? a=some ob/\ob.dict=none:=by
 cases x with
 |str z=>
  obtain⟨t,rfl⟩:=r
  cases (show T="str" from ty)
  exact⟨typeIs_str s z t,fun _ e=>nomatch e⟩
 |int i=>
  obtain⟨t,rfl⟩:=r
  cases (show T="int" from ty)
  exact⟨typeIs_int s i t,fun _ e=>nomatch e⟩
 |ref p=>
  cases r
  rcases ty with ⟨rfl,xs,hq⟩ | ⟨rfl,o,hk,hc,hd⟩ | ⟨rfl,hk⟩ | ⟨rfl,S,n,hk⟩
  ·obtain⟨its,_,pl,_⟩:=I.list hq
   refine⟨pl.isList.typeIs,fun a e=>?_⟩
   cases e
   obtain⟨o,n,e,c,hd,_⟩:=pl
   exact⟨o,e,hd⟩
  ·refine⟨⟨o,I.kIn p o hk,hc⟩,fun a e=>?_⟩
   cases e
   exact⟨o,I.kIn _ o hk,hd⟩
  ·have z:∃o,s.heap.get? p=some o/\o.ExactDict:=by
    rcases hk with ⟨kvs,hk⟩ | ⟨kvs,hk⟩
    ·obtain⟨_,_,_,_,o,_,_,e,ex,_⟩:=I.hok p _ hk
     exact⟨o,e,ex⟩
    ·obtain⟨_,_,_,_,o,_,_,e,ex,_⟩:=I.hok p _ hk
     exact⟨o,e,ex⟩
   obtain⟨o,e,ex⟩:=z
   refine⟨⟨o,e,ex.1⟩,fun a e2=>?_⟩
   cases e2
   exact⟨o,e,ex.2.1⟩
  ·obtain⟨o,_,_,_,e,ex,_⟩:=I.hok p _ hk
   refine⟨⟨o,e,ex.1⟩,fun a e2=>?_⟩
   cases e2
   exact⟨o,e,ex.2.1⟩
 |_=>exact False.elim ty
def aH0(K:PySem.W.Frag)(T:String)(r:V->List V->Hp->VK->Prop)(to:TE):TE:=fun σ H Q=>to σ H fun x H1=>tyV K T x H1/\r x [] H1 Q
def tBM(K:PySem.W.Frag)(T:String)(r:V->List V->Hp->VK->Prop)(to:TE)(t:TA):TE:=fun σ H Q=>to σ H fun x H1=>tyV K T x H1/\t σ H1 fun xs H2=>r x xs H2 Q
variable{o e:Expr}{es:List Expr}{to:TE}{t:TA}{name:Str}{apos cpos:Pos}{T id:String}{r:V->List V->Hp->VK->Prop}
theorem aB6(pa:PlainAttrs T)(slot:Slot T name id)(hty:typeOf (.builtin id)=pure (.type "method_descriptor"))(hm:MtR X id r)(ho:PE X o to)
  (hbase:attributeBase o name X.env (eval o X.env)=eval o X.env:=by rfl) (hline:(apos.endLine==cpos.line)=true:=by rfl):PE X (.Call (.Attribute o name apos) [] [] cpos) (aH0 X.K T r to):=by
 intro pins s σ H Q I h
 refine wpAny_Call_method0_late hbase hline (thn (ho pins s σ H _ I h) fun v s1 ⟨x,H1,I1,r1,ty,q1⟩=>?_)
 obtain⟨h1,h2⟩:=arR I1 r1 ty
 exact⟨T,id,pa,slot,hty,h1,h2,Calls.callWith_builtin rfl (PySem.evalArgs_none (hm pins s1 σ H1 x [] v [] Q I1 r1 .nil q1))⟩
theorem al5(pa:PlainAttrs T)(slot:Slot T name id)(hty:typeOf (.builtin id)=pure (.type "method_descriptor"))(hm:MtR X id r)(ho:PE X o to)(ha:PA X (e::es) t)
  (hbase:attributeBase o name X.env (eval o X.env)=eval o X.env:=by rfl)
  (hfew:((backTo cpos (starEach (e::es) X.env)).all (fun x=> !x.1)&&(backToKw cpos (keywordEach [] X.env)).all (fun x=>x.1.isSome)
   &&decide ((e::es).length+([]:List Keyword).length+(if ([]:List Keyword).isEmpty then 0 else 1)<30))=true:=by rfl)
  (hline:(apos.endLine==cpos.line)=true:=by rfl) (hs:starEach (e::es) X.env=(false,eval e X.env)::starEach es X.env:=by rfl) (hplain:(backTo cpos (starEach es X.env)).any (·.1)=false:=by rfl):
  PE X (.Call (.Attribute o name apos) (e::es) [] cpos) (tBM X.K T r to t):=by
 intro pins s σ H Q I h
 refine wpAny_Call_method_late hbase hfew hline rfl (thn (ho pins s σ H _ I h) fun v s1 ⟨x,H1,I1,r1,ty,q1⟩=>?_)
 obtain⟨h1,h2⟩:=arR I1 r1 ty
 refine⟨T,id,pa,slot,hty,h1,h2,?_⟩
 have hA:=ha cpos pins s1 σ H1 _ I1 q1
 rw[hs] at hA ⊢
 refine Calls.callWith_builtin (by show (false||(backTo cpos (starEach es X.env)).any (·.1))=false;rw[hplain]<;>rfl) (Calls.evalArgs_plain ?_)
 exact thn hA fun us s2 ⟨vs,H2,I2,r2,q2⟩=>hm pins s2 σ H2 x vs v us Q I2 r1 r2 q2
/- xs.append(e),list.index on a module's tuple .. are MtR facts of 06m -/
end
def MtM(X:Cx)(id:String)(r:V->List V->Hp->VK->Prop):Prop:=
 ∀(pins:List (Addr×Obj)) (s:Shared) (σ:St) (H:Hp) (x:V) (xs:List V) (v:Value) (us:List Value) (Q:VK),Inv X pins σ H s->RelV x v->Vals xs us->r x xs H Q->
  wpAny (model X.prog X.w) X.A (call (.builtin id) (v::us)) (EP X pins σ Q) X.xe s
theorem Vals.one:∀{x:V} {us:List Value},Vals [x] us->∃u,us=[u]/\RelV x u
 |_,_,.cons r .nil=>⟨_,rfl,r⟩
theorem Vals.two:∀{x y:V} {us:List Value},Vals [x,y] us->∃u v,us=[u,v]/\RelV x u/\RelV y v
 |_,_,_,.cons r (.cons q .nil)=>⟨_,_,rfl,r,q⟩
theorem Vals.rep{xs:List V}{us:List Value}(h:Vals xs us):∀k:Nat,Vals (List.replicate k xs).flatten (List.replicate k us).flatten
 |0=>.nil
 |k+1=>by
  rw[List.replicate_succ,List.replicate_succ,List.flatten_cons,List.flatten_cons]
  exact Vals.append h (Vals.rep h k)
theorem ai8(its:List Value):∀(k:Nat) (acc:List Value),
  List.foldl (fun x1 x2=>x1++x2) acc.toArray (List.replicate k its.toArray)=(acc++(List.replicate k its).flatten).toArray
 |0,acc=>by simp
 |k+1,acc=>by
  have e:acc.toArray++its.toArray=(acc++its).toArray:=by simp
  have e2:(acc++its)++(List.replicate k its).flatten=acc++(List.replicate (k+1) its).flatten:=by
   rw[List.replicate_succ,List.flatten_cons,List.append_assoc]
  rw[←e2,←ai8 its k (acc++its),←e,List.replicate_succ,List.foldl_cons]
section
variable{X:Cx}{pins:List (Addr×Obj)}{σ:St}{H:Hp}{s:Shared}{l b:Addr}{xs ys zs:List V}
theorem Inv.lset{its its':List Value}{n:Nat}{f:Array Value->Array Value}{t':Nat}(I:Inv X pins σ H s)(hH:H l=some (.lst xs))
  (e:s.heap.get? l=some {cls:=.type "list",data:=.seq its.toArray n}) (hf:f its.toArray=its'.toArray) (hv:Vals ys its') (hz:ys.length<=sizeLine):
  Inv X pins σ (upd H l (.lst ys)) {s with heap:=s.heap.update l (Obj.mapSeq f),toks:=t'}:=by
 have q:=PySem.IsL.update e f
 rw[hf] at q
 refine I.write (x:=l) (e:=l) (by rw[hH];exact trivial) (.inl rfl) (fun b' u hb hu=>(Heap.get?_update_other s.heap (Obj.mapSeq f) (Ne.symm hb)).trans hu) ⟨_,q⟩ ?_
 exact⟨hz,its',_,hv,q⟩
theorem Inv.lnew{its:List Value}{t':Nat}(I:Inv X pins σ H s)(hv:Vals ys its)(hz:ys.length<=sizeLine):
  Inv X pins σ (upd H s.heap.objs.size (.lst ys)) {s with heap:=s.heap.push {cls:=.type "list",data:=.seq its.toArray},toks:=t'}:=
 I.laid (fun _ _ q=>Heap.get?_push_of_some _ q) (Nat.le_refl _) ⟨hz,its,0,hv,Heap.get?_push_size _ rfl⟩
theorem Inv.fresh(I:Inv X pins σ H s):H s.heap.objs.size=none:=I.hok.fresh (Nat.le_refl _)
theorem Inv.lstM(I:Inv X pins σ H s)(hH:H l=some (.lst xs)):xs.length<=sizeLine/\∃(its:List Value) (n:Nat),Vals xs its/\xs.length=its.length/\s.heap.get? l=some {cls:=.type "list",data:=.seq its.toArray n}:=by
 obtain⟨z,its,n,r,e⟩:=I.hok l _ hH
 exact⟨z,its,n,r,r.length,e⟩
theorem ap0{n:Nat}(h:n<=sizeLine):Builtin.List.listTooLong n=false:=by
 unfold Builtin.List.listTooLong
 exact decide_eq_false (by omega)
end
section
variable{X:Cx}
def an9:V->List V->Hp->VK->Prop:=fun x vs H Q=>∃l xs y,x=.ref l/\vs=[y]/\H l=some (.lst xs)/\xs.length<sizeLine/\Q .non (upd H l (.lst (xs++[y])))
theorem afL:MtM X "list.append" an9:=by
 intro pins s σ H x vs v us Q I rx rv h
 obtain⟨l,xs,y,rfl,rfl,hH,hz,q⟩:=h
 cases rx
 obtain⟨u,rfl,ru⟩:=rv.one
 obtain⟨z,its,n,r,hl,e⟩:=I.lstM hH
 refine call_meets F.slot_list_append ⟨_,e,rfl⟩ F.entry_list_append (F.args_list_append_2 _ _) (PySem.list_append l its.toArray n u (by rw[List.size_toArray];omega)) ⟨e,?_⟩
 refine⟨.non,_,I.lset (its':=its++[u]) hH e (by simp) (r.append (.cons ru .nil)) ?_,rfl,q⟩
 rw[List.length_append,List.length_singleton]
 omega
def aI7:R2:=fun x y H Q=>∃l b xs zs,x=.ref l/\y=.ref b/\H l=some (.lst xs)/\H b=some (.lst zs)/\xs.length+zs.length<=sizeLine/\∀p,H p=none->Q (.ref p) (upd H p (.lst (xs++zs)))
theorem aBO:OpR X (binaryOp .Add) aI7:=by
 intro pins s σ H x y v u Q I rx ry h
 obtain⟨l,b,xs,zs,rfl,rfl,hH,hB,hz,q⟩:=h
 cases rx
 cases ry
 obtain⟨z,its,n,r,hl,e⟩:=I.lstM hH
 obtain⟨z2,its2,n2,r2,hl2,e2⟩:=I.lstM hB
 refine PySem.P.add_list e e2 ?_ (by rw[List.size_toArray,List.size_toArray];omega)
 have ea:its.toArray++its2.toArray=(its++its2).toArray:=by simp
 rw[ea]
 exact⟨.ref _,_,I.lnew (t':=s.toks) (r.append r2) (by rw[List.length_append];omega),rfl,q _ I.fresh⟩
def aIU:R2:=fun x y H Q=>∃l k xs,x=.ref l/\y=.int k/\H l=some (.lst xs)/\ -(2^63)<=k/\k<2^63/\xs.length*k.toNat<=sizeLine/\
 ∀p,H p=none->Q (.ref p) (upd H p (.lst (List.replicate k.toNat xs).flatten))
theorem atQ{α:Type}(xs:List α)(k:Nat):(List.replicate k xs).flatten.length=k*xs.length:=by
 induction k with
 |zero=>simp
 |succ k ih=>rw[List.replicate_succ,List.flatten_cons,List.length_append,ih,Nat.succ_mul,Nat.add_comm]
theorem aCZ:OpR X (binaryOp .Mult) aIU:=by
 intro pins s σ H x y v u Q I rx ry h
 obtain⟨l,k,xs,rfl,rfl,hH,h1,h2,hz,q⟩:=h
 cases rx
 obtain⟨t,rfl⟩:=ry
 obtain⟨z,its,n,r,hl,e⟩:=I.lstM hH
 have hlen:its.toArray.size*k.toNat<=sizeLine:=by rw[List.size_toArray,←hl];exact hz
 have hcap:¬its.toArray.size*k.toNat>(2^63-1) / 8:=by
  have:(sizeLine:Nat)<=(2^63-1) / 8:=by decide
  omega
 have hfit:¬(!Builtin.List.listFitsIndex k)=true:=by
  rw[fitsIndex_both h1 h2]
  exact Bool.false_ne_true
 have hlong:¬Builtin.List.listTooLong (its.toArray.size*k.toNat)=true:=by
  rw[ap0 hlen]
  exact Bool.false_ne_true
 have hnew:List.foldl (fun x1 x2=>x1++x2) #[] (List.replicate (if its.toArray.isEmpty=true then 0 else k.toNat) its.toArray)=(List.replicate k.toNat its).flatten.toArray:=by
  have f0:∀m:Nat,List.foldl (fun x1 x2=>x1++x2) #[] (List.replicate m its.toArray)=(List.replicate m its).flatten.toArray:=fun m=>by
   have:=ai8 its m []
   rw[List.nil_append] at this
   exact this
  rw[f0]
  cases its with
  |nil=>simp
  |cons a r'=>rw[if_neg (by simp)]
 refine wpAny_binaryOp_repeat_ref (T:="list") (U:="int") (by decide) ⟨_,e,rfl⟩ (fun s'=>typeIs_int s' k t) noFill_list_mul F.fills_int_mul F.slot_int_rmul repeat_list F.slot_int_index.lookup
  (call_meets F.slot_int_rmul (typeIs_int s k t) F.entry_int_rmul (F.args_int_rmul_2 _ _) (int___rmul___int_list k t l its.toArray n)
   ⟨e,rfl,⟨_,e,rfl⟩,call_meets F.slot_list_mul ⟨_,e,rfl⟩ F.entry_list_mul (F.args_list_mul_2 _ _) (AutoListH.list___mul___list_int_3 l its.toArray n k t hfit hcap hlong) ⟨e,?_⟩⟩)
 rw[hnew]
 exact⟨.ref _,_,I.lnew (t':=s.toks) (r.rep k.toNat) (by rw[atQ,Nat.mul_comm];exact hz),rfl,q _ I.fresh⟩
end
section
variable{prog:Program}{w:World}{A:Around}{E:Value->Shared->Prop}{s:Shared}
end
section
variable{X:Cx}
end
end L2
namespace Att
open PySem PySem.W PySem.Calls PyProof.Rows
theorem agP{P:Params}{h:Heap}:∀(ns:List Int) (vs:List Value),WellAll P h vs (ns.map WData.int)->IntsAre vs ns:=by
 intro ns
 induction ns with
 |nil=>
  intro vs w
  rw[List.map_nil] at w
  cases w
  exact .nil
 |cons n ns ih=>
  intro vs w
  rw[List.map_cons] at w
  cases w with
  |cons a b=>
   cases a
   exact .cons _ _ (ih _ b)
theorem apI{l:OpenLaw}{n:Nat}(hn:l.most=some n){P:Params}{h:Heap}{args:List WData}{vals:List Value}
  (hpre:l.row.toRowW.claim.pre args=true) (hwl:WellAll P h vals args):
  ∃a vs ns,vals=[Value.ref a]/\args=[WData.list (ns.map WData.int)]/\h.get? a=some {cls:=.type "list",data:=.seq vs.toArray}/\IntsAre vs ns/\ns.length<=n:=by
 have hsh:WShape.hasAll [] args [.list .int]=true:=(pre_splitW hpre).1
 have hc:l.pre.holds [] {args:=args}=true:=(pre_splitW hpre).2
 obtain⟨d,r,rfl,h1,h2⟩:=hasAllW_cons hsh
 obtain rfl:=hasAllW_nil h2
 obtain⟨xs,rfl,h3⟩:=hasW_list h1
 obtain⟨ns,rfl⟩:=items_int h3
 have hlen:ns.length<=n:=by
  unfold OpenLaw.pre at hc
  have h4:(WTm.not (.lt (.lit (.int (n:Int))) (.len (.arg 0)))).holds [] {args:=[.list (ns.map .int)]}=true:=by
   have h4:=(holds_andW hc).1
   rw[hn] at h4
   exact h4
  have h5:=condW_of h4 (w_not (w_lt w_lit (w_len_list (w_arg rfl))))
  rw[List.length_map] at h5
  refine Nat.le_of_not_lt fun q=>?_
  have q':(n:Int)<((ns.length:Nat):Int):=by omega
  first
   |(rw[decide_eq_true q'] at h5;exact absurd h5 (by decide))
   |(simp at h5;omega)
 cases hwl with
 |cons w1 w2=>
  cases w2
  cases w1 with
  |list ho hall=>exact⟨_,_,ns,rfl,rfl,ho,agP ns _ hall,hlen⟩
theorem apL(l:OpenLaw)(args:List WData):l.row.toRowW.claim.post args (.bool true) args=true:=
 postW_of (r:=l.row.toRowW) (X:=(true==true))
  (show WShape.has [] (.bool true) .bool=true by first | rfl | decide | simp[WShape.has,WShape.arms,WShape.armsAll])
  (show (WTm.eq .res (.lit (.bool true))).value [] {args:=args,res:=some (.bool true),after:=args}=some (.bool (true==true)) from w_eq_bool (w_res rfl) w_lit) rfl
theorem attach_call{l:OpenLaw}{n:Nat}{q:Program}{loose:List Str}{XP:(Str->Option Value)->Heap->Prop}{YP:World->Heap->Prop}{d:DefRec}
  (hn:l.most=some n) (hdf:d.params.defaults=[])
  (call:∀(w:World) (s₀ s₁:Shared) (mg mb:Str->Option Value) (fa:Addr) (o:Obj) (pm cd doc:Value) (a:Addr) (vs:List Value) (ns:List Int),
   Ground q loose [] XP w s₀ mg mb s₁.heap->YP w s₁.heap->
   s₁.heap.get? fa=some o->o.data=.func (docDef d.name d.params d.body d.scope pm cd doc)->s₁.heap.CodeRec cd d.name->mg d.name=some (.ref fa)->
   s₁.heap.get? a=some {cls:=.type "list",data:=.seq vs.toArray}->IntsAre vs ns->ns.length<=n->s₁.gens= #[]->
   codeAny (model l.prog w) callerA (.call (.ref fa) ⟨[.ref a],[]⟩) (fun r s'=>r=.ok (.ret (.bool true))/\OldK s₁.heap s'.heap/\s'.os=s₁.os/\AllBare s'.gens) s₁):
  WalkO q loose XP YP l.row.toRowW d [] (fun f vs=>PySem.call f vs):=by
 intro w s₀ s₁ mg mb G Y fa o pm cd doc dV kV ho hd hcd hD hmg hg args vals as hpre hlay hrd hwl hlo
 obtain rfl:dV=.none:=Dflts.none hD hdf
 obtain rfl:kV=.none:=Dflts.noKw hD
 obtain⟨a,vs,ns,rfl,rfl,hobj,hints,hlen⟩:=apI hn hpre hwl
 refine enter_call (codeAny_mono (call w s₀ s₁ mg mb fa o pm cd doc a vs ns G Y ho (fd_plain hd) hcd hmg hobj hints hlen hg) fun r s' hq=>?_)
 obtain⟨rfl,h2,h3,h4⟩:=hq
 exact⟨.inl ⟨.bool true,.bool true,[],rfl,fun _=>rfl,.bool true,apL l _,fun _=>⟨List.Pairwise.nil,fun _ hm=>(nomatch hm)⟩⟩,h2,h3,h4⟩
section
variable{prog:Program}{w:World}{A:Around}{E:Value->Shared->Prop}{s:Shared}{K:Frag}
end
end Att
namespace L2
open PySem PySem.Spec PyProof.Rows
theorem afS:∀{vs:List Value} {ns:List Int},IntsAre vs ns->Vals (ns.map V.int) vs
 |_,_,.nil=>.nil
 |_,_,.cons n t h=>.cons ⟨t,rfl⟩ (afS h)
def azF(H:Hp):Prop:=∀b,H b=none∨∃o xs,H b=some (.frz o (.lst xs))
theorem arU{P:Program}{w:World}{K:PySem.W.Frag}{mg mb:Str->Option Value}{CX:CXT}{k:Nat}{fa a:Addr}{fd:FuncData}{x:Str}{sp:Sp}{s₁:Shared}{vs:List Value}{ns:List Int}
  (KX:K.In s₁.heap) (hns:s₁.heap.Ns mainGlobals mg) (hb:s₁.heap.Ns builtinsNs mb) (hbb:∀x:Str,x≠"__name__"->mb x=bootBuiltins x) (hlim:s₁.heap.NoLimit) (hg:s₁.gens= #[])
  (ha:s₁.heap.get? a=some {cls:=.type "list",data:=.seq vs.toArray}) (hi:IntsAre vs ns) (hl:ns.length<=sizeLine) (hr:Room k callerA)
  (F:∀base:Heap,K.In base->base.Ns mainGlobals mg->FnOk P w K mg base CX k fa fd [x] sp) (hbind:∀(s:Shared) (u:Value),BindsTo s fd ⟨[u],[]⟩ [(x,u)])
  (hsp:∀H:Hp,azF H->SqL K H a (ns.map V.int)->sp [.ref a] H (fun v _=>v=.bl true) fun _ _ _=>False)
  (hCX:∀H e s',CX [] H s₁ (fun _ _ _=>False) e s'->False):
  codeAny (model P w) callerA (.call (.ref fa) ⟨[.ref a],[]⟩) (fun r s'=>r=.ok (.ret (.bool true))/\OldK s₁.heap s'.heap/\s'.os=s₁.os/\AllBare s'.gens) s₁:=by
 have rv:=afS hi
 have lenV:=hi.length
 -- from an abstract heap in which nothing but the script may be tracked
 have core:∀H:Hp,azF H->SqL K H a (ns.map V.int)->HOk P w H s₁.heap->(∀b,H b≠none->b=a)->(H a≠none->K.lookup a=none)->
   codeAny (model P w) callerA (.call (.ref fa) ⟨[.ref a],[]⟩) (fun r s'=>r=.ok (.ret (.bool true))/\OldK s₁.heap s'.heap/\s'.os=s₁.os/\AllBare s'.gens) s₁:=by
  intro H hO hS hok hA hK
  have base_of:∀{b:Addr} {o:Obj},s₁.heap.get? b=some o->H b=none->(akT s₁.heap H).get? b=some o:=fun e n=>arE e n
  have noA:∀{b:Addr} {o:Obj} {es:Array DictEntry} {ep:Nat},s₁.heap.get? b=some o->o.data=.dict es ep->H b=none:=fun {b o es ep} e d=>by
   cases q:H b with
   |none=>rfl
   |some u=>
    have e':b=a:=hA b (by rw[q];simp)
    subst e'
    rw[ha] at e;cases e
    have d':Data.seq vs.toArray _=Data.dict es ep:=d
    cases d'
  have nsK:∀{b:Addr} {m:Str->Option Value},s₁.heap.Ns b m->(akT s₁.heap H).Ns b m:=fun {b m} ⟨o,es,ep,e,d,r⟩=>⟨o,es,ep,base_of e (noA e d),d,r⟩
  have hKb:K.In (akT s₁.heap H):=fun b o e=>base_of (KX b o e) (by
   cases q:H b with
   |none=>rfl
   |some u=>
    have e':b=a:=hA b (by rw[q];simp)
    subst e'
    rw[hK (by rw[q];simp)] at e;cases e)
  have hM:Mod K mg (akT s₁.heap H):=⟨hKb,nsK hns,⟨mb,nsK hb,hbb⟩,let ⟨mc,h1,h2⟩:=hlim;⟨mc,nsK h1,h2⟩⟩
  have e0:Env0 P w K mg (akT s₁.heap H) callerA [] s₁ H:=⟨rfl,hM,fun b o e=>atZ e,Nat.le_of_eq (aoT _ _),trivial,fun b hb=>absurd (show b∈([]:List Addr) from hb) (by simp),hok,.of_eq hg⟩
  refine codeAny_mono ((F _ hKb (nsK hns)).run callerA [] s₁ H ⟨[.ref a],[]⟩ [.ref a] [.ref a] _ _ hr e0 (hbind s₁ (.ref a)) (.cons rfl .nil) (hsp H hO hS)) fun r s' h=>?_
  cases r with
  |error e=>exact (hCX H e s' h).elim
  |ok fl=>
   cases fl with
   |next=>exact False.elim h
   |brk=>exact False.elim h
   |cont=>exact False.elim h
   |ret u=>
    obtain⟨v,H',os,bare,un,hok',r',q⟩:=h
    have q':v=.bl true:=q
    subst q'
    obtain rfl:u=Value.bool true:=r'
    refine⟨rfl,OldK.of_keep fun b o e=>?_,os,bare⟩
    cases q:H b with
    |none=>exact un.keep b o e q (by intro z;exact absurd (show b∈([]:List Addr) from z) (by simp)) (by simp)
    |some u=>
     rcases hO b with z | ⟨ob,xs,z⟩
     ·rw[q] at z;cases z
     ·have z2:=un.frzs b ob _ z
      obtain⟨e1,_⟩:=hok b _ z
      obtain⟨e2,_⟩:=hok' b _ z2
      rw[e] at e1;cases e1
      exact e2
 cases hk:K.lookup a with
 |some o=>
  -- the script is one of the module's own objects
  have e:=KX a o hk
  rw[ha] at e
  cases e
  refine core (fun _=>none) (fun _=>.inl rfl) (.inr ⟨_,vs.toArray,_,hk,rfl,rfl,rfl,by rw[List.size_toArray,lenV];exact hl,by simpa using rv⟩) (fun b u z=>by have z':(none:Option HO)=some u:=z;cases z') (fun b z=>absurd rfl z) fun z=>absurd rfl z
 |none=>
  refine core (fun b=>if b=a then some (.frz {cls:=.type "list",data:=.seq vs.toArray} (.lst (ns.map V.int))) else none) (fun b=>?_) (.inl (.inr ⟨{cls:=.type "list",data:=.seq vs.toArray},if_pos rfl⟩)) (fun b u z=>?_) (fun b z=>?_) fun _=>hk
  ·by_cases hb:b=a
   ·exact .inr ⟨_,_,if_pos hb⟩
   ·exact .inl (if_neg hb)
  ·by_cases hb:b=a
   ·have z':=(if_pos hb).symm.trans z
    cases z'
    subst hb
    exact⟨ha,by rw[List.length_map];exact hl,vs,_,rv,ha⟩
   ·have z':=(if_neg hb).symm.trans z
    cases z'
  ·by_cases hb:b=a
   ·exact hb
   ·exact absurd (if_neg hb) z
theorem walk_of{l:PySem.W.OpenLaw}{n k:Nat}{q:Program}{loose:List Str}{XP:(Str->Option Value)->Heap->Prop}{YP:World->Heap->Prop}{d:DefRec}{K:Params->PySem.W.Frag}{CX:World->CXT}{sp:World->Sp}{x:Str}
  (hn:l.most=some n) (hn2:n<=sizeLine) (hdf:d.params.defaults=[]) (hr:Room k callerA)
  (hY:∀(w:World) (h:Heap),YP w h->(K w.params).In h)
  (F:∀(w:World) (mg:Str->Option Value) (fa:Addr) (h:Heap),(K w.params).In h->h.Ns mainGlobals mg->mg d.name=some (.ref fa)->
   ∃fd:FuncData,(∀(s:Shared) (u:Value),BindsTo s fd ⟨[u],[]⟩ [(x,u)])/\
    ∀base:Heap,(K w.params).In base->base.Ns mainGlobals mg->FnOk l.prog w (K w.params) mg base (CX w) k fa fd [x] (sp w))
  (hsp:∀(w:World) (H:Hp) (a:Addr) (ns:List Int),ns.length<=n->azF H->SqL (K w.params) H a (ns.map V.int)->sp w [.ref a] H (fun v _=>v=.bl true) fun _ _ _=>False)
  (hCX:∀(w:World) (H:Hp) (s:Shared) (e:Value) (s':Shared),CX w [] H s (fun _ _ _=>False) e s'->False):
  PySem.W.WalkO q loose XP YP l.row.toRowW d [] (fun f vs=>PySem.call f vs):=by
 refine Att.attach_call hn hdf fun w s₀ s₁ mg mb fa o pm cd doc a vs ns G Y ho hd hcd hmg hobj hints hlen hg=>?_
 have KX:=hY w _ Y
 obtain⟨fd,hb,hF⟩:=F w mg fa _ KX G.T.g hmg
 exact arU KX G.T.g G.T.b G.T.builtins G.T.nolimit hg hobj hints (Nat.le_trans hlen hn2) hr hF hb (fun H hO hS=>hsp w H a ns hlen hO hS) fun H e s'=>hCX w H s₁ e s'
end L2
/- THE LAST THEOREM (shape;LID,My.* are yours):
 My.Adr:a structure of the addresses that your layer names (classes,functions);My.Txt K t:a structure (Prop) of the equations over K;
 My.txt_mk:{K} {implicit addresses ..} (e1:nsIn K mainGlobals "law"=some (some (.ref f))) (e2:K.lookup f=some ⟨oc,od,.func (fnOf "law" "law" params body scope dV kV doc pm an cdv ct),sl⟩) (e3:codeIn K cdv "law"=true) .. :∃t,My.Txt K t
set_option maxRecDepth 100000 in
set_option maxHeartbeats 0 in
theorem PySem.Challenge.cw_LID_holds : PySem.Challenge.rw_LID.Holds := by
 w_on;o_law;k_head;(case hw=>w_witness2)
 k_fill
 refine L2.walk_of (l:=PySem.Challenge.rw_LID) (n:=63) (k:=40) (x:="script") (CX:=fun w=>..) (sp:=fun _=>My.sp_law) rfl (by decide) rfl ⟨rfl,by decide,by decide⟩ (fun w h Y=>PySem.W.kIn_of Y) ?F ?S ?C
 case F=>
  intro w mg fa h KX G hmg
  have T:∃t,My.Txt (L2.KOf KX) t:=by
   dsimp only[L2.KOf]                          -- K must stand as «<heap const> w.params» for k_is
   refine' My.txt_mk ?e1 ?e2 ?e3 ..
   (case e1=>PySem.W.k_is)                    -- in the order:a name->its address->its object->its parts
   (case e2=>PySem.W.k_is)
   ..
  obtain⟨t,T⟩:=T
  have e0:=hmg.symm.trans (PySem.W.mg_of KX G T.law)
  cases e0                                       -- fa is the law's own address
  exact⟨_,fun s u=>.of_eq rfl,fun base kb nb=>My.law_fn T kb nb⟩     -- if «.of_eq rfl» comes too early:refine' ⟨_,?b,fun base kb nb=>My.law_fn T kb nb⟩;exact fun s u=>.of_eq rfl
 case S=>exact fun w H a ns hl hO hS=>..
 case C=>exact ..
(the tactic k_is has no namespace:write k_is) -/
namespace L2
open PySem PySem.Spec PyProof.Rows
def abX(s:Stmt)(j:Nat):Stmt:=match s with
 |.ClassDef _ _ _ body _ _ _ _ _ _ _=>body.getD j (.Pass ⟨0,0,0,0⟩)
 |_=>.Pass ⟨0,0,0,0⟩
def abA(s:Stmt):Arguments:=match s with
 |.FunctionDef _ a _ _ _ _ _ _ _ _=>a
 |_=>{posonlyargs:=[],args:=[],vararg:=none,kwonlyargs:=[],kw_defaults:=[],kwarg:=none,defaults:=[]}
def aaP(s:Stmt):List Stmt:=match s with
 |.FunctionDef _ _ b _ _ _ _ _ _ _=>b
 |_=>[]
def aaC(s:Stmt):Scope:=match s with
 |.FunctionDef _ _ _ _ _ _ sc _ _ _=>sc
 |_=>{kind:=.function,names:=[],isGenerator:=false,isCoroutine:=false}
abbrev CX0:CXT:=fun _ _ _ _ _ _=>False
abbrev E0:XK:=fun _ _ _=>False
theorem anL{X:Cx}:adG CX0 X E0:=fun _ _ _ _ _ _ _ h=>h.elim
structure Fun(K:PySem.W.Frag)(x qual:Str)(st:Stmt)(f:Addr)(fd:FuncData):Prop where
 ex:∃(oc:Value) (od:Option Addr) (kV doc pm:Value) (an:Option Addr) (cdv ct:Value) (osl:Array (Option Value)),
  fd=PySem.W.fnOf x qual (abA st) (aaP st) (aaC st) .none kV doc pm an cdv ct/\K.lookup f=some ⟨oc,od,.func fd,osl⟩/\PySem.W.codeIn K cdv qual=true
 kp:PySem.W.keepIn K (.ref f)=true
section
variable{P:Program}{w:World}{K:PySem.W.Frag}{mg:Str->Option Value}{base:Heap}
theorem Fun.ok{x qual:Str}{st:Stmt}{f:Addr}{fd:FuncData}{N ps:List Str}{k:Nat}{sp:Sp}(F:Fun K x qual st f fd)(S:FnScope N ps (aaC st))(len:∀vs H Q E,sp vs H Q E->vs.length=ps.length)
  (hbody:∀(cdv:Value) (A:Around) (outer:List Env) (s:Shared) (H:Hp) (vs:List V) (Q:VK) (E:XK),Room k (A.deeper (envOfC qual (aaC st) s.heap.objs.size f cdv))->sp vs H Q E->
   ∃t,PSs (aaS CX0 P w K mg base N qual (aaC st) f cdv A outer s H E).nox (aaP st) t/\t {nx:=fun _ H'=>Q .non H',rt:=Q} (start N vs) H):FnOk P w K mg base CX0 (k+1) f fd ps sp:=by
 obtain⟨oc,od,kV,doc,pm,an,cdv,ct,osl,rfl,lk,hcd⟩:=F.ex
 refine ap9 lk hcd S len fun A outer s H vs Q E hr hsp=>?_
 obtain⟨t,h,q⟩:=hbody cdv A outer s H vs Q E hr hsp
 exact⟨t,h.nox,q⟩
theorem Fun.binds{x qual:Str}{st:Stmt}{f:Addr}{fd:FuncData}{ps:List Str}(F:Fun K x qual st f fd)
  (h:∀(kV doc pm:Value) (an:Option Addr) (cdv ct:Value) (us:List Value),us.length=ps.length->bindArgs (PySem.W.fnOf x qual (abA st) (aaP st) (aaC st) .none kV doc pm an cdv ct) ⟨us,[]⟩=pure (ps.zip us)):Binds K fd ps []:=by
 obtain⟨oc,od,kV,doc,pm,an,cdv,ct,osl,rfl,lk,hcd⟩:=F.ex
 exact .all (h kV doc pm an cdv ct)
theorem anE{x qual:Str}{st:Stmt}{f:Addr}{oc:Value}{od an:Option Addr}{osl:Array (Option Value)}{kV doc pm cdv ct:Value}(l:K.lookup f=some ⟨oc,od,.func (PySem.W.fnOf x qual (abA st) (aaP st) (aaC st) .none kV doc pm an cdv ct),osl⟩)
  (c:PySem.W.codeIn K cdv qual=true) (k:PySem.W.keepIn K (.ref f)=true):Fun K x qual st f (PySem.W.fnOf x qual (abA st) (aaP st) (aaC st) .none kV doc pm an cdv ct):=⟨⟨oc,od,kV,doc,pm,an,cdv,ct,osl,rfl,l,c⟩,k⟩
end
section
variable{X:Cx}
end
theorem aa7{A B:Prop}(h:B):if false=true then A else B:=by
 rw[if_neg Bool.false_ne_true]
 exact h
theorem abZ{A B:Prop}(h:A):if true=true then A else B:=by
 rw[if_pos rfl]
 exact h
theorem az9{c A B:Prop}[Decidable c](h1:c->A)(h2:¬c->B):if c then A else B:=by
 by_cases h:c
 ·rw[if_pos h]
  exact h1 h
 ·rw[if_neg h]
  exact h2 h
def Same(H H':Hp):Prop:=∀b o,H b=some o->H' b=some o
theorem Same.refl(H:Hp):Same H H:=fun _ _ h=>h
theorem Same.trans{H H1 H2:Hp}(a:Same H H1)(b:Same H1 H2):Same H H2:=fun c o h=>b c o (a c o h)
theorem Same.free{H H':Hp}(e:Same H H'){l:Addr}(h:H' l=Option.none):H l=Option.none:=by
 cases q:H l with
 |none=>rfl
 |some o=>
  rw[e l o q] at h
  cases h
theorem Same.seq{K:PySem.W.Frag}{H H':Hp}{a:Addr}{xs:List V}(e:Same H H')(h:SqL K H a xs):SqL K H' a xs:=by
 rcases h with (h | ⟨o,h⟩) | h
 ·exact .inl (.inl (e _ _ h))
 ·exact .inl (.inr ⟨o,e _ _ h⟩)
 ·exact .inr h
section
variable{X:Cx}
end
structure Df(P:Program)(w:World)(K:PySem.W.Frag)(mg:Str->Option Value)(base:Heap)(x:Str)(k:Nat)(ps:List Str)(sp:Sp):Prop where
 ex:∃(f:Addr) (fd:FuncData),FnOk P w K mg base CX0 k f fd ps sp/\Binds K fd ps []/\mg x=some (.ref f)/\PySem.W.keepIn K (.ref f)=true
structure Fn(K:PySem.W.Frag)(mg:Str->Option Value)(x:Str)(st:Stmt)(ps:List Str):Prop where
 ex:∃(f:Addr) (fd:FuncData),Fun K x x st f fd/\Binds K fd ps []/\mg x=some (.ref f)
section
variable{P:Program}{w:World}{K:PySem.W.Frag}{mg:Str->Option Value}{base:Heap}{x:Str}{st:Stmt}{ps N:List Str}{k:Nat}{sp:Sp}
theorem Fn.df(F:Fn K mg x st ps)(S:FnScope N ps (aaC st))(len:∀vs H Q E,sp vs H Q E->vs.length=ps.length)
  (hbody:∀(f:Addr) (cdv:Value) (A:Around) (outer:List Env) (s:Shared) (H:Hp) (vs:List V) (Q:VK) (E:XK),Room k (A.deeper (envOfC x (aaC st) s.heap.objs.size f cdv))->sp vs H Q E->
   ∃t,PSs (aaS CX0 P w K mg base N x (aaC st) f cdv A outer s H E).nox (aaP st) t/\t {nx:=fun _ H'=>Q .non H',rt:=Q} (start N vs) H):Df P w K mg base x (k+1) ps sp:=by
 obtain⟨f,fd,F1,hb,hm⟩:=F.ex
 exact⟨⟨f,fd,F1.ok S len (hbody f),hb,hm,F1.kp⟩⟩
theorem aaR{h:Heap}{f:Addr}{oc:Value}{od an:Option Addr}{osl:Array (Option Value)}{kV doc pm cdv ct:Value}(X:K.In h)(G:h.Ns mainGlobals mg)
  (a:PySem.W.nsIn K mainGlobals x=some (some (.ref f))) (l:K.lookup f=some ⟨oc,od,.func (PySem.W.fnOf x x (abA st) (aaP st) (aaC st) .none kV doc pm an cdv ct),osl⟩)
  (c:PySem.W.codeIn K cdv x=true) (k:PySem.W.keepIn K (.ref f)=true)
  (hb:∀(kV doc pm:Value) (an:Option Addr) (cdv ct:Value) (us:List Value),us.length=ps.length->bindArgs (PySem.W.fnOf x x (abA st) (aaP st) (aaC st) .none kV doc pm an cdv ct) ⟨us,[]⟩=pure (ps.zip us)):Fn K mg x st ps:=by
 have F:=anE (st:=st) l c k
 exact⟨⟨f,_,F,F.binds (ps:=ps) hb,PySem.W.mg_of X G a⟩⟩
end
section
variable{X:Cx}
theorem aqJ{x:Str}{k k':Nat}{ps:List Str}{sp:Sp}{e:Expr}{es:List Expr}{t:TA}{p pos:Pos}(D:Df X.prog X.w X.K X.mg X.base x k ps sp)(hr:Room k' X.A)(ha:PA X (e::es) t)(hk:k<=k':=by decide)(hg:Gl X x:=by rfl)
  (hdb:(x==("__debug__":Str))=false:=by decide) (he:starEach (e::es) X.env=(false,eval e X.env)::starEach es X.env:=by rfl) (hpl:(backTo pos (starEach es X.env)).any (·.1)=false:=by rfl):
  PE X (.Call (.Name x p) (e::es) [] pos) (ajE sp [] E0 t):=by
 obtain⟨f,fd,F,hb,hm,kp⟩:=D.ex
 exact anM F (hr.mono hk) hg hm kp hb .nil anL ha hdb he hpl
end
theorem aaB{H:Hp}{p:Addr}(h:H p=none)(o:HO):Same H (upd H p o):=fun b u q=>by rw[aaE (aaG q h)];exact q
theorem int_eq{a b:Int}:(V.int a=V.int b)↔a=b:=⟨fun h=>V.int.inj h,fun h=>by rw[h]⟩
theorem ifI{a b:Int}{A B:Prop}(h1:a=b->A)(h2:¬a=b->B):if decide (V.int a=V.int b)=true then A else B:=
 az9 (fun c=>h1 (int_eq.mp (of_decide_eq_true c))) (fun c=>h2 fun e=>c (decide_eq_true (int_eq.mpr e)))
theorem ifD{c:Prop}[Decidable c]{A B:Prop}(h1:c->A)(h2:¬c->B):if decide c=true then A else B:=
 az9 (fun q=>h1 (of_decide_eq_true q)) (fun q=>h2 fun e=>q (decide_eq_true e))
theorem ifNe{a b:Int}{A B:Prop}(e:a=b)(h:B):if (!decide (V.int a=V.int b))=true then A else B:=by
 rw[decide_eq_true (int_eq.mpr e)];exact aa7 h
def amC:Expr->Option Int
 |.Constant (.int i) _ _=>some i
 |_=>none
def axX(is:List Int):TA:=fun _ H Q=>Q (is.map V.int) H
theorem aoG{X:Cx}:∀{es:List Expr} (is:List Int),es.map amC=is.map some->PA X es (axX is)
 |[],[],_=>adD
 |[],_::_,h=>by cases h
 |_::_,[],h=>by cases h
 |e::es,i::is,h=>by
  have h1:amC e=some i:=(List.cons.inj h).1
  have h2:es.map amC=is.map some:=(List.cons.inj h).2
  obtain⟨j,pos,rfl⟩:∃j pos,e=.Constant (.int i) j pos:=by
   unfold amC at h1
   split at h1
   ·cases h1
    exact⟨_,_,rfl⟩
   ·cases h1
  exact acB aqS (aoG is h2)
structure Clos(X:Cx)(scope:Scope)(cl:List (Str×Addr)):Prop where
 is:closureFor scope X.env=pure cl
 sub:∀y c,cl.lookup y=some c->X.env.cells.lookup y=some c
 has:∀y,scope.names.lookup y=some .free->∃c,cl.lookup y=some c
 nocell:∀y∈scope.names,y.2≠ .cell
 kind:scope.kind=.function
 names:∀y∈scope.names,y.2=.local->scope.names.lookup y.1=some .local
def aaI(X:Cx)(N:List Str)(scope:Scope)(cl:List (Str×Addr))(C:Addr)(ex:List Addr)(pins:List (Addr×Obj))(s:Shared)(H:Hp):Cx:=
 {X with N:=N,s₀:=s,H₀:=H,env:=compEnvC scope cl C X.env,outer:=X.stack,stack:=X.stack,ex:=ex,fn:=fun _=>false,pn:=X.pn++pins,xe:=fun _ _=>False}
def aaT(js:List Nat)(σ:St):St:=js.map fun j=>(σ[j]?).getD none
def anQ(ifs:List Expr)(env:Env):Sem Bool:=
 forIn ifs true fun c r=>if r=true then (do let ok ←isTrue c env (eval c env);pure (ForInStep.yield ok)) else pure (ForInStep.yield r)
def PF(X:Cx)(ifs:List Expr)(t:TT):Prop:=
 ∀(pins:List (Addr×Obj)) (s:Shared) (σ:St) (H:Hp) (Q:Bool->Hp->Prop),Inv X pins σ H s->t σ H Q->
  wpAny (model X.prog X.w) X.A (anQ ifs X.env) (TP X pins σ Q) X.xe s
def aFR:TT:=fun _ H Q=>Q true H
theorem ayC{X:Cx}:PF X [] aFR:=fun _ _ _ H _ I h=>wpAny_tests_nil ⟨H,I,h⟩
theorem aAW{X:Cx}{c:Expr}{t:TT}(h:PT X c t):PF X [c] t:=fun pins s σ H Q I q=>wpAny_tests_one (h pins s σ H Q I q)
def aoL(J:It)(js:List Nat)(σ:St)(tt:TT)(te:TE)(Q:VK)(H1:Hp):Prop:=∀D,H1 D=none->∃W:Nat->Nat->Hp->Prop,(∃m,W 0 m (upd H1 D (.lst [])))/\∀i m H2,W i m H2->
 (J.stop i H2/\Q (.ref D) H2)∨(J.go i H2/\∀v H3,J.yld i H2 v H3->tt (some v::aaT js σ) H3 fun b H4=>if b=true then
  te (some v::aaT js σ) H4 fun y H5=>∃ys,H5 D=some (.lst ys)/\ys.length<sizeLine/\∃m',m'<m/\W (i+1) m' (upd H5 D (.lst (ys++[y])))
  else ∃m',m'<m/\W (i+1) m' H4)
def apP(wi:TI)(js:List Nat)(tt:TT)(te:TE):TE:=fun σ H Q=>wi σ H fun J H1=>aoL J js σ tt te Q H1
def akL(env:Env)(n:Str)(k:NameKind):NameKind:=if (k==NameKind.free&&env.scope.kind== .function&&env.kindOf n==some .cell) then .cell else k
theorem asX{env:Env}{n:Str}{k:NameKind}:(if (k==NameKind.free&&env.scope.kind== .function&&env.kindOf n==some .cell) then (n,NameKind.cell) else (n,k))=(n,akL env n k):=by
 unfold akL
 split<;>rfl
theorem adS{env:Env}:∀(names:List (Str×NameKind)) (x:Str),(relabel {kind:=.function,names:=names,isGenerator:=false,isCoroutine:=false} env).names.lookup x=(names.lookup x).map (akL env x)
 |[],_=>rfl
 |(n,k)::r,x=>by
  have ih:=adS (env:=env) r x
  unfold relabel at ih ⊢
  dsimp only at ih ⊢
  rw[List.map_cons]
  dsimp only
  rw[asX,List.lookup_cons,List.lookup_cons,ih]
  cases hx:x==n with
  |true=>
   have e:x=n:=by simpa using hx
   rw[e]
   rfl
  |false=>rfl
theorem acY{env:Env}(scope:Scope)(x:Str):(relabel scope env).names.lookup x=(scope.names.lookup x).map (akL env x):=adS scope.names x
theorem ai4{env:Env}{x:Str}{o:Option NameKind}(hc:o≠some .cell)(h:o.map (akL env x)=some .cell∨o.map (akL env x)=some .free):o=some .free:=by
 cases o with
 |none=>rcases h with h | h<;>cases h
 |some k=>
  by_cases e:k=.free
  ·rw[e]
  ·have z:akL env x k=k:=by
    unfold akL
    have e':(k==NameKind.free)=false:=by simpa using e
    rw[e']
    rfl
   rw[Option.map_some,z] at h
   rcases h with h | h
   ·exact absurd h hc
   ·exact h
theorem afB{env:Env}{scope:Scope}{x:Str}(h:scope.names.lookup x=some .free):(relabel scope env).names.lookup x=some .cell∨(relabel scope env).names.lookup x=some .free:=by
 rw[acY,h,Option.map_some]
 unfold akL
 split
 ·exact .inl rfl
 ·exact .inr rfl
section
variable{X:Cx}{elt iter:Expr}{x:Str}{px pos:Pos}{ifs:List Expr}{scope:Scope}{cl:List (Str×Addr)}{N':List Str}{js:List Nat}{tt:TT}{te:TE}
theorem anF{pins:List (Addr×Obj)}{σ:St}{H:Hp}{s s4:Shared}{fp:List Addr}{C:Addr}{m4:Str->Option Value}(hcl:Clos X scope cl)(hN:js.map (fun j=>X.N[j]?)=N'.map some)
  (hk:N'.all (fun y=>(X.env.kindOf y==some .cell)||(X.env.kindOf y==some .free))=true) (hf:N'.all (fun y=>scope.names.lookup y==some .free)=true)
  (I:Inv X pins σ H s) (hfp:∀b∈fp,acI X pins H b/\b<s.heap.objs.size) (hC:C=s.heap.objs.size) (ho:s4.os=s.os) (hg:s4.gens=s.gens) (hkeep:∀b o,s.heap.get? b=some o->s4.heap.get? b=some o) (hn:s4.heap.Ns C m4):
  Inv (aaI X (x::N') scope cl C fp pins s H) [] (none::aaT js σ) H s4:=by
 have hne:∀b o,s.heap.get? b=some o->b≠C:=fun b o e=>by rw[hC];exact Nat.ne_of_lt (Heap.lt_size e)
 refine⟨⟨I.ok.mod,hcl.kind,I.ok.glob,I.ok.blt,Nat.le_of_eq hC.symm,fun y z c h1 h2=>I.ok.inj y z c (hcl.sub y c h1) (hcl.sub z c h2),fun y hy=>hcl.has y (ai4 (fun z=>hcl.nocell _ (PySem.mem_of_lookup z) rfl) (by rw[←acY];exact hy)),fun y c h _=>(nomatch h),I.ok.hd,I.ok.frames,.inl rfl,fun b hb=>⟨?_,fun y c e=>(hfp b hb).1.2.2.2.2.1 y c (hcl.sub y c e)⟩,
  I.bs,Nat.le_trans I.ok.bsz I.sz,fun b o e hb=>?_,fun b hb hz=>?_,I.stack,I.stkFree⟩,ho,by rw[hg];exact I.bare,Un.kept hkeep,⟨m4,hn,fun i y v h1 h2 h3=>?_⟩,fun y c e=>?_,?_,fun y c e=>I.freeC y c (hcl.sub y c e),fun p hp=>?_,I.hok.kept hkeep,?_⟩
 ·rw[hC];exact Nat.ne_of_lt (hfp b hb).2
 ·rcases (hfp b hb).1.2.2.2.1 with z | z
  ·exact I.ok.noex b o e z
  ·exact absurd (Nat.lt_of_lt_of_le (Heap.lt_size e) (Nat.le_trans I.ok.bsz z)) (Nat.lt_irrefl _)
 ·rcases List.mem_cons.mp (I.stkSub b hz) with z | z
  ·exact (hfp b hb).1.2.1 z
  ·exact (hfp b hb).1.2.2.1 z
 ·match i,h1,h2 with
  |0,_,h2=>exact nomatch h2
  |i+1,h1,h2=>
   have h1:N'[i]? =some y:=h1
   have h2:(aaT js σ)[i]? =some (some v):=h2
   have hy:y∈N':=List.mem_of_getElem? h1
   have q:(js.map (fun j=>X.N[j]?))[i]? =some (some y):=by rw[hN,List.getElem?_map,h1];rfl
   rw[List.getElem?_map] at q
   cases ej:js[i]? with
   |none=>rw[ej] at q;cases q
   |some j=>
    rw[ej] at q
    have q:X.N[j]? =some y:=Option.some.inj q
    unfold aaT at h2
    rw[List.getElem?_map,ej] at h2
    have h2:(σ[j]?).getD none=some v:=Option.some.inj h2
    have h2:σ[j]? =some (some v):=by
     cases e:σ[j]? with
     |none=>rw[e] at h2;cases h2
     |some o=>rw[e] at h2;exact congrArg some h2
    have kk:=List.all_eq_true.mp hk y hy
    have kk:X.env.kindOf y=some .cell∨X.env.kindOf y=some .free:=by simpa using kk
    have ff:=List.all_eq_true.mp hf y hy
    have ff:scope.names.lookup y=some .free:=by simpa using ff
    obtain⟨m,_,hl⟩:=I.loc
    obtain⟨u,r,l⟩:=hl j y v q h2 (by rcases kk with z | z;exact .inr (.inl z);exact .inr (.inr z))
    refine⟨u,r,.inr ⟨afB ff,?_⟩⟩
    obtain⟨c,hc⟩:=hcl.has y ff
    rcases l with ⟨z,_⟩ | ⟨_,c',e',cell⟩
    ·rcases kk with k | k<;>(rw[k] at z;cases z)
    ·rw[hcl.sub y c hc] at e'
     cases e'
     exact⟨c,hc,cell.keeps hkeep⟩
 ·obtain⟨v,q⟩:=I.cell y c (hcl.sub y c e)
  exact⟨v,q.keeps hkeep⟩
 ·show H C=none
  rw[hC]
  exact I.hok.fresh (Nat.le_refl _)
 ·have hp:p∈X.pn++pins:=by
   have hp:p∈(X.pn++pins)++[]:=hp
   rwa [List.append_nil] at hp
  obtain⟨e,n,ne,nf,d⟩:=I.pin p hp
  refine⟨hkeep _ _ e,n,hne _ _ e,fun z=>?_,d⟩
  rcases List.mem_cons.mp (I.stkSub p.1 z) with z | z
  ·exact ne z
  ·exact nf z
 ·show (aaT js σ).length+1=N'.length+1
  have q:=congrArg List.length hN
  rw[List.length_map,List.length_map] at q
  unfold aaT
  rw[List.length_map,q]
end
theorem aiB{prog:Program}{w:World}{A:Around}{R:Result->Shared->Prop}{s:Shared}{elt tg iter:Expr}{ifs:List Expr}{scope:Scope}{pos:Pos}{it acc:Value}{env:Env}{EN:Value->Shared->Prop}
  (hEN:EN=notedBy (model prog w) A env fun e s'=>R (.error e) s') (B:Nat->Shared->Prop)
  (turn:∀n s,B n s->wpAny (model prog w) A (pyNext it) (fun r s₁=>match r with
   |none=>R (.ok .next) s₁
   |some v=>wpAny (model prog w) A (letOwnedTupleGo tg it v) (fun _ s₂=>wpAny (model prog w) A (assign tg env v) (fun _ s₃=>
     wpAny (model prog w) A (anQ ifs env) (fun ok s₄=>
      if ok=true then wpAny (model prog w) A (eval elt env) (fun z s₅=>wpAny (model prog w) A (call (.builtin "list.append") [acc,z]) (fun _ s₆=>∃m,m<n/\B m s₆) EN s₅) EN s₄
      else ∃m,m<n/\B m s₄) EN s₃) EN s₂) EN s₁) EN s) (n:Nat) (h:B n s):
  codeAny (model prog w) A (.compLoop (.ListComp elt [⟨tg,iter,ifs,0⟩] scope pos) 0 it acc env) R s:=by
 subst hEN
 refine codeAny_loop rfl B (fun n s hI=>?_) n h
 refine wpAny_noted (m:=compTurn (.ListComp elt [⟨tg,iter,ifs,0⟩] scope pos) 0 it acc env) ?_
 rw[compTurn_list]
 refine wpAny_bind (wpAny_standAt (wpAny_bind (wpAny_mono (turn n s hI) (fun r s₁ h₁=>?_) fun _ _ z=>z)))
 cases r with
 |none=>exact wpAny_pure h₁
 |some v=>
  refine wpAny_bind (wpAny_mono h₁ (fun _ s₂ h₂=>?_) fun _ _ z=>z)
  refine wpAny_bind (wpAny_mono h₂ (fun _ s₃ h₃=>?_) fun _ _ z=>z)
  refine wpAny_bind (wpAny_mono h₃ (fun ok s₄ h₄=>?_) fun _ _ z=>z)
  cases ok with
  |false=>exact wpAny_pure ⟨rfl,h₄⟩
  |true=>
   refine wpAny_bind (wpAny_bind (wpAny_mono h₄ (fun z s₅ h₅=>?_) fun _ _ q=>q))
   exact wpAny_bind (wpAny_mono h₅ (fun _ s₆ h₆=>wpAny_pure (wpAny_pure ⟨rfl,h₆⟩)) fun _ _ q=>q)
section
variable{X:Cx}{elt iter:Expr}{x:Str}{px pos:Pos}{ifs:List Expr}{scope:Scope}{cl:List (Str×Addr)}{N':List Str}{js:List Nat}{tt:TT}{te:TE}
theorem ap3{pins:List (Addr×Obj)}{σ σ':St}{H H':Hp}{s s':Shared}{fp:List Addr}{C:Addr}(I:Inv X pins σ H s)(hfp:∀b∈fp,acI X pins H b)(J:Inv (aaI X (x::N') scope cl C fp pins s H) [] σ' H' s'):Inv X pins σ H' s':=
 I.call' (ch:=fp) J.os J.base J.hok J.bare fun b hb=>⟨(hfp b hb).2.2.2.1,(hfp b hb).2.1,(hfp b hb).2.2.2.2.1,(hfp b hb).2.2.2.2.2⟩
theorem ahP{pins:List (Addr×Obj)}{σ:St}{H:Hp}{s:Shared}{Q:VK}{RR:Value->Addr->Result->Shared->Prop}{J:It}{fp:List Addr}{it:Addr}{tn:Nat->Heap->Prop}
  (hcl:Clos X scope cl) (hx:scope.names.lookup x=some .local) (hnd:(x::N').Nodup) (hN:js.map (fun j=>X.N[j]?)=N'.map some)
  (hk:N'.all (fun y=>(X.env.kindOf y==some .cell)||(X.env.kindOf y==some .free))=true) (hf:N'.all (fun y=>scope.names.lookup y==some .free)=true) (hc:X.calm=true)
  (ht:∀(C:Addr) (ex:List Addr) (pins:List (Addr×Obj)) (s:Shared) (H:Hp),PF (aaI X (x::N') scope cl C ex pins s H) ifs tt)
  (he:∀(C:Addr) (ex:List Addr) (pins:List (Addr×Obj)) (s:Shared) (H:Hp),PE (aaI X (x::N') scope cl C ex pins s H) elt te)
  (I:Inv X pins σ H s) (T:Turn X.prog X.w X.K (.Name x px) J fp it tn) (st:tn 0 s.heap) (hfp:∀b∈fp,acI X pins H b)
  (q:∀D,H D=none->∃W:Nat->Nat->Hp->Prop,(∃m,W 0 m (upd H D (.lst [])))/\∀i m H2,W i m H2->
   (J.stop i H2/\Q (.ref D) H2)∨(J.go i H2/\∀v H3,J.yld i H2 v H3->tt (some v::aaT js σ) H3 fun b H4=>if b=true then
    te (some v::aaT js σ) H4 fun y H5=>∃ys,H5 D=some (.lst ys)/\ys.length<sizeLine/\∃m',m'<m/\W (i+1) m' (upd H5 D (.lst (ys++[y])))
    else ∃m',m'<m/\W (i+1) m' H4))
  (hRR:∀(D C:Addr) (s':Shared) (H':Hp) (m:Str->Option Value),Inv X pins σ H' s'->H' C=none->C≠X.env.locals->X.s₀.heap.objs.size<=C->(∀y c,X.env.cells.lookup y=some c->c≠C)->(∀p∈X.pn++pins,p.1≠C)->s'.heap.Ns C m->Q (.ref D) H'->RR (.ref D) C (.ok .next) s'):
  wpAny (model X.prog X.w) X.A (newList []) (fun acc s₃=>wpAny (model X.prog X.w) X.A (newFunctionEnv scope X.env.globals cl [] X.env.qual none .none (some X.env)) (fun cenv s₄=>
   codeAny (model X.prog X.w) X.A (.compStart (.ListComp elt [⟨.Name x px,iter,ifs,0⟩] scope pos) 0 (.ref it) acc {cenv with scope:=relabel scope X.env}) (RR acc cenv.locals) s₄) X.xe s₃) X.xe s:=by
 refine wpAny_newObj_type ?_
 have hD:H s.heap.objs.size=none:=I.hok.fresh (Nat.le_refl _)
 have I3:Inv X pins σ (upd H s.heap.objs.size (.lst [])) {s with heap:=s.heap.push {cls:=.type "list",dict:=none,data:=.seq ([]:List Value).toArray} }:=I.lnew (its:=[]) (t':=s.toks) .nil (Nat.zero_le _)
 have hfp3:∀b∈fp,acI X pins (upd H s.heap.objs.size (.lst [])) b/\b<(s.heap.push {cls:=.type "list",dict:=none,data:=.seq ([]:List Value).toArray}).objs.size:=fun b hb=>by
  obtain⟨o,ho,_⟩:=T.obj 0 _ st b hb
  have hlt:=Heap.lt_size ho
  obtain⟨f0,f1⟩:=hfp b hb
  exact⟨⟨by rw[aaE (Nat.ne_of_lt hlt)];exact f0,f1⟩,by rw[Heap.size_push];exact Nat.lt_succ_of_lt hlt⟩
 have st3:tn 0 (s.heap.push {cls:=.type "list",dict:=none,data:=.seq ([]:List Value).toArray}):=T.keep _ _ _ st fun b _ o e=>Heap.get?_push_of_some _ e
 obtain⟨W,⟨m0,w0⟩,turn⟩:=q s.heap.objs.size hD
 generalize hs3:({s with heap:=s.heap.push {cls:=.type "list",dict:=none,data:=.seq ([]:List Value).toArray} }:Shared)=s3 at I3 ⊢
 have hh3:s.heap.push {cls:=.type "list",dict:=none,data:=.seq ([]:List Value).toArray}=s3.heap:=by rw[←hs3]
 rw[hh3] at hfp3 st3
 generalize s.heap.objs.size=D at I3 hfp3 w0 turn hD ⊢
 generalize upd H D (.lst [])=H3 at I3 hfp3 w0
 refine wpAny_newFunctionEnv hcl.nocell (by intro y hy;simp at hy) (fun h₁ hns₁ hsb₁=>?_) hcl.kind
 have hkeep:∀b o,s3.heap.get? b=some o->h₁.get? b=some o:=fun b o e=>hsb₁.extBut b o (Nat.ne_of_lt (Heap.lt_size e)) (Heap.get?_push_of_some _ e)
 have J4:Inv (aaI X (x::N') scope cl s3.heap.objs.size fp pins s3 H3) [] (none::aaT js σ) H3 {s3 with heap:=h₁,toks:=s3.toks+([]:List (Str×Value)).length}:=
  anF hcl hN hk hf I3 hfp3 rfl rfl rfl hkeep hns₁
 have st4:tn 0 h₁:=T.keep _ _ _ st3 fun b _ o e=>hkeep b o e
 have cell':∀{s':Shared} {σ':St} {H':Hp},Inv (aaI X (x::N') scope cl s3.heap.objs.size fp pins s3 H3) [] σ' H' s'->Q (.ref D) H'->RR (.ref D) s3.heap.objs.size (.ok .next) s':=fun {s' σ' H'} J hq=>by
  obtain⟨m,hn,_⟩:=J.loc
  refine hRR D _ s' H' m (ap3 I3 (fun b hb=>(hfp3 b hb).1) J) J.free (Nat.ne_of_gt I3.lt) I3.sz (fun y c e z=>?_) (fun p hp z=>?_) hn hq
  ·obtain⟨v,k⟩:=I3.cell y c e
   exact absurd k.lt (by rw[z];exact Nat.lt_irrefl _)
  ·exact absurd (Heap.lt_size (I3.pin p hp).1) (by rw[z];exact Nat.lt_irrefl _)
 have fpX:∀{H':Hp},(∀b∈fp,H' b=none)->∀b∈fp,acI (aaI X (x::N') scope cl s3.heap.objs.size fp pins s3 H3) [] H' b:=fun {H'} hn b hb=>by
  obtain⟨⟨f0,f1,f2,f3,f4,f5⟩,flt⟩:=hfp3 b hb
  refine⟨hn b hb,Nat.ne_of_lt flt,fun z=>?_,.inl hb,fun y c e=>f4 y c (hcl.sub y c e),fun p hp=>?_⟩
  ·rcases List.mem_cons.mp (I3.stkSub b z) with z | z
   ·exact f1 z
   ·exact f2 z
  ·have hp:p∈(X.pn++pins)++[]:=hp
   rw[List.append_nil] at hp
   exact f5 p hp
 have loop:∀s₄:Shared,s₄={s3 with heap:=h₁,toks:=s3.toks+([]:List (Str×Value)).length}->
   codeAny (model X.prog X.w) X.A (.compLoop (.ListComp elt [⟨.Name x px,iter,ifs,0⟩] scope pos) 0 (.ref it) (.ref D) (compEnvC scope cl s3.heap.objs.size X.env)) (RR (.ref D) s3.heap.objs.size) s₄:=by
  rintro s₄ rfl
  refine aiB rfl (fun n s'=>∃i σ0 H',Inv (aaI X (x::N') scope cl s3.heap.objs.size fp pins s3 H3) [] (σ0::aaT js σ) H' s'/\tn i s'.heap/\(∀b∈fp,H' b=none)/\W i n H') ?_ m0 ⟨0,none,H3,J4,st4,fun b hb=>(hfp3 b hb).1.1,w0⟩
  rintro n s5 ⟨i,σ0,H5,J5,st5,fr5,w5⟩
  rcases turn i n H5 w5 with ⟨stop,qn⟩ | ⟨go,step⟩
  ·refine wpAny_mono (T.done (aaI X (x::N') scope cl s3.heap.objs.size fp pins s3 H3) rfl rfl rfl hc i [] s5 _ H5 (fun _ _=>False) J5 (fpX fr5) st5 stop) (fun r s6 ⟨hr,J6⟩=>?_) fun _ _ z=>z.elim
   subst hr
   exact cell' J6 qn
  ·refine wpAny_mono (T.item (aaI X (x::N') scope cl s3.heap.objs.size fp pins s3 H3) rfl rfl rfl hc i [] s5 _ H5 (fun _ _=>False) J5 (fpX fr5) st5 go) (fun r s6 ⟨u,hr,h6⟩=>?_) fun _ _ z=>z.elim
   subst hr
   refine wpAny_mono h6 (fun _ s6' h6'=>?_) fun _ _ z=>z.elim
   obtain⟨v,H6,J6,r6,y6,st6,fr6⟩:=h6'
   clear h6
   have J6':=J6.pinned (fpX fr6) (T.obj _ _ st6)
   show wpAny _ _ (assign (.Name x px) _ u) _ _ _
   refine wpAny_assign_Name (adK (i:=0) J6' hnd rfl (.inl (lookup_relabel_local hx)) r6 (fun s7 J7=>?_) (.inr (lookup_relabel_local hx)))
   have J7:Inv (aaI X (x::N') scope cl s3.heap.objs.size fp pins s3 H3) ([]++aeI fp s6'.heap) (some v::aaT js σ) H6 s7:=J7
   have again:∀{σ8:St} {H8:Hp} {s8:Shared},Inv (aaI X (x::N') scope cl s3.heap.objs.size fp pins s3 H3) ([]++aeI fp s6'.heap) σ8 H8 s8->tn (i+1) s8.heap/\∀b∈fp,H8 b=none:=fun {σ8 H8 s8} J8=>by
    refine⟨T.keep _ _ _ st6 fun b hb o e=>(J8.pin (b,o) (List.mem_append_right _ (List.mem_append_right _ (abI hb e)))).1,fun b hb=>?_⟩
    obtain⟨o,e,d⟩:=T.obj _ _ st6 b hb
    exact (J8.pin (b,o) (List.mem_append_right _ (List.mem_append_right _ (abI hb e)))).2.1
   refine wpAny_mono (ht _ _ _ _ _ _ s7 _ H6 _ J7 (step v H6 y6)) (fun ok s8 ⟨H8,J8,q8⟩=>?_) fun _ _ z=>z.elim
   cases ok with
   |false=>
    obtain⟨m',hm,w8⟩:=(show ∃m',m'<n/\W (i+1) m' H8 from q8)
    obtain⟨a1,a2⟩:=again J8
    exact⟨m',hm,i+1,some v,H8,J8.unpinned,a1,a2,w8⟩
   |true=>
    refine wpAny_mono (he _ _ _ _ _ _ s8 _ H8 _ J8 q8) (fun y s9 ⟨z,H9,J9,r9,ys,hys,hlen,m',hm,w9⟩=>?_) fun _ _ z=>z.elim
    refine wpAny_mono (afL (X:=aaI X (x::N') scope cl s3.heap.objs.size fp pins s3 H3) _ s9 _ H9 (.ref D) [z] (.ref D) [y] (fun _ H10=>H10=upd H9 D (.lst (ys++[z]))) J9 rfl (.cons r9 .nil) ⟨D,ys,z,rfl,rfl,hys,hlen,rfl⟩) (fun _ s10 ⟨_,H10,J10,_,e10⟩=>?_) fun _ _ z=>z.elim
    subst e10
    obtain⟨a1,a2⟩:=again J10
    exact⟨m',hm,i+1,some v,_,J10.unpinned,a1,a2,w9⟩
 exact codeAny_compStart_list (loop _ rfl) (T.self _ 0 _ _ _ st4 (loop _ rfl))
theorem asS{wi:TI}(hcl:Clos X scope cl)(hx:scope.names.lookup x=some .local)(hnd:(x::N').Nodup)(hN:js.map (fun j=>X.N[j]?)=N'.map some)
  (hk:N'.all (fun y=>(X.env.kindOf y==some .cell)||(X.env.kindOf y==some .free))=true) (hf:N'.all (fun y=>scope.names.lookup y==some .free)=true) (hc:X.calm=true)
  (hi:PI X (.Name x px) iter wi)
  (ht:∀(C:Addr) (ex:List Addr) (pins:List (Addr×Obj)) (s:Shared) (H:Hp),PF (aaI X (x::N') scope cl C ex pins s H) ifs tt)
  (he:∀(C:Addr) (ex:List Addr) (pins:List (Addr×Obj)) (s:Shared) (H:Hp),PE (aaI X (x::N') scope cl C ex pins s H) elt te)
  (hs:∀x,foldedSetIterable iter X.env x=pure x:=by intro _;rfl):
  PE X (.ListComp elt [⟨.Name x px,iter,ifs,0⟩] scope pos) (apP wi js tt te):=by
 intro pins s σ H Q I h
 rw[eval_ListComp]
 refine wpAny_comprehension_free (use:=none) rfl hs hcl.is hcl.kind hcl.names (thn (hi pins s σ H _ I h) fun xv s₁ h₁=>thn h₁ fun itv s₂ h₂=>?_)
 obtain⟨it,fp,tn,J,H2,rfl,I2,T,st,hfp,q⟩:=h₂
 refine ahP (RR:=fun acc C=>compPost (model X.prog X.w) X.A X.xe none (EP X pins σ Q) acc C) hcl hx hnd hN hk hf hc ht he I2 T st hfp q ?_
 intro D C s' H' m I' hC0 hCL hCs hCc hCp hn hq
 refine⟨m,hn,fun h' sb=>⟨.ref D,H',?_,rfl,hq⟩⟩
 exact I'.turned (t':=s'.toks) (fun b o hb e=>(sb.2 b hb).trans e) hC0 hCL (.inr hCs) hCc hCp
end
theorem aeK(env:Env):∀(names:List (Str×NameKind)) (acc:List (Str×Addr)),names.all (fun y=>y.2 != .free||(env.cells.lookup y.1).isSome)=true->
  ∃cl:List (Str×Addr),(forIn (m:=Sem) names acc fun x r=>(do
   let (name,kind):=x
   if kind== .free then do let c ←cellOf env name;pure (ForInStep.yield ((name,c)::r)) else pure (ForInStep.yield r)))=(pure cl:Sem _)/\
   (∀y c,cl.lookup y=some c->env.cells.lookup y=some c∨acc.lookup y=some c)/\(∀y,(∃c,acc.lookup y=some c)->∃c,cl.lookup y=some c)/\(∀y,(y,NameKind.free)∈names->∃c,cl.lookup y=some c)
 |[],acc,_=>⟨acc,rfl,fun _ _ h=>.inr h,fun _ h=>h,fun _ h=>nomatch h⟩
 |(n,k)::r,acc,h=>by
  rw[List.all_cons,Bool.and_eq_true] at h
  by_cases hk:k=.free
  ·subst hk
   have h1:(env.cells.lookup n).isSome=true:=by simpa using h.1
   obtain⟨c,hc⟩:=Option.isSome_iff_exists.mp h1
   obtain⟨cl,e,p1,p2,p3⟩:=aeK env r ((n,c)::acc) h.2
   refine⟨cl,?_,fun y c' hy=>?_,fun y hy=>?_,fun y hy=>?_⟩
   ·rw[←e]
    have q:cellOf env n=(pure c:Sem Addr):=by unfold cellOf;rw[hc]
    rw[List.forIn_cons]
    dsimp only
    rw[if_pos (show (NameKind.free==NameKind.free)=true from rfl),q]
    rfl
   ·rcases p1 y c' hy with z | z
    ·exact .inl z
    ·rw[List.lookup_cons] at z
     cases hyn:y==n with
     |true=>
      rw[hyn] at z
      have e1:y=n:=by simpa using hyn
      have e2:c=c':=by simpa using z
      rw[e1,←e2]
      exact .inl hc
     |false=>
      rw[hyn] at z
      exact .inr z
   ·refine p2 y ?_
    rw[List.lookup_cons]
    cases hyn:y==n with
    |true=>exact⟨c,rfl⟩
    |false=>exact hy
   ·rcases List.mem_cons.mp hy with z | z
    ·refine p2 y ⟨c,?_⟩
     have e1:y=n:=(Prod.mk.inj z).1
     rw[e1,List.lookup_cons]
     simp
    ·exact p3 y z
  ·obtain⟨cl,e,p1,p2,p3⟩:=aeK env r acc h.2
   have hk':(k==NameKind.free)=false:=by simpa using hk
   refine⟨cl,?_,p1,p2,fun y hy=>?_⟩
   ·rw[←e]
    rw[List.forIn_cons]
    dsimp only
    rw[if_neg (by rw[hk'];exact Bool.false_ne_true)]
    rfl
   ·rcases List.mem_cons.mp hy with z | z
    ·exact absurd (Prod.mk.inj z).2.symm hk
    ·exact p3 y z
theorem akD{X:Cx}{scope:Scope}(h:scope.names.all (fun y=>y.2 != .free||(X.env.cells.lookup y.1).isSome)=true)(h2:scope.names.all (fun y=>y.2 != .cell)=true)(h3:scope.kind=.function)
  (h4:scope.names.all (fun y=>y.2 != .local||scope.names.lookup y.1==some .local)=true):∃cl,Clos X scope cl:=by
 obtain⟨cl,e,p1,p2,p3⟩:=aeK X.env scope.names [] h
 refine⟨cl,?_,fun y c hy=>?_,fun y hy=>p3 y (PySem.mem_of_lookup hy),fun y hy=>by simpa using List.all_eq_true.mp h2 y hy,h3,fun y hy hl=>?_⟩
 ·unfold closureFor
  exact Eq.trans (congrArg (fun t:Sem (List (Str×Addr))=>t >>=fun r=>(pure r:Sem (List (Str×Addr)))) e) rfl
 ·rcases p1 y c hy with z | z
  ·exact z
  ·simp at z
 ·have q:=List.all_eq_true.mp h4 y hy
  simpa [hl] using q
section
variable{js:List Nat}{σ:St}{tt:TT}{te:TE}{Q:VK}{H1:Hp}
theorem ahQ{lo:Int}{n:Nat}(R:Nat->List V->Prop)(hn:n<=sizeLine)(h0:R 0 [])
  (hs:∀(i:Nat) (l:List V) (D:Addr) (H2:Hp) (E:V->Hp->Prop) (F:Hp->Prop),i<n->R i l->H1 D=none->Same H1 H2->H2 D=some (.lst l)->(∀y H5,Same H2 H5->R (i+1) (l++[y])->E y H5)->(∀H4,Same H2 H4->R (i+1) l->F H4)->
   tt (some (.int (lo+i))::aaT js σ) H2 fun b H4=>if b=true then te (some (.int (lo+i))::aaT js σ) H4 E else F H4)
  (hd:∀(D:Addr) (H2:Hp) (l:List V),R n l->H1 D=none->Same H1 H2->H2 D=some (.lst l)->Q (.ref D) H2):aoL (Itr lo n) js σ tt te Q H1:=by
 intro D hD
 refine⟨fun i m H2=>m=n-i/\i<=n/\Same H1 H2/\∃l,H2 D=some (.lst l)/\l.length<=i/\R i l,⟨n,by simp,Nat.zero_le _,aaB hD _,[],aaA,Nat.le_refl _,h0⟩,?_⟩
 rintro i m H2 ⟨rfl,hi,s2,l,h2,hll,hR⟩
 by_cases hlt:i<n
 ·refine .inr ⟨hlt,fun v H3 y=>?_⟩
  obtain⟨e,ev⟩:=y
  subst e ev
  refine hs i l D _ _ _ hlt hR hD s2 h2 (fun z H5 s5 r5=>?_) (fun H4 s4 r4=>?_)
  ·refine⟨l,s5 _ _ h2,Nat.lt_of_le_of_lt hll (Nat.lt_of_lt_of_le hlt hn),n-(i+1),by omega,rfl,hlt,fun b o hb=>?_,l++[z],aaA,by rw[List.length_append,List.length_singleton];omega,r5⟩
   rw[aaE (aaG hb hD)]
   exact s5 _ _ (s2 _ _ hb)
  ·exact⟨n-(i+1),by omega,rfl,hlt,s2.trans s4,l,s4 _ _ h2,by omega,r4⟩
 ·have e:i=n:=by omega
  subst e
  exact .inl ⟨Nat.le_refl _,hd D H2 l hR hD s2 h2⟩
end
structure E(X:Cx)(e:Expr)(t:TE):Prop where
 h:PE X e t
structure T(X:Cx)(e:Expr)(t:TT):Prop where
 h:PT X e t
structure TW(X:Cx)(e:Expr)(t:TT):Prop where
 h:PW X e t
structure As(X:Cx)(es:List Expr)(t:TA):Prop where
 h:PA X es t
structure S(X:Cx)(st:Stmt)(t:TS):Prop where
 h:PS X st t
structure Ss(X:Cx)(sts:List Stmt)(t:TS):Prop where
 h:PSs X sts t
structure Il(X:Cx)(tg iter:Expr)(wi:TI):Prop where
 h:PI X tg iter wi
structure Gt(X:Cx)(tg:Expr)(t:TG):Prop where
 h:PG X tg t
structure Gts(X:Cx)(ts:List Expr)(t:TGs):Prop where
 h:PGs X ts t
structure Fs(X:Cx)(ifs:List Expr)(t:TT):Prop where
 h:PF X ifs t
structure Op2(X:Cx)(f:Value->Value->Sem Value)(r:R2):Prop where
 h:OpR X f r
structure Op1(X:Cx)(f:Value->Sem Value)(r:V->Hp->VK->Prop):Prop where
 h:UnR X f r
structure Cl1(X:Cx)(f:Value)(r:List V->Hp->VK->Prop):Prop where
 h:ad9 X f r
structure Ixs(X:Cx)(r:R2):Prop where
 h:IxR X r
section
variable{X:Cx}{a b c e:Expr}{pos p:Pos}{ta tb tc te:TE}{t u:TT}{rest es:List Expr}{tA:TA}{op op':CmpOp}{r r':R2}{x:Str}
theorem v_(i:Nat)(hN:X.N[i]? =some x:=by rfl)(hv:Vis X.env.scope x:=by first | exact Or.inl rfl | exact Or.inr (Or.inl rfl) | exact Or.inr (Or.inr rfl))(hd:(x==("__debug__":Str))=false:=by decide)(hcd:(x==("__classdict__":Str))=false:=by decide):
  E X (.Name x pos) (aIB i):=⟨ayH hN hv hd hcd⟩
theorem eI{i j}:E X (.Constant (.int i) j pos) (tC (.int i)):=⟨aqS⟩
theorem eB{k j}:E X (.Constant (.bool k) j pos) (tC (.bl k)):=⟨aI2⟩
theorem eN{j}:E X (.Constant .none j pos) (tC .non):=⟨aCP⟩
theorem eS{z j}:E X (.Constant (.str z) j pos) (tC (.str z)):=⟨ap4⟩
theorem eGl{v:V}{w':Value}(hm:X.mg x=some w')(q:RelV v w')(hg:Gl X x:=by rfl)(hd:(x==("__debug__":Str))=false:=by decide):E X (.Name x pos) (tC v):=⟨atE hg hm q hd⟩
theorem eTy{n:String}(hm:X.mg x=none)(hv:bootBuiltins x=some (.type n))(hg:Gl X x:=by rfl)(hn:x≠"__name__":=by decide)(hd:(x==("__debug__":Str))=false:=by decide):E X (.Name x pos) (tC (.ty n)):=⟨awG hg hm hv rfl hn hd⟩
theorem eOp{o:Operator}(ho:Op2 X (binaryOp o) r)(ha:E X a ta)(hb:E X b tb):E X (.BinOp a o b pos) (tOp r ta tb):=⟨aE9 ho.h ha.h hb.h⟩
theorem eUn{o:UnaryOp}{r1:V->Hp->VK->Prop}(ho:Op1 X (unaryOp o) r1)(ha:E X a ta):E X (.UnaryOp o a pos) (tUn r1 ta):=⟨aED ho.h ha.h⟩
theorem akO(ho:Op2 X (compareOp op) r)(ha:E X a ta)(hb:E X b tb)(hm:behindInMarks op b=false:=by first | exact aqD _ | rfl):E X (.Compare a [op] [b] pos) (tOp r ta tb):=⟨asC ho.h ha.h hb.h hm⟩
theorem tCh(ho:Op2 X (compareOp op) r)(ho':Op2 X (compareOp op') r')(ha:E X a ta)(hb:E X b tb)(hc:E X c tc)(hm:lastMarks [op,op'] [b,c]=false:=by with_unfolding_all rfl):T X (.Compare a [op,op'] [b,c] pos) (anJ (arC r r' ta tb tc)):=⟨arJ ho.h ho'.h ha.h hb.h hc.h hm⟩
theorem ap1{o}(ha:E X a ta):E X (.BoolOp o [a] pos) ta:=⟨aA1 ha.h⟩
theorem aCS(ha:E X a ta)(hb:E X (.BoolOp .And (b::rest) pos) tb):E X (.BoolOp .And (a::b::rest) pos) (axY ta tb):=⟨aC9 ha.h hb.h⟩
theorem eOr(ha:E X a ta)(hb:E X (.BoolOp .Or (b::rest) pos) tb):E X (.BoolOp .Or (a::b::rest) pos) (aIA ta tb):=⟨aEW ha.h hb.h⟩
theorem eNot(ha:E X a ta):E X (.UnaryOp .Not a pos) (axT ta):=⟨ayG ha.h⟩
theorem eIf(hc:T X c t)(ha:E X a ta)(hb:E X b tb):E X (.IfExp c a b pos) (tIf t ta tb):=⟨aq1 hc.h ha.h hb.h⟩
theorem tCm(ho:Op2 X (compareOp op) r)(ha:E X a ta)(hb:E X b tb)(hm:behindInMarks op b=false:=by first | exact aqD _ | rfl):T X (.Compare a [op] [b] pos) (anJ (tOp r ta tb)):=⟨awN ho.h ha.h hb.h hm⟩
theorem tNo(ha:T X a t):T X (.UnaryOp .Not a pos) (aF2 t):=⟨aDN ha.h⟩
theorem tVa(ha:E X e te)(he:∀whole,isTrue e X.env whole=(do let v ←whole;standAt e.pos;holding [v] (truthy v)):=by intro _;rfl):T X e (L2.tB te):=⟨azP ha.h he⟩
theorem afY(ha:T X a t):TW X (.BoolOp .Or [a] pos) t:=⟨azE ha.h⟩
theorem wOr(ha:T X a t)(hb:TW X (.BoolOp .Or (b::rest) pos) u):TW X (.BoolOp .Or (a::b::rest) pos) (tOr t u):=⟨aGT ha.h hb.h⟩
theorem tW(ha:TW X e t):T X e t:=⟨ha.h.pt⟩
theorem aN:As X [] aiO:=⟨adD⟩
theorem aC(ha:E X e te)(hr:As X es tA)(hs:starEach (e::es) X.env=(false,eval e X.env)::starEach es X.env:=by rfl):As X (e::es) (agH te tA):=⟨acB ha.h hr.h hs⟩
theorem axO(is:List Int)(h:es.map amC=is.map some:=by rfl):As X es (axX is):=⟨aoG is h⟩
theorem abC(ha:As X es tA):E X (.List es pos) (aHN tA):=⟨azQ ha.h⟩
theorem aa9{k}(ha:As X es tA):E X (.Tuple es k pos) (aGO tA):=⟨ayR ha.h⟩
theorem eIx(hr:Ixs X r)(ha:E X a ta)(hb:E X b tb)(hs:aoD b:=by intro _ _;rfl):E X (.Subscript a b pos) (tOp r ta tb):=⟨aFY hr.h ha.h hb.h hs⟩
theorem eD{k k':Nat}{ps:List Str}{sp:Sp}(D:Df X.prog X.w X.K X.mg X.base x k ps sp)(hr:Room k' X.A)(ha:As X (e::es) tA)(hk:k<=k':=by decide)(hg:Gl X x:=by rfl)
  (hdb:(x==("__debug__":Str))=false:=by decide) (he:starEach (e::es) X.env=(false,eval e X.env)::starEach es X.env:=by rfl) (hpl:(backTo pos (starEach es X.env)).any (·.1)=false:=by rfl):
  E X (.Call (.Name x p) (e::es) [] pos) (ajE sp [] E0 tA):=⟨aqJ D hr ha.h hk hg hdb he hpl⟩
theorem eCB{id:String}{rc:List V->Hp->VK->Prop}(hc:Cl1 X (.builtin id) rc)(hm:X.mg x=none)(hv:bootBuiltins x=some (.builtin id))(ha:As X (e::es) tA)(hg:Gl X x:=by rfl)(hn:x≠"__name__":=by decide)(hdb:(x==("__debug__":Str))=false:=by decide)
  (he:starEach (e::es) X.env=(false,eval e X.env)::starEach es X.env:=by rfl) (hpl:(backTo pos (starEach es X.env)).any (·.1)=false:=by rfl):E X (.Call (.Name x p) (e::es) [] pos) (tCB rc tA):=⟨aq6 hc.h hg hm hv ha.h hn hdb he hpl⟩
theorem eCT{n:String}{rc:List V->Hp->VK->Prop}(hc:Cl1 X (.type n) rc)(hm:X.mg x=none)(hv:bootBuiltins x=some (.type n))(ha:As X (e::es) tA)(hg:Gl X x:=by rfl)(hn:x≠"__name__":=by decide)(hdb:(x==("__debug__":Str))=false:=by decide)
  (he:starEach (e::es) X.env=(false,eval e X.env)::starEach es X.env:=by rfl) (hpl:(backTo pos (starEach es X.env)).any (·.1)=false:=by rfl):E X (.Call (.Name x p) (e::es) [] pos) (tCB rc tA):=⟨aoQ hc.h hg hm hv ha.h hn hdb he hpl⟩
end
section
variable{X:Cx}
theorem abE:Op2 X (binaryOp .Add) (rI0 fun i j=>.int (i+j)):=⟨aAI⟩
theorem arS:Op2 X (binaryOp .Sub) (rI0 fun i j=>.int (i-j)):=⟨aC3⟩
theorem aj4:Op2 X (binaryOp .Mult) (rI CMul fun i j=>.int (i*j)):=⟨ay3⟩
theorem aI4:Op2 X (binaryOp .FloorDiv) (rI aFX fun i j=>.int (i / j)):=⟨avL⟩
theorem abQ:Op2 X (binaryOp .Mod) (rI (fun _ j=>0<j) fun i j=>.int (i%j)):=⟨az7⟩
theorem azC:Op2 X (binaryOp .Pow) (rI awE fun i j=>.int (i^j.toNat)):=⟨aEA⟩
theorem aCR:Op2 X (binaryOp .LShift) (rI awE fun i j=>.int (i*2^j.toNat)):=⟨aB4⟩
theorem aJF:Op2 X (binaryOp .RShift) (rI (fun _ j=>0<=j) fun i j=>.int (i / 2^j.toNat)):=⟨aDF⟩
theorem aFG:Op2 X (binaryOp .BitAnd) (rI0 fun i j=>.int (Builtin.bitAnd i j)):=⟨aCY⟩
theorem oOr:Op2 X (binaryOp .BitOr) (rI0 fun i j=>.int (Builtin.bitOr i j)):=⟨aFO⟩
theorem ao0:Op2 X (binaryOp .Add) aI7:=⟨aBO⟩
theorem oEq:Op2 X (compareOp .Eq) rEq:=⟨aGD⟩
theorem oNe:Op2 X (compareOp .NotEq) rNe:=⟨aGU⟩
theorem oLt:Op2 X (compareOp .Lt) (rI0 fun i j=>.bl (decide (i<j))):=⟨aFP⟩
theorem oLe:Op2 X (compareOp .LtE) (rI0 fun i j=>.bl (decide (i<=j))):=⟨aE8⟩
theorem oGt:Op2 X (compareOp .Gt) (rI0 fun i j=>.bl (decide (j<i))):=⟨aHY⟩
theorem xL:Ixs X (aEX X.K):=⟨auC⟩
theorem xT:Ixs X (aCD X.K):=⟨aB3⟩
theorem al3:Cl1 X (.builtin "len") (fun xs H Q=>∃p ys,xs=[.ref p]/\(SqL X.K H p ys∨SqT X.K H p ys)/\Q (.int ys.length) H):=⟨akA⟩
theorem cAbs:Cl1 X (.builtin "abs") (fun xs H Q=>∃i,xs=[.int i]/\Q (.int (if i<0 then -i else i)) H):=⟨apV⟩
theorem cMin(hc:X.calm=true:=by rfl):Cl1 X (.builtin "min") (fun xs H Q=>∃i j,xs=[.int i,.int j]/\Q (.int (if j<i then j else i)) H):=⟨apM hc⟩
theorem ay5:Cl1 X (.type "int") (fun xs H Q=>(∃i,xs=[.int i]/\Q (.int i) H)∨∃k,xs=[.bl k]/\Q (.int (if k then 1 else 0)) H):=⟨ao6⟩
end
section
variable{X:Cx}{e c iter tg:Expr}{te:TE}{tt:TT}{tA:TA}{wi:TI}{g:TG}{t u tb:TS}{st:Stmt}{rest body ba bb:List Stmt}{pos pos' p:Pos}{x:Str}{a1 a2:Expr}
theorem ssN:Ss X [] axU:=⟨ar3⟩
theorem ssC(h1:S X st t)(h2:Ss X rest u):Ss X (st::rest) (aE6 t u):=⟨aqL h1.h h2.h⟩
theorem ss1(h1:S X st t):Ss X [st] t:=⟨asF h1.h⟩
theorem aaH(he:E X e te):S X (.Return (some e) pos) (aHD te):=⟨aCQ he.h⟩
theorem sIf(hc:T X c tt)(ha:Ss X ba t)(hb:Ss X bb u):S X (.If c ba bb pos) (aHH tt t u):=⟨aJQ hc.h ha.h hb.h⟩
theorem ao8(he:E X e te)(hs:swapsWith e none pos.line X.env=pure false:=by rfl):S X (.Expr e pos) (axZ te):=⟨asD he.h hs⟩
theorem aaK(i:Nat)(he:E X e te)(hN:X.N.Nodup)(hi:X.N[i]? =some x:=by rfl)(hx:Loc X.env.scope x:=by first | exact Or.inl rfl | exact Or.inr rfl)(hs:swapsWith e (some (.Name x pos')) pos.line X.env=pure false:=by rfl)
  (hf:X.fn x=true∨X.env.scope.names.lookup x=some .local:=by first | exact .inl rfl | exact .inr rfl):S X (.Assign [.Name x pos'] e pos) (aq0 te (abS i)):=⟨ax8 hN hi hx he.h hs hf⟩
theorem gN(i:Nat)(hN:X.N.Nodup)(hi:X.N[i]? =some x:=by rfl)(hx:Loc X.env.scope x:=by first | exact Or.inl rfl | exact Or.inr rfl)(hf:X.fn x=true∨X.env.scope.names.lookup x=some .local:=by first | exact .inl rfl | exact .inr rfl):Gt X (.Name x pos) (abS i):=⟨at3 hN hi hx hf⟩
theorem al6(hi:Il X tg iter wi)(hg:Gt X tg g)(hb:Ss X body tb)(hp:PassesOwn (model X.prog X.w) X.A X.env X.xe)(hc:X.calm=true:=by rfl)(hs:∀x,foldedSetIterable iter X.env x=pure x:=by intro _;rfl):S X (.For tg iter body [] pos) (aJJ wi g tb):=⟨azR hp hc hi.h hg.h hb.h hs⟩
theorem iL(hl:E X e te):Il X tg e (axP X.K te):=⟨asZ hl.h⟩
theorem iR1(hm:X.mg "range"=none)(ha:As X [a1] tA)(hg:Gl X "range":=by rfl)(hs:starEach [a1] X.env=[(false,eval a1 X.env)]:=by rfl):Il X tg (.Call (.Name "range" p) [a1] [] pos) (axW tA):=⟨apA hg hm ha.h hs⟩
end
section
variable{P:Program}{w:World}{K:PySem.W.Frag}{mg:Str->Option Value}{base:Heap}{x:Str}{st:Stmt}{ps N:List Str}{k:Nat}{sp:Sp}
theorem Fn.dfs(F:Fn K mg x st ps)(S':FnScope N ps (aaC st))(len:∀vs H Q E,sp vs H Q E->vs.length=ps.length)
  (hbody:∀(f:Addr) (cdv:Value) (A:Around) (outer:List Env) (s:Shared) (H:Hp) (vs:List V) (Q:VK) (E:XK),Room k (A.deeper (envOfC x (aaC st) s.heap.objs.size f cdv))->sp vs H Q E->
   ∃t,Ss (aaS CX0 P w K mg base N x (aaC st) f cdv A outer s H E).nox (aaP st) t/\t {nx:=fun _ H'=>Q .non H',rt:=Q} (start N vs) H):Df P w K mg base x (k+1) ps sp:=
 F.df S' len fun f cdv A outer s H vs Q E hr h=>by
  obtain⟨t,h1,h2⟩:=hbody f cdv A outer s H vs Q E hr h
  exact⟨t,h1.h,h2⟩
theorem Fun.oks{f:Addr}{fd:FuncData}(F:Fun K x x st f fd)(S':FnScope N ps (aaC st))(len:∀vs H Q E,sp vs H Q E->vs.length=ps.length)
  (hbody:∀(cdv:Value) (A:Around) (outer:List Env) (s:Shared) (H:Hp) (vs:List V) (Q:VK) (E:XK),Room k (A.deeper (envOfC x (aaC st) s.heap.objs.size f cdv))->sp vs H Q E->
   ∃t,Ss (aaS CX0 P w K mg base N x (aaC st) f cdv A outer s H E).nox (aaP st) t/\t {nx:=fun _ H'=>Q .non H',rt:=Q} (start N vs) H):FnOk P w K mg base CX0 (k+1) f fd ps sp:=
 F.ok S' len fun cdv A outer s H vs Q E hr h=>by
  obtain⟨t,h1,h2⟩:=hbody cdv A outer s H vs Q E hr h
  exact⟨t,h1.h,h2⟩
end
end L2
namespace L2
open PySem PySem.Spec PyProof.Rows PySem.SeqAt
theorem ae7:∀{is:List Int} {us:List Value},Vals (is.map V.int) us->IntsAre us is
 |[],_,.nil=>.nil
 |_::_,_,.cons ⟨_,rfl⟩ r=>.cons _ _ (ae7 r)
section
variable{X:Cx}
theorem ao7(hc:X.calm=true):ad9 X (.builtin "sum") (fun xs H Q=>∃(p:Addr) (is:List Int),xs=[.ref p]/\SqL X.K H p (is.map V.int)/\Q (.int is.sum) H):=by
 intro pins s σ H xs us Q I r h
 obtain⟨p,is,rfl,hq,q⟩:=h
 obtain⟨u,rfl,r1⟩:=abL r
 cases r1
 obtain⟨its,rv,pl,hz⟩:=I.list hq
 have hi:=ae7 rv
 obtain⟨ys,hy⟩:=hi.allInts.items
 have hl:s.heap.IsList p (intItems ys):=by rw[←hy];exact pl.isList
 refine sum_intListG (I.ok.hd hc) hl fun h' tk t' hk=>?_
 have e1:is=ys.toList.map (·.1):=by
  rw[←nums_intItems,←hy]
  exact hi.numsOf.symm
 have e2:preSum (numAt ys) ys.size=is.sum:=by
  rw[preSum_eq,List.take_of_length_le (by simp),e1]
 rw[e2]
 exact⟨.int is.sum,H,I.kept hk,⟨_,rfl⟩,q⟩
end
section
variable{X:Cx}{elt iter:Expr}{x y:Str}{px py pos spos:Pos}{ifs:List Expr}{scope:Scope}{wi:TI}{tt:TT}{te:TE}
theorem ag9(N':List Str)(js:List Nat)(hi:Il X (.Name x px) iter wi)
  (ht:∀(cl:List (Str×Addr)) (C:Addr) (ex:List Addr) (pins:List (Addr×Obj)) (s:Shared) (H:Hp),Fs (aaI X (x::N') scope cl C ex pins s H) ifs tt)
  (he:∀(cl:List (Str×Addr)) (C:Addr) (ex:List Addr) (pins:List (Addr×Obj)) (s:Shared) (H:Hp),E (aaI X (x::N') scope cl C ex pins s H) elt te)
  (hcl:∃cl,Clos X scope cl:=by exact akD rfl rfl rfl rfl) (hx:scope.names.lookup x=some .local:=by rfl) (hnd:(x::N').Nodup:=by decide +kernel) (hN:js.map (fun j=>X.N[j]?)=N'.map some:=by rfl)
  (hk:N'.all (fun y=>(X.env.kindOf y==some .cell)||(X.env.kindOf y==some .free))=true:=by rfl) (hf:N'.all (fun y=>scope.names.lookup y==some .free)=true:=by rfl) (hc:X.calm=true:=by rfl)
  (hs:∀x,foldedSetIterable iter X.env x=pure x:=by intro _;rfl):E X (.ListComp elt [⟨.Name x px,iter,ifs,0⟩] scope pos) (apP wi js tt te):=by
 obtain⟨cl,hcl⟩:=hcl
 exact⟨asS hcl hx hnd hN hk hf hc hi.h (fun C ex pins s H=>(ht cl C ex pins s H).h) (fun C ex pins s H=>(he cl C ex pins s H).h) hs⟩
theorem aI9(i:Nat)(N':List Str)(js:List Nat)(hi:Il X (.Name x px) iter wi)
  (ht:∀(cl:List (Str×Addr)) (C:Addr) (ex:List Addr) (pins:List (Addr×Obj)) (s:Shared) (H:Hp),Fs (aaI X (x::N') scope cl C ex pins s H) ifs tt)
  (he:∀(cl:List (Str×Addr)) (C:Addr) (ex:List Addr) (pins:List (Addr×Obj)) (s:Shared) (H:Hp),E (aaI X (x::N') scope cl C ex pins s H) elt te)
  (hXN:X.N.Nodup) (hsw:swapsWith (.ListComp elt [⟨.Name x px,iter,ifs,0⟩] scope pos) (some (.Name y py)) spos.line X.env=pure true:=by rfl)
  (hiN:X.N[i]? =some y:=by rfl) (hy:X.env.scope.names.lookup y=some .local:=by rfl)
  (hcl:∃cl,Clos X scope cl:=by exact akD rfl rfl rfl rfl) (hx:scope.names.lookup x=some .local:=by rfl) (hnd:(x::N').Nodup:=by decide +kernel) (hN:js.map (fun j=>X.N[j]?)=N'.map some:=by rfl)
  (hk:N'.all (fun y=>(X.env.kindOf y==some .cell)||(X.env.kindOf y==some .free))=true:=by rfl) (hf:N'.all (fun y=>scope.names.lookup y==some .free)=true:=by rfl) (hc:X.calm=true:=by rfl)
  (hs:∀x,foldedSetIterable iter X.env x=pure x:=by intro _;rfl):S X (.Assign [.Name y py] (.ListComp elt [⟨.Name x px,iter,ifs,0⟩] scope pos) spos) (aq0 (apP wi js tt te) (abS i)):=by
 obtain⟨cl,hcl⟩:=hcl
 refine⟨fun pins s σ H D I h=>?_⟩
 rw[exec_Assign_Name_used _ _ _ _ hsw]
 refine wpAny_bind (wpAny_standAt (wpAny_bind ?_))
 show wpAny _ X.A (do let _ ←comprehension (.ListComp elt [⟨.Name x px,iter,ifs,0⟩] scope pos) scope X.env _ (newList []) false (eval iter X.env) (some (assign (.Name y py) X.env))) _ _ s
 refine wpAny_bind (wpAny_mono (wpAny_comprehension_free (use:=some (assign (.Name y py) X.env)) (Q:=fun _ s'=>SP X pins D .next s') rfl hs hcl.is hcl.kind hcl.names ?_) (fun _ s' hq=>wpAny_pure (wpAny_pure hq)) fun _ _ z=>z)
 refine thn (hi.h pins s σ H _ I h) fun xv s₁ h₁=>thn h₁ fun itv s₂ h₂=>?_
 obtain⟨it,fp,tn,J,H2,rfl,I2,T,st,hfp,q⟩:=h₂
 refine ahP (Q:=fun v H'=>D.nx (σ.set i (some v)) H') (RR:=fun acc C=>compPost (model X.prog X.w) X.A X.xe (some (assign (.Name y py) X.env)) (fun _ s'=>SP X pins D .next s') acc C) hcl hx hnd hN hk hf hc (fun C ex pins s H=>(ht cl C ex pins s H).h) (fun C ex pins s H=>(he cl C ex pins s H).h) I2 T st hfp q ?_
 intro D' C s' H' m I' hC0 hCL hCs hCc hCp hn hq
 show wpAny _ _ (assign (.Name y py) X.env (.ref D')) _ _ s'
 refine wpAny_assign_Name (ajF I' hXN hiN (.inl hy) (v:=.ref D') rfl (fun s3 I3 sb3=>?_) (.inr hy))
 obtain⟨a3,sb3,e3⟩:=sb3
 have hCa:C≠a3:=by
  rcases e3 with e3 | e3
  ·rw[e3];exact hCL
  ·exact fun z=>hCc y a3 e3 z.symm
 refine⟨m,hn.sameBut sb3 hCa,fun h' sb=>⟨σ.set i (some (.ref D')),H',?_,hq⟩⟩
 exact I3.turned (t':=s3.toks) (fun b o hb e=>(sb.2 b hb).trans e) hC0 hCL (.inr hCs) hCc hCp
theorem fsN:Fs X [] aFR:=⟨ayC⟩
theorem fs1{c:Expr}(h:T X c tt):Fs X [c] tt:=⟨aAW h.h⟩
theorem cSum(hc:X.calm=true:=by rfl):Cl1 X (.builtin "sum") (fun xs H Q=>∃(p:Addr) (is:List Int),xs=[.ref p]/\SqL X.K H p (is.map V.int)/\Q (.int is.sum) H):=⟨ao7 hc⟩
theorem gTu{es:List Expr}{k n:Nat}{t:TGs}(h:Gts X es t)(hc:X.calm=true:=by rfl)(hn:(assignEach es X.env).length=n:=by rfl)(hst:(assignEach es X.env).findIdx? (·.1)=none:=by rfl):Gt X (.Tuple es k pos) (arP X.K n t):=⟨aBG hc h.h hn hst⟩
theorem gsN:Gts X [] atU:=⟨as1⟩
theorem gsC{e:Expr}{es:List Expr}{t:TG}{u:TGs}(h1:Gt X e t)(h2:Gts X es u)(hs:(assignEach (e::es) X.env).map (·.2)=assign e X.env::(assignEach es X.env).map (·.2):=by rfl):Gts X (e::es) (ajA t u):=⟨aqA h1.h h2.h hs⟩
theorem ahK{tg e:Expr}{g:TG}(he:E X e te)(hg:Gt X tg g)(hs:swapsWithSole [tg] e pos.line X.env=pure false:=by rfl)(hw:swappedStores [tg] e X.env=pure none:=by rfl)
  (h1:(assignEach [tg] X.env).map (·.2)=[assign tg X.env]:=by rfl):S X (.Assign [tg] e pos) (aq0 te g):=⟨aCO he.h hg.h hs hw h1⟩
end
section
variable{js:List Nat}{σ:St}{tt:TT}{te:TE}{Q:VK}{H1:Hp}
theorem acP{K:PySem.W.Frag}{a:Addr}{xs:List V}(R:Nat->List V->Prop)(hn:xs.length<=sizeLine)(h0:R 0 [])(hq:SqL K H1 a xs)
  (hs:∀(i:Nat) (v:V) (l:List V) (D:Addr) (H2:Hp) (E:V->Hp->Prop) (F:Hp->Prop),xs[i]? =some v->R i l->H1 D=none->Same H1 H2->H2 D=some (.lst l)->(∀y H5,Same H2 H5->R (i+1) (l++[y])->E y H5)->(∀H4,Same H2 H4->R (i+1) l->F H4)->
   tt (some v::aaT js σ) H2 fun b H4=>if b=true then te (some v::aaT js σ) H4 E else F H4)
  (hd:∀(D:Addr) (H2:Hp) (l:List V),R xs.length l->H1 D=none->Same H1 H2->H2 D=some (.lst l)->Q (.ref D) H2):aoL (Itl K a) js σ tt te Q H1:=by
 intro D hD
 refine⟨fun i m H2=>m=xs.length-i/\i<=xs.length/\Same H1 H2/\∃l,H2 D=some (.lst l)/\l.length<=i/\R i l,⟨xs.length,by simp,Nat.zero_le _,aaB hD _,[],aaA,Nat.le_refl _,h0⟩,?_⟩
 rintro i m H2 ⟨rfl,hi,s2,l,h2,hll,hR⟩
 by_cases hlt:i<xs.length
 ·refine .inr ⟨⟨xs,xs[i],s2.seq hq,by simp[hlt]⟩,fun v H3 y=>?_⟩
  obtain⟨e,ev⟩:=y
  subst e
  have hv:=ev xs (s2.seq hq)
  refine hs i v l D _ _ _ hv hR hD s2 h2 (fun z H5 s5 r5=>?_) (fun H4 s4 r4=>?_)
  ·refine⟨l,s5 _ _ h2,Nat.lt_of_le_of_lt hll (Nat.lt_of_lt_of_le hlt hn),xs.length-(i+1),by omega,rfl,hlt,fun b o hb=>?_,l++[z],aaA,by rw[List.length_append,List.length_singleton];omega,r5⟩
   rw[aaE (aaG hb hD)]
   exact s5 _ _ (s2 _ _ hb)
  ·exact⟨xs.length-(i+1),by omega,rfl,hlt,s2.trans s4,l,s4 _ _ h2,by omega,r4⟩
 ·have e:i=xs.length:=by omega
  subst e
  exact .inl ⟨⟨xs,s2.seq hq,Nat.le_refl _⟩,hd D H2 l hR hD s2 h2⟩
def IntsR(i:Nat)(l:List V):Prop:=∃zs:List Int,l=zs.map V.int/\zs.length<=i
theorem IntsR.nil:IntsR 0 []:=⟨[],rfl,Nat.le_refl _⟩
theorem Same.tup{K:PySem.W.Frag}{H H':Hp}{a:Addr}{xs:List V}(e:Same H H')(h:SqT K H a xs):SqT K H' a xs:=by
 rcases h with (h | ⟨o,h⟩) | h
 ·exact .inl (.inl (e _ _ h))
 ·exact .inl (.inr ⟨o,e _ _ h⟩)
 ·exact .inr h
theorem at7{X:Cx}:Op1 X (unaryOp .USub) (rU fun i=>.int (-i)):=⟨aAN⟩
end
section
variable{prog:Program}{w:World}{A:Around}{E:Value->Shared->Prop}{s:Shared}
theorem axS{it l:Addr}{its:Array Value}(hne:l≠it):∀(n i:Nat) (s:Shared) (Q:List Value->Shared->Prop),s.heap.IsListIter it l i->s.heap.IsList l its->i+n<=its.size->
  (∀h',h'.IsListIter it l (i+n)->Heap.SameBut it s.heap h'->Q ((its.toList.drop i).take n) {s with heap:=h'})->wpAny (model prog w) A (draw (.ref it) n) Q E s
 |0,i,s,Q,hit,_,_,hQ=>by
  have z:wpAny (model prog w) A (pure ([]:List Value)) Q E s:=wpAny_pure (by simpa using hQ s.heap hit (Heap.SameBut.refl ..))
  exact z
 |n+1,i,s,Q,hit,hl,hle,hQ=>by
  have hi:i<its.size:=by omega
  have z:wpAny (model prog w) A (pyNext (.ref it)) (fun r s₁=>wpAny (model prog w) A (match r with | none=>pure [] | some v=>(do let rest ←holding [v] (draw (.ref it) n);pure (v::rest))) Q E s₁) E s:=by
   refine wpAny_pyNext_list_item hit hl (x:=its[i]) (by simp[hi]) fun h₁ hit₁ hs₁=>?_
   refine wpAny_bind (wpAny_holding (axS hne n (i+1) _ _ hit₁ (hl.extBut hs₁.extBut hne) (by omega) fun h₂ hit₂ hs₂=>wpAny_pure ?_))
   have hd:its.toList.drop i=its[i]::its.toList.drop (i+1):=by simp[List.drop_eq_getElem_cons,hi]
   have e:i+(n+1)=i+1+n:=by omega
   have q:=hQ h₂ (by rw[e];exact hit₂) (hs₁.trans hs₂)
   rw[hd,List.take_succ_cons] at q
   exact q
  exact wpAny_bind z
theorem awY{l:Addr}{its:Array Value}{Q:List Value->Shared->Prop}(hh:A.handled=none)(hl:s.heap.IsList l its)(hQ:∀h',Heap.ExtBut s.heap.objs.size s.heap h'->Q its.toList {s with heap:=h'}):
  wpAny (model prog w) A (unpackItems (.ref l) its.size none) Q E s:=by
 have hne:l≠s.heap.objs.size:=by
  obtain⟨o,ho,_⟩:=hl
  exact Nat.ne_of_lt (Heap.lt_size ho)
 unfold unpackItems
 refine wpAny_bind ?_
 unfold notIterableAtAll
 refine wpAny_bind (wpAny_specialOf hl.typeIs slot_list_iter.lookup (wpAny_pure ?_))
 simp only[Bool.false_eq_true,if_false]
 refine wpAny_bind (wpAny_holding (wpAny_pyIter_list hl (wpAny_bind (wpAny_holding (axS hne its.size 0 _ _ ⟨_,Heap.get?_push_size _ rfl,rfl,rfl⟩ (hl.push _) (by omega) fun h₁ hit₁ hs₁=>?_)))))
 have all:List.take its.size (List.drop 0 its.toList)=its.toList:=by
  rw[List.drop_zero]
  exact List.take_of_length_le (by simp)
 rw[all,if_neg (by simp)]
 have hl₁:h₁.IsList l its:=(hl.push _).extBut hs₁.extBut hne
 refine wpAny_bind (wpAny_holding (wpAny_pyNext_list_end hh hit₁ hl₁ (by simp) fun h₂ he₂=>?_))
 simp only[Option.isSome_none,Bool.false_eq_true,if_false]
 exact wpAny_pure (hQ h₂ fun b o hb e=>he₂ b o hb (hs₁.extBut b o hb (Heap.get?_push_of_some _ e)))
end
def aFB(K:PySem.W.Frag)(n:Nat)(t:TGs):TG:=fun v σ H Q=>∃a xs,v=.ref a/\SqL K H a xs/\xs.length=n/\t xs σ H Q
section
variable{X:Cx}{pos:Pos}
theorem aEN{es:List Expr}{k n:Nat}{t:TGs}(h:Gts X es t)(hc:X.calm=true:=by rfl)(hn:(assignEach es X.env).length=n:=by rfl)(hst:(assignEach es X.env).findIdx? (·.1)=none:=by rfl):Gt X (.Tuple es k pos) (aFB X.K n t):=by
 refine⟨fun pins s σ H v u Q I r hw=>?_⟩
 obtain⟨a,xs,e1,hq,hl,hw⟩:=hw
 subst e1
 cases r
 obtain⟨its,rv,pl,hz⟩:=I.list hq
 rw[assign_Tuple]
 refine wpAny_bind (wpAny_standAt ?_)
 unfold unpack
 have e2:(assignEach es X.env).length=its.toArray.size:=by rw[hn,←hl,rv.length,List.size_toArray]
 rw[e2,hst]
 refine wpAny_bind (wpAny_holding (awY (I.ok.hd hc) pl.isList fun h' hx=>?_))
 have I1:Inv X pins σ H {s with heap:=h'}:=I.kept (t':=s.toks) fun b o e=>hx b o (Nat.ne_of_lt (Heap.lt_size e)) e
 exact h.h pins _ σ H xs _ Q I1 (by simpa using rv) hw
theorem apG{o e:Expr}{to te:TE}{apos cpos:Pos}(ho:E X o to)(he:E X e te)(hbase:attributeBase o "append" X.env (eval o X.env)=eval o X.env:=by rfl)
  (hfew:((backTo cpos (starEach [e] X.env)).all (fun x=> !x.1)&&(backToKw cpos (keywordEach [] X.env)).all (fun x=>x.1.isSome)&&decide (([e]:List Expr).length+([]:List Keyword).length+(if ([]:List Keyword).isEmpty then 0 else 1)<30))=true:=by rfl)
  (hline:(apos.endLine==cpos.line)=true:=by rfl) (hs:starEach [e] X.env=(false,eval e X.env)::starEach [] X.env:=by rfl) (hplain:(backTo cpos (starEach [] X.env)).any (·.1)=false:=by rfl):
  E X (.Call (.Attribute o "append" apos) [e] [] cpos) (tBM X.K "list" an9 to (agH te aiO)):=
 ⟨al5 PySem.F.plainAttrs_list PySem.F.slot_list_append PySem.F.type_list_append afL ho.h (acB he.h adD hs) hbase hfew hline hs hplain⟩
end
section
variable{js:List Nat}{σ:St}{tt:TT}{te:TE}{Q:VK}{H1:Hp}
end
def Digs(ds ss:List Int):Prop:=Paired (fun d z:Int=>0<=d/\d<z) ds ss
theorem Digs.snoc{ds ss:List Int}{d z:Int}(h:Digs ds ss)(h0:0<=d)(h1:d<z):Digs (ds++[d]) (ss++[z]):=Paired.snoc h ⟨h0,h1⟩
theorem Digs.len{ds ss:List Int}(h:Digs ds ss):ds.length=ss.length:=Paired.length h
theorem Digs.two{ds:List Int}{a b:Int}(h:Digs ds [a,b]):∃x y:Int,ds=[x,y]/\(0<=x/\x<a)/\0<=y/\y<b:=by
 cases h with
 |cons h1 r=>cases r with | cons h2 r=>cases r;exact⟨_,_,rfl,h1,h2⟩
theorem abH{H H2:Hp}{p:Addr}{o:HO}(hn:H p=none)(s:Same H H2):Same H (upd H2 p o):=fun b u h=>by
 rw[aaE (aaG h hn)]
 exact s b u h
theorem aH7{a m b:Int}(h0:0<m)(h1:m<=18446744073709551616):CMul (a%m) b:=.inl ⟨Int.lt_of_lt_of_le (by decide) (Int.emod_nonneg a (Int.ne_of_gt h0)),Int.lt_of_lt_of_le (Int.emod_lt_of_pos a h0) h1⟩
theorem aJN:(10:Int)^(18:Int).toNat=1000000000000000000:=by decide +kernel
structure FnM(K:PySem.W.Frag)(C:Addr)(m qual:Str)(st:Stmt)(ps:List Str):Prop where
 ex:∃(f:Addr) (fd:FuncData),Fun K m qual st f fd/\Binds K fd ps []/\Meth K C m f
structure DfM(P:Program)(w:World)(K:PySem.W.Frag)(mg:Str->Option Value)(base:Heap)(C:Addr)(m:Str)(k:Nat)(ps:List Str)(sp:Sp):Prop where
 ex:∃(f:Addr) (fd:FuncData),FnOk P w K mg base CX0 k f fd ps sp/\Binds K fd ps []/\Meth K C m f
structure Cd(K:PySem.W.Frag)(mg:Str->Option Value)(x:Str)(C:Addr):Prop where
 at_:mg x=some (.ref C)
 cl:Cls K C
 makes:PySem.W.makesIn K C=true
 kp:PySem.W.keepIn K (.ref C)=true
section
variable{P:Program}{w:World}{K:PySem.W.Frag}{mg:Str->Option Value}{base:Heap}{m qual:Str}{st:Stmt}{ps N:List Str}{k:Nat}{sp:Sp}{C:Addr}
theorem FnM.dfs(F:FnM K C m qual st ps)(S':FnScope N ps (aaC st))(len:∀vs H Q E,sp vs H Q E->vs.length=ps.length)
  (hbody:∀(f:Addr) (cdv:Value) (A:Around) (outer:List Env) (s:Shared) (H:Hp) (vs:List V) (Q:VK) (E:XK),Room k (A.deeper (envOfC qual (aaC st) s.heap.objs.size f cdv))->sp vs H Q E->
   ∃t,Ss (aaS CX0 P w K mg base N qual (aaC st) f cdv A outer s H E).nox (aaP st) t/\t {nx:=fun _ H'=>Q .non H',rt:=Q} (start N vs) H):DfM P w K mg base C m (k+1) ps sp:=by
 obtain⟨f,fd,F1,hb,hm⟩:=F.ex
 refine⟨⟨f,fd,F1.ok S' len fun cdv A outer s H vs Q E hr h=>?_,hb,hm⟩⟩
 obtain⟨t,h1,h2⟩:=hbody f cdv A outer s H vs Q E hr h
 exact⟨t,h1.h,h2⟩
theorem adF{f:Addr}{oc:Value}{od an:Option Addr}{osl:Array (Option Value)}{kV doc pm cdv ct:Value}
  (a:PySem.W.findIn K (.ref C) m=some (some (.ref f))) (i:PySem.W.isFn K (.ref f)=true) (l:K.lookup f=some ⟨oc,od,.func (PySem.W.fnOf m qual (abA st) (aaP st) (aaC st) .none kV doc pm an cdv ct),osl⟩)
  (c:PySem.W.codeIn K cdv qual=true) (k:PySem.W.keepIn K (.ref f)=true)
  (hb:∀(kV doc pm:Value) (an:Option Addr) (cdv ct:Value) (us:List Value),us.length=ps.length->bindArgs (PySem.W.fnOf m qual (abA st) (aaP st) (aaC st) .none kV doc pm an cdv ct) ⟨us,[]⟩=pure (ps.zip us)):FnM K C m qual st ps:=by
 have F:=anE (st:=st) l c k
 exact⟨⟨f,_,F,F.binds (ps:=ps) hb,⟨a,i,k⟩⟩⟩
end
section
variable{X:Cx}{x m:Str}{C:Addr}{k k':Nat}{ps:List Str}{sp:Sp}{e o value:Expr}{es:List Expr}{ta tv:TE}{t:TA}{p pos apos pos':Pos}{f:Str}
theorem eMk(c:Cd X.K X.mg x C)(D:DfM X.prog X.w X.K X.mg X.base C "__init__" k ps sp)(hr:Room k' X.A)(ha:As X (e::es) t)(hk:k+1<=k':=by decide)(hg:Gl X x:=by rfl)(hdb:(x==("__debug__":Str))=false:=by decide)
  (he:starEach (e::es) X.env=(false,eval e X.env)::starEach es X.env:=by rfl) (hpl:(backTo pos (starEach es X.env)).any (·.1)=false:=by rfl):E X (.Call (.Name x p) (e::es) [] pos) (anS C sp [] E0 t):=by
 obtain⟨f,fd,F,hb,hm⟩:=D.ex
 exact⟨auA ⟨c.makes,hm.at_,hm.fn,c.kp⟩ F (hr.mono hk) hg c.at_ hb .nil anL ha.h hdb he hpl⟩
theorem eFl(he:E X e ta)(hb:attributeBase e f X.env (eval e X.env)=eval e X.env:=by rfl):E X (.Attribute e f pos) (aJW X.K ta f):=⟨aCV he.h hb⟩
theorem sFl(ha:E X o ta)(hv:E X value tv)(hs:swapsWith value (some (.Attribute o f pos')) pos.line X.env=pure false:=by rfl):S X (.Assign [.Attribute o f pos'] value pos) (aGQ X.K ta tv f):=⟨azS ha.h hv.h hs⟩
def tMkN(C:Addr):TE:=fun _ H Q=>∀x dx,H x=none->H dx=none->dx≠x->Q (.ref x) (upd (upd H dx (.own x)) x (.ins C dx []))
theorem eMkN(c:Cd X.K X.mg x C)(hi:PySem.W.findIn X.K (.ref C) "__init__"=some (some (.builtin "object.__init__")))(hg:Gl X x:=by rfl)(hdb:(x==("__debug__":Str))=false:=by decide):E X (.Call (.Name x p) [] [] pos) (tMkN C):=by
 refine⟨fun pins s σ H Q I h=>?_⟩
 refine wpAny_Call_Name_kw (abG I hg c.at_ ?_ hdb)
 refine PySem.W.callWith_K0 I.kIn c.kp (wpAny_call ?_)
 have hq:=h (s.heap.objs.size+1) s.heap.objs.size (I.hok.fresh (Nat.le_succ _)) (I.hok.fresh (Nat.le_refl _)) (Nat.ne_of_lt (Nat.lt_succ_self _))
 have I2:=Inv.made (C:=C) I
 have e2:((s.heap.push PySem.W.emptyDict).push (PySem.W.instObj C s.heap.objs.size)).get? (s.heap.objs.size+1)=some (PySem.W.instObj C s.heap.objs.size):=by
  have:=Heap.get?_push_size (s.heap.push PySem.W.emptyDict) (o:=PySem.W.instObj C s.heap.objs.size) rfl
  rwa [Heap.size_push] at this
 have Y:=PySem.W.makes_of (M:=model X.prog X.w) I.kIn c.makes
 refine aoS I.kIn c.makes hi (fun self=>PySem.W.Looks.of_pure (PySem.W.oi_bind self)) ?_
 have t1:PySem.W.Looks (model X.prog X.w) ((s.heap.push PySem.W.emptyDict).push (PySem.W.instObj C s.heap.objs.size)) (typeOf (.ref (s.heap.objs.size+1))) (.ref C):=(PySem.W.Looks.ld e2).andThen .now
 have t2:PySem.W.Looks (model X.prog X.w) ((s.heap.push PySem.W.emptyDict).push (PySem.W.instObj C s.heap.objs.size)) (isInstance (.ref (s.heap.objs.size+1)) (.type "object")) true:=t1.andThen (Y.top.keeps fun b o q=>Heap.get?_push_of_some _ (Heap.get?_push_of_some _ q))
 refine codeAny_call_builtin PySem.W.oi_plain PySem.W.entry_oi (@PySem.W.check_slot (model X.prog X.w) _ _ _ "object.__init__" "object" "__init__" (.ref (s.heap.objs.size+1)) [] [] _ PySem.W.oi_kind PySem.W.oi_split t2 (PySem.W.oi_args (.ref (s.heap.objs.size+1))) ?_)
 rw[PySem.W.oi_run]
 exact wpAny_pure (And.intro rfl ⟨V.ref (s.heap.objs.size+1),_,I2,rfl,hq⟩)
end
structure Po(X:Cx)(o:Option Expr)(t:TO):Prop where
 h:PO X o t
structure Sls(X:Cx)(r:V->Option Int->Option Int->Hp->VK->Prop):Prop where
 h:SlR X r
section
variable{X:Cx}{e:Expr}{te:TE}{lo hi:Option Expr}{tl th:TO}{pos p2:Pos}
theorem poN:Po X none an0:=⟨asL⟩
theorem poS(h:E X e te):Po X (some e) (axM te):=⟨asR h.h⟩
theorem slL:Sls X (aEC X.K):=⟨av5⟩
theorem eSl{r:V->Option Int->Option Int->Hp->VK->Prop}(hr:Sls X r)(he:E X e te)(hl:Po X lo tl)(hu:Po X hi th):E X (.Subscript e (.Slice lo hi none p2) pos) (tSl r te tl th):=⟨apX hr.h he.h hl.h hu.h⟩
end
structure FunD(K:PySem.W.Frag)(x qual:Str)(st:Stmt)(f:Addr)(fd:FuncData):Prop where
 ex:∃(oc:Value) (od:Option Addr) (dV kV doc pm:Value) (an:Option Addr) (cdv ct:Value) (osl:Array (Option Value)),
  fd=PySem.W.fnOf x qual (abA st) (aaP st) (aaC st) dV kV doc pm an cdv ct/\K.lookup f=some ⟨oc,od,.func fd,osl⟩/\PySem.W.codeIn K cdv qual=true
 kp:PySem.W.keepIn K (.ref f)=true
structure FnMD(K:PySem.W.Frag)(C:Addr)(m qual:Str)(st:Stmt)(ps:List Str)(dvs:List V):Prop where
 ex:∃(f:Addr) (fd:FuncData) (ds:List Value),FunD K m qual st f fd/\Binds K fd ps []/\Vals dvs ds/\Binds K fd ps ds/\Meth K C m f
structure DfMD(P:Program)(w:World)(K:PySem.W.Frag)(mg:Str->Option Value)(base:Heap)(C:Addr)(m:Str)(k:Nat)(ps:List Str)(sp:Sp)(dvs:List V):Prop where
 ex:∃(f:Addr) (fd:FuncData) (ds:List Value),FnOk P w K mg base CX0 k f fd ps sp/\Binds K fd ps []/\Vals dvs ds/\Binds K fd ps ds/\Meth K C m f
section
variable{P:Program}{w:World}{K:PySem.W.Frag}{mg:Str->Option Value}{base:Heap}{m qual:Str}{st:Stmt}{ps N:List Str}{k:Nat}{sp:Sp}{C:Addr}{dvs:List V}
theorem DfMD.dfm(D:DfMD P w K mg base C m k ps sp dvs):DfM P w K mg base C m k ps sp:=by
 obtain⟨f,fd,ds,a,b,_,_,e⟩:=D.ex
 exact⟨⟨f,fd,a,b,e⟩⟩
theorem FnMD.dfs(F:FnMD K C m qual st ps dvs)(S':FnScope N ps (aaC st))(len:∀vs H Q E,sp vs H Q E->vs.length=ps.length)
  (hbody:∀(f:Addr) (cdv:Value) (A:Around) (outer:List Env) (s:Shared) (H:Hp) (vs:List V) (Q:VK) (E:XK),Room k (A.deeper (envOfC qual (aaC st) s.heap.objs.size f cdv))->sp vs H Q E->
   ∃t,Ss (aaS CX0 P w K mg base N qual (aaC st) f cdv A outer s H E).nox (aaP st) t/\t {nx:=fun _ H'=>Q .non H',rt:=Q} (start N vs) H):DfMD P w K mg base C m (k+1) ps sp dvs:=by
 obtain⟨f,fd,ds,F1,hb,hv,hbd,hm⟩:=F.ex
 refine⟨⟨f,fd,ds,?_,hb,hv,hbd,hm⟩⟩
 obtain⟨oc,od,dV,kV,doc,pm,an,cdv,ct,osl,rfl,lk,hcd⟩:=F1.ex
 refine ap9 lk hcd S' len fun A outer s H vs Q E hr hsp=>?_
 obtain⟨t,h,q⟩:=hbody f cdv A outer s H vs Q E hr hsp
 exact⟨t,h.h.nox,q⟩
theorem au1{f:Addr}{oc:Value}{od an:Option Addr}{osl:Array (Option Value)}{dV kV doc pm cdv ct:Value}{ds:List Value}
  (a:PySem.W.findIn K (.ref C) m=some (some (.ref f))) (i:PySem.W.isFn K (.ref f)=true) (l:K.lookup f=some ⟨oc,od,.func (PySem.W.fnOf m qual (abA st) (aaP st) (aaC st) dV kV doc pm an cdv ct),osl⟩)
  (c:PySem.W.codeIn K cdv qual=true) (k:PySem.W.keepIn K (.ref f)=true)
  (hb:Binds K (PySem.W.fnOf m qual (abA st) (aaP st) (aaC st) dV kV doc pm an cdv ct) ps []) (hv:Vals dvs ds) (hd:Binds K (PySem.W.fnOf m qual (abA st) (aaP st) (aaC st) dV kV doc pm an cdv ct) ps ds):FnMD K C m qual st ps dvs:=
 ⟨⟨f,_,ds,⟨⟨oc,od,dV,kV,doc,pm,an,cdv,ct,osl,rfl,l,c⟩,k⟩,hb,hv,hd,⟨a,i,k⟩⟩⟩
end
section
variable{X:Cx}{x:Str}{C:Addr}{k k':Nat}{ps:List Str}{sp:Sp}{p pos:Pos}{dvs:List V}
theorem eMkD(c:Cd X.K X.mg x C)(D:DfMD X.prog X.w X.K X.mg X.base C "__init__" k ps sp dvs)(hr:Room k' X.A)(hk:k+1<=k':=by decide)(hg:Gl X x:=by rfl)(hdb:(x==("__debug__":Str))=false:=by decide):
  E X (.Call (.Name x p) [] [] pos) (anS C sp dvs E0 aiO):=by
 obtain⟨f,fd,ds,F,_,hv,hb,hm⟩:=D.ex
 exact⟨arQ ⟨c.makes,hm.at_,hm.fn,c.kp⟩ F (hr.mono hk) hg c.at_ hb hv anL hdb⟩
end
theorem ahO{H:Hp}{xo dx:Addr}{a b:HO}(nx:H xo=none)(ndx:H dx=none):Same H (upd (upd H dx a) xo b):=fun z u hb=>by
 rw[aaE (aaG hb nx),aaE (aaG hb ndx)]
 exact hb
theorem ab1{H:Hp}{xo dx:Addr}{a b c:HO}(nx:H xo=none)(ndx:H dx=none):Same H (upd (upd (upd H dx a) xo b) xo c):=fun z u hb=>by
 rw[aaE (aaG hb nx)]
 exact ahO nx ndx z u hb
theorem apY{H:Hp}{xo dx:Addr}{a b c d:HO}(nx:H xo=none)(ndx:H dx=none):Same H (upd (upd (upd (upd H dx a) xo b) xo c) xo d):=fun z u hb=>by
 rw[aaE (aaG hb nx)]
 exact ab1 nx ndx z u hb
end L2
namespace L2
open PySem PyProof.Rows
def aIN(p:Nat->Bool):Nat->Nat
 |0=>0
 |n+1=>aIN p n+(if p n=true then 2^n else 0)
@[irreducible] def cnt(p:Nat->Bool)(n:Nat):Nat:=aIN p n
theorem alT(p:Nat->Bool):cnt p 0=0:=by rw[cnt];rfl
theorem alN(p:Nat->Bool)(n:Nat):cnt p (n+1)=cnt p n+(if p n=true then 2^n else 0):=by rw[cnt,cnt];rfl
theorem am2(p:Nat->Bool):∀n,cnt p n<2^n
 |0=>by rw[alT];decide
 |n+1=>by
  have h:=am2 p n
  rw[alN,Nat.pow_succ]
  split<;>omega
theorem anK(p:Nat->Bool):∀n i,(cnt p n).testBit i=(decide (i<n)&&p i)
 |0,i=>by rw[alT];simp
 |n+1,i=>by
  have h:=am2 p n
  have ih:=anK p n i
  rw[alN]
  by_cases hp:p n=true
  ·rw[if_pos hp,Nat.add_comm]
   rcases Nat.lt_trichotomy i n with hi | hi | hi
   ·rw[Nat.testBit_two_pow_add_gt hi,ih]
    simp[hi,Nat.lt_succ_of_lt hi]
   ·subst hi
    rw[Nat.testBit_two_pow_add_eq,ih]
    simp[hp]
   ·have h2:2^n+cnt p n<2^i:=Nat.lt_of_lt_of_le (by rw[Nat.pow_succ];omega) (Nat.pow_le_pow_right (by decide) hi)
    rw[Nat.testBit_lt_two_pow h2]
    have:¬i<n+1:=by omega
    simp[this]
  ·rw[if_neg hp,Nat.add_zero,ih]
   by_cases e:i=n
   ·subst e
    simp[hp]
   ·have:(i<n+1)↔(i<n):=by omega
    simp[this]
def tb(m:Int)(i:Nat):Bool:=m.toNat.testBit i
theorem abK(k:Nat):((2^k:Nat):Int)=(2:Int)^k:=by rw[Int.natCast_pow];rfl
theorem ahD(k:Nat):(0:Int)<2^k:=by rw[←abK];exact Int.natCast_pos.mpr (Nat.two_pow_pos k)
theorem anI{m:Int}(h:0<=m)(k:Nat):m / 2^k=((m.toNat >>> k:Nat):Int):=by
 obtain⟨n,rfl⟩:=Int.eq_ofNat_of_zero_le h
 rw[Int.toNat_natCast,Nat.shiftRight_eq_div_pow,←abK,Int.natCast_ediv]
theorem anY(a b:Nat):Builtin.bitAnd (a:Int) (b:Int)=((a&&& b:Nat):Int):=bitAnd_pp (Int.natCast_nonneg a) (Int.natCast_nonneg b)
theorem arM(a b:Nat):Builtin.bitOr (a:Int) (b:Int)=((a||| b:Nat):Int):=by
 rw[bitOr_and,anY]
 have:=nat_or_add_and a b
 omega
theorem aoE{m:Int}(h:0<=m)(k:Nat):(Builtin.bitAnd (m / 2^k) 1=1)↔tb m k=true:=by
 rw[anI h,show (1:Int)=((1:Nat):Int) from rfl,anY]
 unfold tb
 rw[Nat.testBit_eq_decide_div_mod_eq,Nat.shiftRight_eq_div_pow]
 have:m.toNat / 2^k&&& 1=m.toNat / 2^k%2:=Nat.and_two_pow_sub_one_eq_mod _ 1
 rw[this]
 simp only[decide_eq_true_eq]
 omega
theorem arB{a b:Int}(ha:0<=a)(hb:0<=b):0<=Builtin.bitAnd a b:=by rw[bitAnd_pp ha hb];exact Int.natCast_nonneg _
theorem alC{a b:Int}(ha:0<=a)(hb:0<=b):0<=Builtin.bitOr a b:=by
 obtain⟨x,rfl⟩:=Int.eq_ofNat_of_zero_le ha
 obtain⟨y,rfl⟩:=Int.eq_ofNat_of_zero_le hb
 rw[arM]
 exact Int.natCast_nonneg _
theorem apO{a b:Int}(ha:0<=a)(hb:0<=b)(i:Nat):tb (Builtin.bitAnd a b) i=(tb a i&&tb b i):=by
 unfold tb
 rw[bitAnd_pp ha hb,Int.toNat_natCast,Nat.testBit_and]
theorem arL{a b:Int}(ha:0<=a)(hb:0<=b)(i:Nat):tb (Builtin.bitOr a b) i=(tb a i||tb b i):=by
 obtain⟨x,rfl⟩:=Int.eq_ofNat_of_zero_le ha
 obtain⟨y,rfl⟩:=Int.eq_ofNat_of_zero_le hb
 unfold tb
 rw[arM,Int.toNat_natCast,Nat.testBit_or,Int.toNat_natCast,Int.toNat_natCast]
theorem aq4(k i:Nat):tb (2^k) i=decide (k=i):=by
 unfold tb
 rw[←abK,Int.toNat_natCast,Nat.testBit_two_pow]
theorem acC(i:Nat):tb 0 i=false:=by unfold tb;simp
theorem acJ{a b:Int}(ha:0<=a)(hb:0<=b)(h:∀i,tb a i=tb b i):a=b:=by
 have:a.toNat=b.toNat:=Nat.eq_of_testBit_eq h
 omega
theorem aDX{m:Int}(h:0<=m)(k i:Nat):tb (m / 2^k) i=tb m (k+i):=by
 rw[anI h]
 unfold tb
 rw[Int.toNat_natCast,Nat.testBit_shiftRight]
theorem an2{m:Int}{n i:Nat}(h:m<2^n)(hi:n<=i):tb m i=false:=by
 unfold tb
 refine Nat.testBit_lt_two_pow (Nat.lt_of_lt_of_le ?_ (Nat.pow_le_pow_right (by decide) hi))
 by_cases h0:0<=m
 ·have:=abK n
  omega
 ·have:m.toNat=0:=by omega
  rw[this]
  exact Nat.two_pow_pos n
@[irreducible] def mk_(p:Nat->Bool)(n:Nat):Int:=(cnt p n:Nat)
theorem arN(p:Nat->Bool)(n:Nat):mk_ p n=(cnt p n:Nat):=by rw[mk_]
theorem axK(p:Nat->Bool)(n:Nat):0<=mk_ p n:=by rw[arN];exact Int.natCast_nonneg _
theorem ax2(p:Nat->Bool)(n i:Nat):tb (mk_ p n) i=(decide (i<n)&&p i):=by
 unfold tb
 rw[arN,Int.toNat_natCast,anK]
theorem ax6(p:Nat->Bool)(n:Nat):mk_ p n<2^n:=by
 have:=am2 p n
 have e:=abK n
 rw[arN]
 omega
theorem auY(n i:Nat):tb (2^n-1) i=decide (i<n):=by
 have h:=abK n
 have:((2:Int)^n-1).toNat=2^n-1:=by
  have:=Nat.two_pow_pos n
  omega
 unfold tb
 rw[this,Nat.testBit_two_pow_sub_one]
def aFK(p:Nat->Bool)(lo:Int):Nat->List Int
 |0=>[]
 |n+1=>aFK p lo n++(if p n=true then [lo+(n:Int)] else [])
@[irreducible] def flt(p:Nat->Bool)(lo:Int)(n:Nat):List Int:=aFK p lo n
theorem al9(p:Nat->Bool)(lo:Int):flt p lo 0=[]:=by rw[flt];rfl
theorem as9{p:Nat->Bool}{lo:Int}{α:Type}{f:Int->α}:[]=(flt p lo 0).map f:=by rw[al9];rfl
theorem al0(p:Nat->Bool)(lo:Int)(n:Nat):flt p lo (n+1)=flt p lo n++(if p n=true then [lo+(n:Int)] else []):=by rw[flt,flt];rfl
theorem an3{p:Nat->Bool}{lo:Int}{n:Nat}(h:p n=true):flt p lo (n+1)=flt p lo n++[lo+(n:Int)]:=by
 rw[al0,if_pos h]
theorem am3{p:Nat->Bool}{lo:Int}{n:Nat}(h:p n=false):flt p lo (n+1)=flt p lo n:=by
 rw[al0,h,if_neg Bool.false_ne_true,List.append_nil]
theorem flt_mem{p:Nat->Bool}{lo z:Int}:∀{n:Nat},z∈flt p lo n↔∃i,i<n/\p i=true/\z=lo+(i:Int)
 |0=>by rw[al9];exact⟨fun h=>(nomatch h),fun ⟨i,h,_⟩=>absurd h (Nat.not_lt_zero i)⟩
 |n+1=>by
  by_cases c:p n=true
  ·rw[an3 c,List.mem_append,flt_mem,List.mem_singleton]
   refine⟨fun h=>?_,fun ⟨i,h1,h2,h3⟩=>?_⟩
   ·rcases h with ⟨i,h1,h2,h3⟩ | h
    ·exact⟨i,by omega,h2,h3⟩
    ·exact⟨n,by omega,c,h⟩
   ·by_cases e:i=n
    ·subst e;exact .inr h3
    ·exact .inl ⟨i,by omega,h2,h3⟩
  ·rw[am3 (by simpa using c),flt_mem]
   refine⟨fun ⟨i,h1,h2,h3⟩=>⟨i,by omega,h2,h3⟩,fun ⟨i,h1,h2,h3⟩=>⟨i,?_,h2,h3⟩⟩
   have:i≠n:=fun e=>c (e▸h2)
   omega
theorem az4{p:Nat->Bool}{lo:Int}{n k:Nat}(h:∀i,n<=i->p i=false)(hk:n<=k):flt p lo k=flt p lo n:=by
 obtain⟨d,rfl⟩:=Nat.exists_eq_add_of_le hk
 clear hk
 induction d with
 |zero=>rfl
 |succ d ih=>rw[show n+(d+1)=(n+d)+1 from rfl,am3 (h _ (by omega)),ih]
def aa4(zs:List Int):Int:=zs.foldl (fun a z=>Builtin.bitOr a (1*2^z.toNat)) 0
theorem ahY(zs:List Int)(z:Int):aa4 (zs++[z])=Builtin.bitOr (aa4 zs) (1*2^z.toNat):=by unfold aa4;rw[List.foldl_append];rfl
theorem akV:∀(zs:List Int) (a:Int),0<=a->0<=zs.foldl (fun a z=>Builtin.bitOr a (1*2^z.toNat)) a/\∀i,tb (zs.foldl (fun a z=>Builtin.bitOr a (1*2^z.toNat)) a) i=(tb a i||zs.any fun z=>decide (z.toNat=i))
 |[],a,h=>⟨h,fun i=>by simp⟩
 |z::zs,a,h=>by
  have e:(1*2^z.toNat:Int)=2^z.toNat:=by omega
  have p:=Int.le_of_lt (ahD z.toNat)
  obtain⟨h1,h2⟩:=akV zs (Builtin.bitOr a (1*2^z.toNat)) (by rw[e];exact alC h p)
  refine⟨h1,fun i=>?_⟩
  show tb (zs.foldl _ (Builtin.bitOr a (1*2^z.toNat))) i=_
  rw[h2 i,e,arL h p,aq4,List.any_cons,Bool.or_assoc]
theorem aa8(zs:List Int):0<=aa4 zs:=(akV zs 0 (Int.le_refl 0)).1
theorem abF(zs:List Int)(i:Nat):tb (aa4 zs) i=zs.any fun z=>decide (z.toNat=i):=by
 have h:=(akV zs 0 (Int.le_refl 0)).2 i
 rw[acC,Bool.false_or] at h
 exact h
theorem auG{m:Int}(h:0<=m):m<2^Builtin.Int.intBits m:=by
 unfold Builtin.Int.intBits
 split
 ·rename_i c
  have:m=0:=by simpa using c
  rw[this]
  decide
 ·have:=Nat.lt_log2_self (n:=m.natAbs)
  have e:=abK (m.natAbs.log2+1)
  omega
theorem ajY{m:Int}{n:Nat}(h:0<=m)(hn:m<2^n):Builtin.Int.intBits m<=n:=by
 unfold Builtin.Int.intBits
 split
 ·exact Nat.zero_le _
 ·rename_i c
  have h0:m≠0:=by simpa using c
  have e:=abK n
  have:m.natAbs.log2<n:=(Nat.log2_lt (by omega)).mpr (by omega)
  omega
def alJ(m:Int):List Int:=flt (tb m) 0 (Builtin.Int.intBits m)
theorem asY{m:Int}{n:Nat}(h:0<=m)(hn:m<2^n):alJ m=flt (tb m) 0 n:=
 (az4 (fun i hi=>an2 (auG h) hi) (ajY h hn)).symm
theorem auJ{m:Int}(h:0<=m)(k:Nat):decide (Builtin.bitAnd (m / 2^k) 1=1)=tb m k:=by
 by_cases c:tb m k=true
 ·rw[c];exact decide_eq_true ((aoE h _).mpr c)
 ·have c':tb m k=false:=by simpa using c
  rw[c'];exact decide_eq_false fun q=>c ((aoE h _).mp q)
end L2
namespace L2
open PySem PyProof.Rows
section
variable{X:Cx}{tg:Expr}
theorem an7{a b c:Int}(hc:0<c):0<=Builtin.Range.rangeSize a b c:=by
 unfold Builtin.Range.rangeSize
 rw[if_pos hc]
 split
 ·have:0<=(b-a-1) / c:=Int.ediv_nonneg (by omega) (by omega)
  omega
 ·exact Int.le_refl 0
end
def apN(a:Addr)(lo hi st:Int):HO:=.ext fun h=>∃t u v,h.get? a=some {cls:=.type "range",data:=.fields #[.int lo t,.int hi u,.int st v]}
section
variable{X:Cx}
theorem ak7{pins:List (Addr×Obj)}{σ:St}{H:Hp}{s:Shared}{Q:VK}{lo hi st:Int}{t u v:Tok}{tk:Nat}(I:Inv X pins σ H s)(q:∀p,H p=none->Q (.ref p) (upd H p (apN p lo hi st))):
  EP X pins σ Q (.ref s.heap.objs.size) {s with heap:=s.heap.push {cls:=.type "range",data:=.fields #[.int lo t,.int hi u,.int st v]},toks:=tk}:=by
 refine⟨.ref s.heap.objs.size,upd H s.heap.objs.size (apN s.heap.objs.size lo hi st),I.laid (t':=tk) (fun b u e=>Heap.get?_push_of_some _ e) (Nat.le_refl _) ?_,rfl,q _ (I.hok.fresh (Nat.le_refl _))⟩
 have e:=Heap.get?_push_size s.heap (o:={cls:=.type "range",data:=.fields #[.int lo t,.int hi u,.int st v]}) rfl
 exact⟨⟨t,u,v,e⟩,⟨_,e⟩,fun h1 h2 ⟨t,u,v,z⟩ k=>⟨t,u,v,k _ z⟩⟩
theorem aFC:Cl1 X (.type "range") (fun xs H Q=>∃i j,xs=[.int i,.int j]/\∀p,H p=none->Q (.ref p) (upd H p (apN p i j 1))):=by
 refine⟨fun pins s σ H xs us Q I r h=>?_⟩
 obtain⟨i,j,rfl,q⟩:=h
 obtain⟨u,u',rfl,⟨t,rfl⟩,⟨t',rfl⟩⟩:=ag4 r
 exact call_range_2 (ak7 I q)
theorem auX:Cl1 X (.type "range") (fun xs H Q=>∃i j c,xs=[.int i,.int j,.int c]/\(0<c/\c<1073741824)/\∀p,H p=none->Q (.ref p) (upd H p (apN p i j c))):=by
 refine⟨fun pins s σ H xs us Q I r h=>?_⟩
 obtain⟨i,j,c,rfl,⟨c0,c1⟩,q⟩:=h
 cases r with
 |cons r rr=>
  cases rr with
  |cons r' rr=>
   cases rr with
   |cons r'' rr=>
    cases rr
    obtain⟨t,rfl⟩:=r
    obtain⟨t',rfl⟩:=r'
    obtain⟨t'',rfl⟩:=r''
    exact call_range_3 (Int.ne_of_gt c0) (ak7 I q) (.inl (PyProof.noPylong_small (by omega)))
theorem amS{lo st:Int}:∀{n:Nat} {acc:Array Value},ItemsOf (fun i v=>∃t,v=.int (lo+i*st) t) acc n->Vals ((List.range n).map fun i:Nat=>V.int (lo+i*st)) acc.toList:=by
 intro n acc h
 obtain⟨hz,hi⟩:=h
 have key:∀(m:Nat),m<=n->Vals ((List.range m).map fun i:Nat=>V.int (lo+i*st)) (acc.toList.take m):=by
  intro m
  induction m with
  |zero=>intro _;exact .nil
  |succ m ih=>
   intro hm
   have hlt:m<acc.toList.length:=by rw[Array.length_toList];omega
   obtain⟨t,e⟩:=hi m acc.toList[m] (by rw[←Array.getElem?_toList];exact List.getElem?_eq_getElem hlt)
   rw[List.range_succ,List.map_append,List.take_succ,List.getElem?_eq_getElem hlt]
   exact (ih (by omega)).append (.cons ⟨t,e⟩ .nil)
 have:=key n (Nat.le_refl _)
 rwa [List.take_of_length_le (by rw[Array.length_toList];omega)] at this
theorem cLR(hc:X.calm=true:=by rfl):Cl1 X (.type "list") (fun xs H Q=>∃(p:Addr) (lo hi st:Int) (n:Nat),xs=[.ref p]/\H p=some (apN p lo hi st)/\Builtin.Range.small lo hi st=true/\Builtin.Range.rangeSize lo hi st=(n:Int)/\n<=100000/\
  ∀l,H l=none->Q (.ref l) (upd H l (.lst ((List.range n).map fun i:Nat=>V.int (lo+i*st))))):=by
 refine⟨fun pins s σ H xs us Q I r h=>?_⟩
 obtain⟨p,lo,hi,st,n,rfl,hp,hs,hn,hl,q⟩:=h
 obtain⟨u,rfl,rx⟩:=abL r
 cases rx
 obtain⟨⟨t,u,v,e⟩,_,_⟩:=I.hok p _ hp
 refine call_list_range (I.ok.hd hc) e hs hn (Nat.le_trans hl (by decide)) fun h' tk acc c' kp hS hI=>?_
 have hz:((List.range n).map fun i:Nat=>V.int (lo+i*st)).length<=sizeLine:=by
  rw[List.length_map,List.length_range,sizeLine_eq]
  omega
 exact⟨.ref s.heap.objs.size,_,I.laid (t':=tk) kp (Nat.le_refl _) (show ObjOk X.prog X.w _ h' _ (.lst _) from ⟨hz,acc.toList,c',amS hI,by simpa using hS⟩),rfl,q _ (I.hok.fresh (Nat.le_refl _))⟩
def rBL:V->List V->Hp->VK->Prop:=fun x vs H Q=>∃i,x=.int i/\vs=[]/\Q (.int (Builtin.Int.intBits i:Nat)) H
theorem aJO:MtR X "int.bit_length" rBL:=by
 intro pins s σ H x xs v us Q I rx rv h
 obtain⟨i,rfl,rfl,q⟩:=h
 cases rv
 obtain⟨t,rfl⟩:=rx
 exact call_int_bit_length ⟨.int _,H,I.tok _,⟨_,rfl⟩,q⟩
theorem eBL{o:Expr}{to:TE}{apos cpos:Pos}(ho:E X o to)(hbase:attributeBase o "bit_length" X.env (eval o X.env)=eval o X.env:=by rfl)(hline:(apos.endLine==cpos.line)=true:=by rfl):
  E X (.Call (.Attribute o "bit_length" apos) [] [] cpos) (aH0 X.K "int" rBL to):=⟨aB6 PySem.F.plainAttrs_int PySem.F.slot_int_bit_length PySem.F.type_int_bit_length aJO ho.h hbase hline⟩
theorem ahG:Op2 X (compareOp .Is) (fun x y H Q=>y=.non/\Q (.bl (decide (x=.non))) H):=⟨aCT⟩
theorem oIn:Op2 X (compareOp .In) (rIn X.K false):=⟨ao5⟩
end
theorem Same.none{H H':Hp}{D:Addr}(s:Same H H')(h:H' D=none):H D=none:=by
 cases e:H D with
 |none=>rfl
 |some o=>exact absurd (h.symm.trans (s _ _ e)) (by simp)
def Keep(H H':Hp):Prop:=∀b o,(∀xs,o≠ .lst xs)->H b=some o->H' b=some o
theorem Same.keep{H H':Hp}(s:Same H H'):Keep H H':=fun b o _ h=>s b o h
theorem Keep.trans{H H1 H2:Hp}(a:Keep H H1)(b:Keep H1 H2):Keep H H2:=fun c o n h=>b c o n (a c o n h)
theorem ag7{H:Hp}{D:Addr}{l l':List V}(h:H D=some (.lst l)):Keep H (upd H D (.lst l')):=fun b o n hb=>by
 by_cases e:b=D
 ·subst e
  rw[h] at hb
  cases hb
  exact absurd rfl (n l)
 ·rw[aaE e]
  exact hb
theorem Keep.tup{H H':Hp}(k:Keep H H'){b:Addr}{xs:List V}(h:H b=some (.tup xs)):H' b=some (.tup xs):=k b _ (fun _ z=>nomatch z) h
theorem Keep.ins{H H':Hp}(k:Keep H H'){b C dx:Addr}{fs:List (Str×V)}(h:H b=some (.ins C dx fs)):H' b=some (.ins C dx fs):=k b _ (fun _ z=>nomatch z) h
section
variable{js:List Nat}{σ:St}{tt:TT}{te:TE}{Q:VK}{H1:Hp}
end
section
variable{X:Cx}{K:PySem.W.Frag}
theorem xTc(hK:X.K=K:=by rfl):Ixs X (aCD K):=hK▸xT
end
inductive Kd where
 |int | bool | str | non | list | tuple | dict
def Kd.nm:Kd->String
 |.int=>"int" | .bool=>"bool" | .str=>"str" | .non=>"NoneType" | .list=>"list" | .tuple=>"tuple" | .dict=>"dict"
def Kd.isa:Kd->Kd->Bool
 |.int,.int=>true | .bool,.int=>true | .bool,.bool=>true | .str,.str=>true | .list,.list=>true | .tuple,.tuple=>true | .dict,.dict=>true | _,_=>false
def ae0(K:PySem.W.Frag)(H:Hp):V->Kd->Prop
 |.int _,k=>k=.int
 |.bl _,k=>k=.bool
 |.str _,k=>k=.str
 |.non,k=>k=.non
 |.ref a,k=>(k=.list/\∃xs,SqL K H a xs)∨(k=.tuple/\∃xs,SqT K H a xs)∨(k=.dict/\∃kvs,H a=some (.dK kvs))
 |_,_=>False
theorem cIs{X:Cx}:Cl1 X (.builtin "isinstance") (fun xs H Q=>∃(v:V) (n k:Kd),xs=[v,.ty n.nm]/\n.nm≠"NoneType"/\ae0 X.K H v k/\Q (.bl (Kd.isa k n)) H):=by
 refine⟨fun pins s σ H xs us Q I r h=>?_⟩
 obtain⟨v,n,k,rfl,hn,hk,q⟩:=h
 obtain⟨u,w',rfl,r1,r2⟩:=ag4 r
 cases r2
 have fin:∀tk,EP X pins σ Q (.bool (Kd.isa k n)) {s with toks:=tk}:=fun tk=>⟨.bl _,H,I.tok _,rfl,q⟩
 have fin0:EP X pins σ Q (.bool (Kd.isa k n)) s:=⟨.bl _,H,I,rfl,q⟩
 cases v with
 |int i=>
  obtain⟨t,rfl⟩:=r1
  cases (show k=Kd.int from hk)
  cases n with
  |int=>exact PySem.IsiPair.int_int fin0
  |bool=>exact PySem.IsiPair.int_bool (fin _)
  |str=>exact PySem.IsiPair.int_str (fin _)
  |list=>exact PySem.IsiPair.int_list (fin _)
  |tuple=>exact PySem.IsiPair.int_tuple (fin _)
  |dict=>exact PySem.IsiPair.int_dict (fin _)
  |non=>exact absurd rfl hn
 |bl b=>
  cases r1
  cases (show k=Kd.bool from hk)
  cases n with
  |int=>exact PySem.IsiPair.bool_int fin0
  |bool=>exact PySem.IsiPair.bool_bool fin0
  |str=>exact PySem.IsiPair.bool_str (fin _)
  |list=>exact PySem.IsiPair.bool_list (fin _)
  |tuple=>exact PySem.IsiPair.bool_tuple (fin _)
  |dict=>exact PySem.IsiPair.bool_dict (fin _)
  |non=>exact absurd rfl hn
 |str x=>
  obtain⟨t,rfl⟩:=r1
  cases (show k=Kd.str from hk)
  cases n with
  |int=>exact PySem.IsiPair.str_int (fin _)
  |bool=>exact PySem.IsiPair.str_bool (fin _)
  |str=>exact PySem.IsiPair.str_str fin0
  |list=>exact PySem.IsiPair.str_list (fin _)
  |tuple=>exact PySem.IsiPair.str_tuple (fin _)
  |dict=>exact PySem.IsiPair.str_dict (fin _)
  |non=>exact absurd rfl hn
 |non=>
  cases r1
  cases (show k=Kd.non from hk)
  cases n with
  |int=>exact PySem.IsiPair.NoneType_int (fin _)
  |bool=>exact PySem.IsiPair.NoneType_bool (fin _)
  |str=>exact PySem.IsiPair.NoneType_str (fin _)
  |list=>exact PySem.IsiPair.NoneType_list (fin _)
  |tuple=>exact PySem.IsiPair.NoneType_tuple (fin _)
  |dict=>exact PySem.IsiPair.NoneType_dict (fin _)
  |non=>exact absurd rfl hn
 |ref a=>
  cases r1
  rcases hk with ⟨rfl,ys,hq⟩ | ⟨rfl,ys,hq⟩ | ⟨rfl,kvs,hq⟩
  ·obtain⟨its,rv,pl,_⟩:=I.list hq
   obtain⟨o,ho,hc,_⟩:=pl.isList
   cases n with
   |int=>exact PySem.IsiPair.list_int ho hc (fin _)
   |bool=>exact PySem.IsiPair.list_bool ho hc (fin _)
   |str=>exact PySem.IsiPair.list_str ho hc (fin _)
   |list=>exact PySem.IsiPair.list_list ho hc fin0
   |tuple=>exact PySem.IsiPair.list_tuple ho hc (fin _)
   |dict=>exact PySem.IsiPair.list_dict ho hc (fin _)
   |non=>exact absurd rfl hn
  ·obtain⟨its,rv,⟨o,ho,hc,_⟩,_⟩:=I.tuple hq
   cases n with
   |int=>exact PySem.IsiPair.tuple_int ho hc (fin _)
   |bool=>exact PySem.IsiPair.tuple_bool ho hc (fin _)
   |str=>exact PySem.IsiPair.tuple_str ho hc (fin _)
   |list=>exact PySem.IsiPair.tuple_list ho hc (fin _)
   |tuple=>exact PySem.IsiPair.tuple_tuple ho hc fin0
   |dict=>exact PySem.IsiPair.tuple_dict ho hc (fin _)
   |non=>exact absurd rfl hn
  ·obtain⟨_,_,_,_,o,_,_,ho,ex,_⟩:=I.hok a _ hq
   cases n with
   |int=>exact PySem.IsiPair.dict_int ho ex.1 (fin _)
   |bool=>exact PySem.IsiPair.dict_bool ho ex.1 (fin _)
   |str=>exact PySem.IsiPair.dict_str ho ex.1 (fin _)
   |list=>exact PySem.IsiPair.dict_list ho ex.1 (fin _)
   |tuple=>exact PySem.IsiPair.dict_tuple ho ex.1 (fin _)
   |dict=>exact PySem.IsiPair.dict_dict ho ex.1 fin0
   |non=>exact absurd rfl hn
 |byt b=>exact False.elim hk
 |flt b=>exact False.elim hk
 |ty n=>exact False.elim hk
end L2
namespace L2
open PySem PySem.Spec PyProof.Rows PySem.Builtin PySem.Builtin.Str
abbrev Tx(l:List Nat):Str:=⟨l.toArray⟩
theorem Tx_inj{a b:List Nat}:Tx a=Tx b↔a=b:=⟨fun h=>by
 have:(Tx a).cps.toList=(Tx b).cps.toList:=by rw[h]
 simpa using this,fun h=>by rw[h]⟩
theorem axG(x:Str):Tx x.cps.toList=x:=by cases x;simp
theorem aa2(a:List Nat):(Tx a).length=a.length:=by simp[Str.length]
def Itx(x:Str):It:=⟨fun i _=>i<x.cps.size,fun i H v H'=>H'=H/\∃c,x.cps[i]? =some c/\v=.str ⟨#[c]⟩,fun i _=>i=x.cps.size⟩
theorem aoX{P:Program}{w:World}{K:PySem.W.Frag}{tg:Expr}(x:Str)(t:Tok)(it:Addr):Turn P w K tg (Itx x) [it] it (fun i h=>h.IsStrIter it "str_ascii_iterator" x t i) where
 mem:=by simp
 obj:=fun i h st b hb=>by
  have e:b=it:=by simpa using hb
  subst e
  obtain⟨o,e,c,d⟩:=st
  exact⟨o,e,fun v z=>by rw[d] at z;cases z⟩
 keep:=fun i h h' st k=>by
  obtain⟨o,e,r⟩:=st
  exact⟨o,k it (by simp) o e,r⟩
 item:=by
  intro X hP hw hK hc i pins s σ H E I hf st hg
  subst hP hw hK
  obtain⟨f0,f1,f2,f3,f4,f5⟩:=hf it (by simp)
  have hg:i<x.cps.size:=hg
  refine wpAny_pyNext_ascii_item st (c:=x.cps[i]) (by simp[hg]) fun h' st' sb=>?_
  have I1:Inv X pins σ H {s with heap:=h',toks:=s.toks+1}:=I.turned (fun b o hb e=>sb.extBut b o hb e) f0 f1 f3 f4 f5
  obtain⟨o,e,c,d⟩:=id st'
  exact⟨_,rfl,an1 (s:={s with heap:=h',toks:=s.toks+1}) e c d (by decide) ⟨.str ⟨#[x.cps[i]]⟩,H,I1,⟨_,rfl⟩,⟨rfl,x.cps[i],by simp[hg],rfl⟩,st',fun b hb=>(hf b hb).1⟩⟩
 done:=by
  intro X hP hw hK hc i pins s σ H E I hf st hg
  subst hP hw hK
  obtain⟨f0,f1,f2,f3,f4,f5⟩:=hf it (by simp)
  have hg:i=x.cps.size:=hg
  exact wpAny_pyNext_ascii_end (I.ok.hd hc) st (by simp[hg]) fun h' eb=>⟨rfl,I.turned (t':=s.toks) (fun b o hb e=>eb b o hb e) f0 f1 f3 f4 f5⟩
 self:=fun _ _ _ _ _ st h=>wpAny_pyIter_striter_ascii st h
theorem aoO{P:Program}{w:World}{K:PySem.W.Frag}{tg:Expr}(x:Str)(t:Tok)(it:Addr):Turn P w K tg (Itx x) [it] it (fun i h=>h.IsStrIter it "str_iterator" x t i) where
 mem:=by simp
 obj:=fun i h st b hb=>by
  have e:b=it:=by simpa using hb
  subst e
  obtain⟨o,e,c,d⟩:=st
  exact⟨o,e,fun v z=>by rw[d] at z;cases z⟩
 keep:=fun i h h' st k=>by
  obtain⟨o,e,r⟩:=st
  exact⟨o,k it (by simp) o e,r⟩
 item:=by
  intro X hP hw hK hc i pins s σ H E I hf st hg
  subst hP hw hK
  obtain⟨f0,f1,f2,f3,f4,f5⟩:=hf it (by simp)
  have hg:i<x.cps.size:=hg
  refine wpAny_pyNext_wide_item st (c:=x.cps[i]) (by simp[hg]) fun h' st' sb=>?_
  have I1:Inv X pins σ H {s with heap:=h',toks:=s.toks+1}:=I.turned (fun b o hb e=>sb.extBut b o hb e) f0 f1 f3 f4 f5
  obtain⟨o,e,c,d⟩:=id st'
  exact⟨_,rfl,an1 (s:={s with heap:=h',toks:=s.toks+1}) e c d (by decide) ⟨.str ⟨#[x.cps[i]]⟩,H,I1,⟨_,rfl⟩,⟨rfl,x.cps[i],by simp[hg],rfl⟩,st',fun b hb=>(hf b hb).1⟩⟩
 done:=by
  intro X hP hw hK hc i pins s σ H E I hf st hg
  subst hP hw hK
  obtain⟨f0,f1,f2,f3,f4,f5⟩:=hf it (by simp)
  have hg:i=x.cps.size:=hg
  exact wpAny_pyNext_wide_end (I.ok.hd hc) st (by simp[hg]) fun h' eb=>⟨rfl,I.turned (t':=s.toks) (fun b o hb e=>eb b o hb e) f0 f1 f3 f4 f5⟩
 self:=fun _ _ _ _ _ st h=>wpAny_pyIter_striter_wide st h
section
variable{X:Cx}{tg:Expr}
def iTxt(tl:TE):TI:=fun σ H R=>tl σ H fun x H1=>∃z,x=.str z/\R (Itx z) H1
theorem iX{l:Expr}{tl:TE}(hl:E X l tl):Il X tg l (iTxt tl):=by
 refine⟨fun pins s σ H R I h=>?_⟩
 refine thn (hl.h pins s σ H _ I h) fun u s1 ⟨x,H1,I1,r1,q1⟩=>?_
 obtain⟨z,rfl,q⟩:=q1
 obtain⟨t,rfl⟩:=r1
 have fp:∀b∈[s1.heap.objs.size],acI X pins H1 b:=fun b hb=>by
  have e:b=s1.heap.objs.size:=by simpa using hb
  subst e
  exact I1.fpOk (Nat.le_refl _) (I1.hok.fresh (Nat.le_refl _))
 cases ha:z.cps.all (·<128)
 ·exact wpAny_pyIter_wide ha ⟨s1.heap.objs.size,[s1.heap.objs.size],_,_,H1,rfl,I1.kept (t':=s1.toks) fun b o e=>Heap.get?_push_of_some _ e,aoO z t _,⟨_,Heap.get?_push_size _ rfl,rfl,rfl⟩,fp,q⟩
 ·exact wpAny_pyIter_ascii ha ⟨s1.heap.objs.size,[s1.heap.objs.size],_,_,H1,rfl,I1.kept (t':=s1.toks) fun b o e=>Heap.get?_push_of_some _ e,aoX z t _,⟨_,Heap.get?_push_size _ rfl,rfl,rfl⟩,fp,q⟩
end
section
variable{js:List Nat}{σ:St}{tt:TT}{te:TE}{Q:VK}{H1:Hp}
theorem aqC{xs:List Nat}(R:Nat->List V->Prop)(hn:xs.length<=sizeLine)(h0:R 0 [])
  (hs:∀(i:Nat) (c:Nat) (l:List V) (D:Addr) (H2:Hp) (E:V->Hp->Prop) (F:Hp->Prop),xs[i]? =some c->R i l->H1 D=none->Same H1 H2->H2 D=some (.lst l)->(∀y H5,Same H2 H5->R (i+1) (l++[y])->E y H5)->(∀H4,Same H2 H4->R (i+1) l->F H4)->
   tt (some (.str (Tx [c]))::aaT js σ) H2 fun b H4=>if b=true then te (some (.str (Tx [c]))::aaT js σ) H4 E else F H4)
  (hd:∀(D:Addr) (H2:Hp) (l:List V),R xs.length l->H1 D=none->Same H1 H2->H2 D=some (.lst l)->Q (.ref D) H2):aoL (Itx (Tx xs)) js σ tt te Q H1:=by
 intro D hD
 have hz:(Tx xs).cps.size=xs.length:=by simp
 refine⟨fun i m H2=>m=xs.length-i/\i<=xs.length/\Same H1 H2/\∃l,H2 D=some (.lst l)/\l.length<=i/\R i l,⟨xs.length,by simp,Nat.zero_le _,aaB hD _,[],aaA,Nat.le_refl _,h0⟩,?_⟩
 rintro i m H2 ⟨rfl,hi,s2,l,h2,hll,hR⟩
 by_cases hlt:i<xs.length
 ·refine .inr ⟨show i<(Tx xs).cps.size by rw[hz];exact hlt,fun v H3 y=>?_⟩
  obtain⟨e,c,ec,ev⟩:=y
  subst e ev
  refine hs i c l D _ _ _ (by simpa using ec) hR hD s2 h2 (fun z H5 s5 r5=>?_) (fun H4 s4 r4=>?_)
  ·refine⟨l,s5 _ _ h2,Nat.lt_of_le_of_lt hll (Nat.lt_of_lt_of_le hlt hn),xs.length-(i+1),by omega,rfl,hlt,fun b o hb=>?_,l++[z],aaA,by rw[List.length_append,List.length_singleton];omega,r5⟩
   rw[aaE (aaG hb hD)]
   exact s5 _ _ (s2 _ _ hb)
  ·exact⟨xs.length-(i+1),by omega,rfl,hlt,s2.trans s4,l,s4 _ _ h2,by omega,r4⟩
 ·have e:i=xs.length:=by omega
  subst e
  exact .inl ⟨show xs.length=(Tx xs).cps.size by rw[hz],hd D H2 l hR hD s2 h2⟩
end
section
variable{X:Cx}
theorem alD{prog:Program}{w:World}{A:Around}{its:Array Value}{bs:List Bool}(r:Vals (bs.map V.bl) its.toList):TruthOf prog w A (fun i v=>its[i]? =some v) (fun i=>bs.getD i false):=by
 intro i v s Q E hv hq
 have hv':its.toList[i]? =some v:=by rw[Array.getElem?_toList];exact hv
 have hi:i<bs.length:=by
  have h1:=r.length
  rw[List.length_map] at h1
  rcases Nat.lt_or_ge i its.toList.length with z | z
  ·omega
  ·rw[List.getElem?_eq_none z] at hv';cases hv'
 obtain⟨u,hu,ru⟩:=r.get (i:=i) (x:=V.bl bs[i]) (by rw[List.getElem?_map,List.getElem?_eq_getElem hi];rfl)
 rw[hv'] at hu
 cases hu
 cases ru
 have e:bs.getD i false=bs[i]:=by simp[List.getD,List.getElem?_eq_getElem hi]
 have hq:Q (bs.getD i false) s:=hq
 rw[e] at hq
 exact wpAny_truthy_bool hq
theorem apF(bs:List Bool):(List.range bs.length).all (fun i=>bs.getD i false)=bs.all id:=by
 rw[Bool.eq_iff_iff,List.all_eq_true,List.all_eq_true]
 refine⟨fun h b hb=>?_,fun h i hi=>?_⟩
 ·obtain⟨i,hi,e⟩:=List.getElem_of_mem hb
  have:=h i (List.mem_range.mpr hi)
  rw[show bs.getD i false=bs[i] by simp[List.getD,List.getElem?_eq_getElem hi],e] at this
  exact this
 ·have hi:=List.mem_range.mp hi
  rw[show bs.getD i false=bs[i] by simp[List.getD,List.getElem?_eq_getElem hi]]
  exact h _ (List.getElem_mem hi)
theorem cAll(hc:X.calm=true:=by rfl):Cl1 X (.builtin "all") (fun xs H Q=>∃(p:Addr) (bs:List Bool),xs=[.ref p]/\SqL X.K H p (bs.map V.bl)/\Q (.bl (bs.all id)) H):=by
 refine⟨fun pins s σ H xs us Q I r h=>?_⟩
 obtain⟨p,bs,rfl,hq,q⟩:=h
 obtain⟨u,rfl,r1⟩:=abL r
 cases r1
 obtain⟨its,rv,pl,hz⟩:=I.list hq
 have hne:p≠s.heap.objs.size:=by
  obtain⟨o,ho,_⟩:=pl.isList
  exact Nat.ne_of_lt (Heap.lt_size ho)
 refine call_all_walk (wpAny_pyIter_list pl.isList ⟨s.heap.objs.size,[s.heap.objs.size,p],[s.heap.objs.size],its.toArray.size,(fun i v=>its.toArray[i]? =some v),(fun i h=>h.IsListIter s.heap.objs.size p i/\h.IsList p its.toArray),(fun i=>bs.getD i false),rfl,Walks.list (prog:=X.prog) (w:=X.w) (A:=X.A.in1) (I.ok.hd hc) _ p hne its.toArray,⟨⟨_,Heap.get?_push_size _ rfl,rfl,rfl⟩,pl.isList.push _⟩,alD (by simpa using rv),fun h' tk hk=>?_⟩)
 have hl:=rv.length
 rw[List.length_map] at hl
 have e:its.toArray.size=bs.length:=by rw[List.size_toArray];omega
 rw[e,apF]
 exact⟨.bl _,H,I.kept fun b o eb=>hk b o (by simpa using Nat.ne_of_lt (Heap.lt_size eb)) (Heap.get?_push_of_some _ eb),rfl,q⟩
end
end L2
namespace L2
open PySem PySem.Spec PyProof.Rows PySem.Builtin PySem.Builtin.Str
def spl(c:Nat):List Nat->List (List Nat)
 |[]=>[[]]
 |x::r=>if x=c then []::spl c r else match spl c r with
  |h::t=>(x::h)::t
  |[]=>[[x]]
def aaF(c:Nat):List (List Nat)->List Nat
 |[]=>[]
 |[p]=>p
 |p::r=>p++c::aaF c r
theorem azZ(c:Nat):∀l,spl c l≠[]
 |[]=>by simp[spl]
 |x::r=>by
  unfold spl
  split
  ·simp
  ·split<;>simp
theorem acR(c:Nat):∀(p:List Nat),c∉p->spl c p=[p]
 |[],_=>rfl
 |x::r,h=>by
  have h1:¬x=c:=fun e=>h (by simp[e])
  have h2:=acR c r fun e=>h (by simp[e])
  unfold spl
  rw[if_neg h1,h2]
theorem ag0(c:Nat):∀(p r:List Nat),c∉p->spl c (p++c::r)=p::spl c r
 |[],r,_=>by
  show spl c (c::r)=_
  unfold spl
  rw[if_pos rfl]
  cases r<;>rfl
 |x::q,r,h=>by
  have h1:¬x=c:=fun e=>h (by simp[e])
  have h2:=ag0 c q r fun e=>h (by simp[e])
  show spl c (x::(q++c::r))=_
  rw[spl,if_neg h1,h2]
theorem abN(c:Nat):∀(ps:List (List Nat)),ps≠[]->(∀p∈ps,c∉p)->spl c (aaF c ps)=ps
 |[],h,_=>absurd rfl h
 |[p],_,h=>acR c p (h p (by simp))
 |p::q::r,_,h=>by
  show spl c (p++c::aaF c (q::r))=_
  rw[ag0 c p _ (h p (by simp)),abN c (q::r) (by simp) fun z hz=>h z (List.mem_cons_of_mem _ hz)]
theorem akH(c:Nat):∀ps:List Str,(Str.join (Tx [c]) ps).cps.toList=aaF c (ps.map (·.cps.toList))
 |[]=>rfl
 |[p]=>rfl
 |p::q::r=>by
  have ih:=akH c (q::r)
  show (p++Tx [c]++Str.join (Tx [c]) (q::r)).cps.toList=p.cps.toList++c::aaF c ((q::r).map (·.cps.toList))
  rw[←ih]
  show ((p.cps++ #[c])++(Str.join (Tx [c]) (q::r)).cps).toList=_
  simp
theorem aqH(x y:Str)(h:Txt.split x y=[]):False:=by
 unfold Txt.split at h
 split at h
 ·cases h
 ·split at h
  ·cases h
  ·have e:=congrArg List.length h
   rw[length_partsBetween] at e
   simp at e
theorem arO(l:List Nat)(c:Nat):(Txt.split (Tx l) (Tx [c])).map (·.cps.toList)=spl c l:=by
 have h1:=StrLaws.join_split (Tx l) (Tx [c])
 have h2:=StrLaws.split_free (Tx l) c
 have h3:=akH c (Txt.split (Tx l) (Tx [c]))
 rw[h1] at h3
 have e:aaF c ((Txt.split (Tx l) (Tx [c])).map (·.cps.toList))=l:=by rw[←h3]
 rw[←abN c ((Txt.split (Tx l) (Tx [c])).map (·.cps.toList)) (fun z=>aqH _ _ (List.map_eq_nil_iff.mp z)) ?_,e]
 intro p hp
 obtain⟨z,hz,rfl⟩:=List.mem_map.mp hp
 exact h2 z hz
theorem ao1(l:List Nat)(c:Nat):Txt.split (Tx l) (Tx [c])=(spl c l).map Tx:=by
 rw[←arO,List.map_map]
 have:∀ps:List Str,ps=ps.map ((fun w:List Nat=>Tx w) ∘ fun x=>x.cps.toList):=fun ps=>by
  induction ps with
  |nil=>rfl
  |cons a r ih=>rw[List.map_cons,←ih];simp
 exact this _
theorem ajP:∀l:List (Str×Tok),Vals (l.map fun p=>V.str p.1) (strValues l)
 |[]=>.nil
 |p::r=>.cons ⟨p.2,rfl⟩ (ajP r)
section
variable{prog:Program}{w:World}{A:Around}{E:Value->Shared->Prop}{s:Shared}{x y:Str}{t u:Tok}{Q:Value->Shared->Prop}
theorem amT(hy:(y.length==0)=false)(hsz:x.length+2<=sizeLine)
  (h:∀l k,l.map (·.1)=Txt.split x y->Q (.ref s.heap.objs.size) {s with heap:=s.heap.push {cls:=.type "list",data:=.seq (strValues l).toArray},toks:=k}):
  wpAny (model prog w) A (call (.builtin "str.split") [.str x t,.str y u]) Q E s:=by
 have hn:(partsBetween x (occurrences x y 0 x.length (x.length+1)) y.length).length<=sizeLine:=by
  have e1:=StrLaws.occ_length_le x y 0 x.length (x.length+1)
  rw[length_partsBetween];omega
 cases h1:(decide (x.length<y.length)||decide (strKind x<strKind y))
 ·cases hf:(occurrences x y 0 x.length (x.length+1)).isEmpty
  ·refine call_meets F.slot_str_split (typeIs_str _ _ _) F.entry_str_split (F.args_str_split_2 _ _) (meets_str_split_sep x y t u h1 hy hf (by omega) hn) ?_
   show wants Q E _ {s with toks:=_,heap:=s.heap.push {cls:=.type "list",data:=.seq (strsFrom s.toks (partsBetween x (occurrences x y 0 x.length (x.length+1)) y.length)).toArray} }
   rw[strsFrom_eq]
   exact h (numbered s.toks _) _ ((numbered_texts _ _).trans ((if_neg (ne_true_of_eq_false h1)).trans (if_neg (ne_true_of_eq_false hf))).symm)
  ·exact call_meets F.slot_str_split (typeIs_str _ _ _) F.entry_str_split (F.args_str_split_2 _ _) (meets_str_split_not_found x y t u h1 hy hf)
    (h [(x,t)] s.toks ((if_neg (ne_true_of_eq_false h1)).trans (if_pos hf)).symm)
 ·exact call_meets F.slot_str_split (typeIs_str _ _ _) F.entry_str_split (F.args_str_split_2 _ _) (meets_str_split_cannot_occur x y t u h1)
   (h [(x,t)] s.toks (if_pos h1).symm)
end
theorem ae5(c:Nat):∀l,(spl c l).length<=l.length+1
 |[]=>by simp[spl]
 |x::r=>by
  have ih:=ae5 c r
  unfold spl
  split
  ·simp;omega
  ·split
   ·rename_i e;rw[e] at ih;simp at ih ⊢;omega
   ·simp
section
variable{X:Cx}
def arD:V->List V->Hp->VK->Prop:=fun x vs H Q=>∃(l:List Nat) (c:Nat),x=.str (Tx l)/\vs=[.str (Tx [c])]/\l.length+2<=sizeLine/\∀p,H p=none->Q (.ref p) (upd H p (.lst ((spl c l).map fun q=>V.str (Tx q))))
theorem ap2:MtR X "str.split" arD:=by
 intro pins s σ H x xs v us Q I rx rv h
 obtain⟨l,c,rfl,rfl,hz,q⟩:=h
 obtain⟨u,rfl,t',rfl⟩:=abL rv
 obtain⟨t,rfl⟩:=rx
 refine amT (by rfl) (by rw[aa2];exact hz) fun ps k e=>?_
 have e2:ps.map (fun p=>V.str p.1)=(spl c l).map fun q=>V.str (Tx q):=by
  have:=congrArg (List.map V.str) e
  rw[ao1,List.map_map,List.map_map] at this
  exact this
 have hl:((spl c l).map fun q=>V.str (Tx q)).length<=sizeLine:=by
  have:=ae5 c l
  rw[List.length_map]
  omega
 refine⟨.ref s.heap.objs.size,upd H s.heap.objs.size (.lst ((spl c l).map fun q=>V.str (Tx q))),I.laid (t':=k) (fun b u e=>Heap.get?_push_of_some _ e) (Nat.le_refl _) ?_,rfl,q _ (I.hok.fresh (Nat.le_refl _))⟩
 exact⟨hl,strValues ps,0,by rw[←e2];exact ajP ps,Heap.get?_push_size _ rfl⟩
theorem amZ{o e:Expr}{to te:TE}{apos cpos:Pos}(ho:E X o to)(he:E X e te)(hbase:attributeBase o "split" X.env (eval o X.env)=eval o X.env:=by rfl)
  (hfew:((backTo cpos (starEach [e] X.env)).all (fun x=> !x.1)&&(backToKw cpos (keywordEach [] X.env)).all (fun x=>x.1.isSome)&&decide (([e]:List Expr).length+([]:List Keyword).length+(if ([]:List Keyword).isEmpty then 0 else 1)<30))=true:=by rfl)
  (hline:(apos.endLine==cpos.line)=true:=by rfl) (hs:starEach [e] X.env=(false,eval e X.env)::starEach [] X.env:=by rfl) (hplain:(backTo cpos (starEach [] X.env)).any (·.1)=false:=by rfl):
  E X (.Call (.Attribute o "split" apos) [e] [] cpos) (tBM X.K "str" arD to (agH te aiO)):=
 ⟨al5 PySem.F.plainAttrs_str PySem.F.slot_str_split PySem.F.type_str_split ap2 ho.h (acB he.h adD hs) hbase hfew hline hs hplain⟩
theorem oInX:Op2 X (compareOp .In) (fun x y H Q=>∃(c:Nat) (l:List Nat),x=.str (Tx [c])/\y=.str (Tx l)/\Q (.bl (decide (c∈l))) H):=by
 refine⟨fun pins s σ H x y v u Q I rx ry h=>?_⟩
 obtain⟨c,l,rfl,rfl,q⟩:=h
 refine aoP pins s σ H _ _ v u Q I rx ry ⟨_,_,rfl,rfl,?_⟩
 rw[show (!(occurrences (Tx l) (Tx [c]) 0 (Tx l).length 1).isEmpty)=decide (c∈(Tx l).cps.toList) from StrLaws.found_one (Tx l) c]
 exact q
theorem aqF:Cl1 X (.builtin "len") (fun xs H Q=>∃l:List Nat,xs=[.str (Tx l)]/\l.length<=sizeLine/\Q (.int l.length) H):=by
 refine⟨fun pins s σ H xs us Q I r h=>?_⟩
 obtain⟨l,rfl,hz,q⟩:=h
 refine aj9 pins s σ H _ us Q I r ⟨Tx l,rfl,by rw[aa2];exact hz,?_⟩
 rw[aa2]
 exact q
theorem aa6:Op2 X (binaryOp .Add) (fun x y H Q=>∃a b:List Nat,x=.str (Tx a)/\y=.str (Tx b)/\a.length+b.length<=sizeLine/\Q (.str (Tx (a++b))) H):=by
 refine⟨fun pins s σ H x y v u Q I rx ry h=>?_⟩
 obtain⟨a,b,rfl,rfl,hz,q⟩:=h
 refine anD pins s σ H _ _ v u Q I rx ry ⟨_,_,rfl,rfl,by rw[aa2,aa2];exact hz,?_⟩
 have e:Tx a++Tx b=Tx (a++b):=by show Str.mk _=Str.mk _;simp
 rw[e]
 exact q
theorem xX:Ixs X (fun x y H Q=>∃(l:List Nat) (i:Int) (c:Nat),x=.str (Tx l)/\y=.int i/\l.length<=sizeLine/\atI l i=some c/\Q (.str (Tx [c])) H):=by
 refine⟨fun value slice pins s σ H x y v u Q I rx ry h hs=>?_⟩
 obtain⟨l,i,c,rfl,rfl,hz,ha,q⟩:=h
 exact azV value slice pins s σ H _ _ v u Q I rx ry ⟨Tx l,i,c,rfl,rfl,by rw[aa2];exact hz,by simpa using ha,q⟩ hs
end
end L2
namespace L2
open PySem PySem.Spec PyProof.Rows PySem.Builtin PySem.Builtin.Str
section
variable{X:Cx}{pins:List (Addr×Obj)}{σ:St}{H:Hp}{s:Shared}{h':Heap}
theorem Inv.turnT{ch:List Addr}{T:Addr}{o:HO}{t':Nat}(I:Inv X pins σ H s)(k:∀b u,b∉ch->s.heap.get? b=some u->h'.get? b=some u)(hch:∀b∈ch,acI X pins H b)(hT:s.heap.objs.size<=T)(new:ObjOk X.prog X.w (upd H T o) h' T o):
  Inv X pins σ (upd H T o) {s with heap:=h',toks:=t'}:=by
 have hn:=I.hok.fresh hT
 have nit:∀b u,H b=some u->b∉ch:=fun b u e z=>by rw[(hch b z).1] at e;cases e
 refine I.step (g':=s.gens) (d':=s.drawn) (ch:=ch) (fun b hb=>?_) (fun b u _ _ hc e _=>k b u hc e) (fun b u _ _ hc e _=>⟨u.slots,k b u hc e⟩) (fun b u _ e n=>?_)
  (fun b u hc e=>⟨u,k b u hc e⟩) (fun b xs e=>by rw[aaE (aaG e hn)];exact e) (fun b u xs e=>by rw[aaE (aaG e hn)];exact e) (fun b ps e=>⟨#[],by rw[aaE (aaG e hn),e];simp⟩) (fun m hm=>?_) (fun b u e=>?_) I.bare
 ·obtain⟨f0,f1,f2,f3,f4,f5⟩:=hch b hb
  exact⟨f3,f1,f4,f5⟩
 ·rw[aaE (Nat.ne_of_lt (Nat.lt_of_lt_of_le (Heap.lt_size e) hT))]
  exact n
 ·obtain⟨ob,es,ep,ho,r⟩:=hm
  exact⟨ob,es,ep,k _ ob (fun z=>(hch _ z).2.1 rfl) ho,r⟩
 ·by_cases hb:b=T
  ·subst hb;rw[aaA] at e;cases e;exact new
  ·rw[aaE hb] at e
   refine (I.hok b u e).stay (fun c v hc q=>k c v ?_ q) (fun c q=>by rw[aaE (aaG q hn)];exact q) fun c xs q=>by rw[aaE (aaG q hn)];exact q
   rcases hc with z | z
   ·rw[z];exact nit b u e
   ·exact nit c _ z
theorem Inv.turnN{ch:List Addr}{t':Nat}(I:Inv X pins σ H s)(k:∀b u,b∉ch->s.heap.get? b=some u->h'.get? b=some u)(hch:∀b∈ch,acI X pins H b):Inv X pins σ H {s with heap:=h',toks:=t'}:=by
 have nit:∀b u,H b=some u->b∉ch:=fun b u e z=>by rw[(hch b z).1] at e;cases e
 refine I.step (g':=s.gens) (d':=s.drawn) (ch:=ch) (fun b hb=>?_) (fun b u _ _ hc e _=>k b u hc e) (fun b u _ _ hc e _=>⟨u.slots,k b u hc e⟩) (fun b u _ e n=>n)
  (fun b u hc e=>⟨u,k b u hc e⟩) (fun b xs e=>e) (fun b u xs e=>e) (fun b ps e=>⟨#[],by rw[e];simp⟩) (fun m hm=>?_) (fun b u e=>?_) I.bare
 ·obtain⟨f0,f1,f2,f3,f4,f5⟩:=hch b hb
  exact⟨f3,f1,f4,f5⟩
 ·obtain⟨ob,es,ep,ho,r⟩:=hm
  exact⟨ob,es,ep,k _ ob (fun z=>(hch _ z).2.1 rfl) ho,r⟩
 ·refine (I.hok b u e).stay (fun c v hc q=>k c v ?_ q) (fun c q=>q) fun c xs q=>q
  rcases hc with z | z
  ·rw[z];exact nit b u e
  ·exact nit c _ z
end
def Ite(K:PySem.W.Frag)(a:Addr):It:=
 ⟨fun i H=>∃xs x,SqL K H a xs/\xs[i]? =some x,fun i H v H'=>∃T,v=.ref T/\H T=none/\∀xs,SqL K H a xs->∃x,xs[i]? =some x/\H'=upd H T (.tup [.int i,x]),fun i H=>∃xs,SqL K H a xs/\xs.length=i⟩
theorem apB{P:Program}{w:World}{K:PySem.W.Frag}{es:List Expr}{kk:Nat}{pos:Pos}(a e it:Addr)(hne:e≠it):Turn P w K (.Tuple es kk pos) (Ite K a) [e,it] e (fun i h=>(∃old,IsEnum h e it i old)/\h.IsListIter it a i) where
 mem:=by simp
 obj:=fun i h st b hb=>by
  obtain⟨⟨old,he⟩,o,e1,c,d⟩:=st
  rcases List.mem_cons.mp hb with z | z
  ·subst z
   exact⟨_,he,fun v q=>by
    have q':Data.fields _=Data.cell v:=q
    cases q'⟩
  ·have z:b=it:=by simpa using z
   subst z
   exact⟨o,e1,fun v q=>by rw[d] at q;cases q⟩
 keep:=fun i h h' st k=>by
  obtain⟨⟨old,he⟩,hit⟩:=st
  exact⟨⟨old,k e (by simp) _ he⟩,hit.at fun o q=>k it (by simp) o q⟩
 item:=by
  intro X hP hw hK hc i pins s σ H E I hf st hg
  subst hP hw hK
  obtain⟨xs,x,hq,hx⟩:=hg
  obtain⟨⟨old,he⟩,hit⟩:=st
  obtain⟨its,rv,p,hz⟩:=I.list hq
  obtain⟨u,hu,ru⟩:=rv.get hx
  refine wpAny_pyNext_enum_item he hit p.isList (x:=u) (by simpa using hu) hne fun h1 ho hit1 hT hsz hk=>?_
  refine⟨_,rfl,wpAny_letOwnedTupleGo_enum ho fun h2 he2 sb=>?_⟩
  have ele:e<s.heap.objs.size:=Heap.lt_size he
  have k2:∀b ob,b∉[e,it]->s.heap.get? b=some ob->h2.get? b=some ob:=fun b ob hb q=>by
   have n1:b≠e:=fun z=>hb (by simp[z])
   have n2:b≠it:=fun z=>hb (by simp[z])
   exact (sb.2 b n1).trans (hk b ob n1 n2 q)
  have hTn:s.heap.objs.size≠e:=Nat.ne_of_gt ele
  have hT2:h2.get? s.heap.objs.size=some {cls:=.type "tuple",data:=.seq #[.int i s.toks,u]}:=(sb.2 _ hTn).trans hT
  have hn:=I.hok.fresh (Nat.le_refl s.heap.objs.size)
  have I2:Inv X pins σ (upd H s.heap.objs.size (.tup [.int i,x])) {s with heap:=h2,toks:=s.toks+1}:=I.turnT k2 hf (Nat.le_refl _) ⟨by show 2<=sizeLine;decide,[.int i s.toks,u],.cons ⟨_,rfl⟩ (.cons ru .nil),⟨_,hT2,rfl,_,rfl⟩⟩
  refine⟨.ref s.heap.objs.size,_,I2,rfl,⟨s.heap.objs.size,rfl,hn,fun ys hy=>⟨x,by rw[I.list_inj hy hq];exact hx,rfl⟩⟩,⟨⟨_,by simpa using he2⟩,hit1.at fun o q=>(sb.2 it (Ne.symm hne)).trans q⟩,fun b hb=>?_⟩
  have hblt:b<s.heap.objs.size:=by
   rcases List.mem_cons.mp hb with z | z
   ·rw[z];exact ele
   ·have z:b=it:=by simpa using z
    obtain⟨o,q,_⟩:=hit
    rw[z];exact Heap.lt_size q
  rw[aaE (Nat.ne_of_lt hblt)]
  exact (hf b hb).1
 done:=by
  intro X hP hw hK hc i pins s σ H E I hf st hg
  subst hP hw hK
  obtain⟨xs,hq,hx⟩:=hg
  obtain⟨⟨old,he⟩,hit⟩:=st
  obtain⟨its,rv,p,hz⟩:=I.list hq
  have hl:=rv.length
  refine wpAny_pyNext_enum_end (I.ok.hd hc) he hit p.isList (by simp;omega) fun h' hk=>⟨rfl,?_⟩
  exact I.turnN (ch:=[e,it]) (t':=s.toks) (fun b ob hb q=>hk b ob (fun z=>hb (by simp[z])) q) hf
 self:=fun _ _ _ _ _ st h=>by
  obtain⟨⟨old,he⟩,_⟩:=st
  exact wpAny_pyIter_enum he h
section
variable{X:Cx}{es:List Expr}{kk:Nat}{tpos:Pos}
def iEnu(K:PySem.W.Frag)(tl:TE):TI:=fun σ H R=>tl σ H fun x H1=>∃a,x=.ref a/\(∃xs,SqL K H1 a xs)/\R (Ite K a) H1
theorem apJ:bootBuiltins "enumerate"=some (.type "enumerate"):=by decide +kernel
theorem iE{l:Expr}{tl:TE}{p pos:Pos}(hm:X.mg "enumerate"=none)(hl:E X l tl)(hg:Gl X "enumerate":=by rfl)(hs:starEach [l] X.env=[(false,eval l X.env)]:=by rfl):
  Il X (.Tuple es kk tpos) (.Call (.Name "enumerate" p) [l] [] pos) (iEnu X.K tl):=by
 refine⟨fun pins s σ H R I h=>?_⟩
 have hA:PA X [l] (agH tl aiO):=acB hl.h adD hs
 refine Call_ (ah1 I hg hm apJ (PyProof.Rows.callWith_type1 (thn (hA pos pins s σ H (fun vs H1=>match vs with | [x]=>∃a,x=.ref a/\(∃xs,SqL X.K H1 a xs)/\R (Ite X.K a) H1 | _=>False) I ?_) fun us s1 ⟨vs,H1,I1,r1,q1⟩=>?_) hs rfl))
 ·exact h
 match vs,q1,r1 with
 |[x],q1,r1=>?_
 obtain⟨a,rfl,⟨xs,hq⟩,q⟩:=q1
 obtain⟨u,rfl,rx⟩:=abL r1
 cases rx
 obtain⟨its,rv,pl,hz⟩:=I1.list hq
 refine call_enumerate_list pl.isList fun h' he hit hsz hk=>?_
 refine wpAny_pyIter_enum he ?_
 have I2:Inv X pins σ H1 {s1 with heap:=h'}:=I1.kept (t':=s1.toks) hk
 have hne:s1.heap.objs.size+1≠s1.heap.objs.size:=Nat.ne_of_gt (Nat.lt_succ_self _)
 refine⟨s1.heap.objs.size+1,[s1.heap.objs.size+1,s1.heap.objs.size],_,_,H1,rfl,I2,apB a _ _ hne,⟨⟨_,he⟩,hit⟩,fun b hb=>?_,q⟩
 have hb2:s1.heap.objs.size<=b:=by
  rcases List.mem_cons.mp hb with z | z
  ·rw[z];exact Nat.le_succ _
  ·have z:b=s1.heap.objs.size:=by simpa using z
   rw[z];exact Nat.le_refl _
 exact I1.fpOk hb2 (I1.hok.fresh hb2)
end
theorem amJ{K:PySem.W.Frag}{a:Addr}{xs:List V}{g:TG}{tb:TS}{D:Ends}{σ:St}{H:Hp}(Pv:Nat->St->Hp->Prop)(h0:Pv 0 σ H)(hl:∀i σ H,i<=xs.length->Pv i σ H->SqL K H a xs)
  (hs:∀i x σ H T,xs[i]? =some x->Pv i σ H->H T=none->g (.ref T) σ (upd H T (.tup [.int i,x])) fun σ2 H2=>tb {D with nx:=Pv (i+1),ct:=Pv (i+1),bk:=D.nx} σ2 H2) (hd:∀σ H,Pv xs.length σ H->D.nx σ H):
  ∃W:Nat->Nat->St->Hp->Prop,(∃m,W 0 m σ H)/\∀i m σ H,W i m σ H->
   ((Ite K a).stop i H/\D.nx σ H)∨((Ite K a).go i H/\∃N:St->Hp->Prop,(∀σ' H',N σ' H'->∃m',m'<m/\W (i+1) m' σ' H')/\∀x H',(Ite K a).yld i H x H'->g x σ H' fun σ2 H2=>tb {D with nx:=N,ct:=N,bk:=D.nx} σ2 H2):=by
 refine⟨fun i m σ H=>m=xs.length-i/\i<=xs.length/\Pv i σ H,⟨xs.length,by simp,Nat.zero_le _,h0⟩,?_⟩
 rintro i m σ H ⟨rfl,hi,p⟩
 have hq:=hl i σ H hi p
 by_cases hlt:i<xs.length
 ·refine .inr ⟨⟨xs,xs[i],hq,by simp[hlt]⟩,Pv (i+1),fun σ' H' p'=>⟨xs.length-(i+1),by omega,rfl,hlt,p'⟩,fun x H' y=>?_⟩
  obtain⟨T,rfl,hT,hy⟩:=y
  obtain⟨x,hx,rfl⟩:=hy xs hq
  exact hs i x σ H T hx p hT
 ·have e:i=xs.length:=by omega
  subst e
  exact .inl ⟨⟨xs,hq,rfl⟩,hd σ H p⟩
def num(m:Nat):List Nat:=(Nat.toDigits 10 m).map Char.toNat
section
variable{X:Cx}
theorem aH5:Cl1 X (.type "int") (fun xs H Q=>∃l:List Nat,xs=[.str (Tx l)]/\PySem.NumText.AllDigits l/\l≠[]/\l.length<=640/\Q (.int ((PySem.NumText.digitsVal l:Nat):Int)) H):=by
 refine⟨fun pins s σ H xs us Q I r h=>?_⟩
 obtain⟨l,rfl,h1,h2,h3,q⟩:=h
 obtain⟨u,rfl,t,rfl⟩:=abL r
 refine PySem.W.KIN.call_text (PySem.intText_digits (x:=Tx l) (by simpa using h1) (by simpa using h2) (by rw[aa2];omega)) (by rw[aa2];exact h3) ?_
 exact⟨.int _,H,I.tok _,⟨_,rfl⟩,by simpa using q⟩
theorem acA:Cl1 X (.type "str") (fun xs H Q=>∃n:Nat,xs=[.int n]/\n<10^500/\Q (.str (Tx (num n))) H):=by
 refine⟨fun pins s σ H xs us Q I r h=>?_⟩
 obtain⟨n,rfl,hn,q⟩:=h
 refine akG pins s σ H _ us Q I r ⟨(n:Int),rfl,?_,?_⟩
 ·by_cases h0:n=0
  ·subst h0;decide
  ·have:n<2^1900:=Nat.lt_of_lt_of_le hn (by decide +kernel)
   have:=(Nat.log2_lt h0).mpr this
   show (n:Int).natAbs.log2<1920
   simp only[Int.natAbs_natCast]
   omega
 ·have e:PySem.Str.ofString (toString (n:Int))=Tx (num n):=by
   rw[←axG (PySem.Str.ofString (toString (n:Int)))]
   exact congrArg (fun z=>Tx z) (PySem.W.KIN.signs_num n)
  show Q (.str (PySem.Str.ofString (toString (n:Int)))) H
  rw[e]
  exact q
end
end L2
namespace L2
open PySem PySem.Spec PyProof.Rows PySem.Builtin PySem.Builtin.Str
theorem ifT{b:Bool}{A B:Prop}(e:b=true)(h:A):if b=true then A else B:=by rw[if_pos e];exact h
theorem ifF{b:Bool}{A B:Prop}(e:b=false)(h:B):if b=true then A else B:=by rw[if_neg (by rw[e];exact Bool.false_ne_true)];exact h
theorem if2{b:Bool}{A B:Prop}(h1:b=true->A)(h2:b=false->B):if b=true then A else B:=by
 cases b
 ·exact ifF rfl (h2 rfl)
 ·exact ifT rfl (h1 rfl)
theorem apZ(a b:List Nat):decide (V.str (Tx a)=V.str (Tx b))=decide (a=b):=decide_eq_decide.mpr ⟨fun h=>Tx_inj.mp (V.str.inj h),fun h=>by rw[h]⟩
section
variable{X:Cx}{pos:Pos}
theorem eSx{z:Str}{j}(l:List Nat)(h:z=Tx l:=by decide +kernel):E X (.Constant (.str z) j pos) (tC (.str (Tx l))):=by
 subst h
 exact⟨ap4⟩
end
def aeF(c:Nat):Bool:=decide (48<=c)&&decide (c<=57)
def aCL:List Nat:=[48,49,50,51,52,53,54,55,56,57]
theorem apQ(c:Nat):decide (c∈aCL)=aeF c:=by
 unfold aCL aeF
 rw[Bool.eq_iff_iff,decide_eq_true_eq,Bool.and_eq_true,decide_eq_true_eq,decide_eq_true_eq]
 simp
 omega
def ajT(l:List Nat):Bool:= !decide (l=[])&&l.all aeF
def isW(l:List Nat):Bool:=ajT l&&(decide (l=[48])|| !decide (l.headD 0=48))
def dv(l:List Nat):Int:=((PySem.NumText.digitsVal l:Nat):Int)
def aaO(lo hi:Int)(l:List Nat):Option Int:=if isW l=true then (if lo<=dv l/\dv l<=hi then some (dv l) else none) else none
def oV:Option Int->V
 |none=>.non
 |some n=>.int n
def agD(es:List (Option Int)):Option (Int×Int):=match es with
 |[some a]=>some (a,a)
 |[some a,some b]=>if b<a then none else some (a,b)
 |_=>none
def aaN(lo hi:Int)(l:List Nat):Option (Int×Int):=if l=[42] then some (lo,hi) else agD ((spl 45 l).map (aaO lo hi))
@[irreducible] def ab5(a b s:Int):List Int:=(List.range (Builtin.Range.rangeSize a (b+1) s).toNat).map fun i:Nat=>a+(i:Int)*s
theorem abV(a b s:Int):ab5 a b s=(List.range (Builtin.Range.rangeSize a (b+1) s).toNat).map fun i:Nat=>a+(i:Int)*s:=by rw[ab5]
def ad1(a b s:Int):Int:=aa4 (ab5 a b s)
def aaY(lo hi:Int)(r s:List Nat):Option Int:=
 match aaN lo hi r,aaO 1 99 s with
 |some (a,b),some st=>some (ad1 a (if isW r=true then hi else b) st)
 |_,_=>none
def aaD(lo hi:Int)(l:List Nat):Option Int:=
 match spl 47 l with
 |[r,s]=>aaY lo hi r s
 |_=>match aaN lo hi l with
  |some (a,b)=>some (ad1 a b 1)
  |none=>none
theorem ahR{l:List Nat}(h:isW l=true):PySem.NumText.AllDigits l/\l≠[]:=by
 unfold isW ajT at h
 rw[Bool.and_eq_true,Bool.and_eq_true] at h
 refine⟨fun c hc=>?_,fun e=>?_⟩
 ·have:=List.all_eq_true.mp h.1.2 c hc
  unfold aeF at this
  rw[Bool.and_eq_true] at this
  exact⟨of_decide_eq_true this.1,of_decide_eq_true this.2⟩
 ·rw[decide_eq_true e] at h
  exact absurd h.1.1 (by decide)
theorem agZ{a b s:Int}(hs:0<s):Builtin.Range.rangeSize a (b+1) s=if a<=b then (b-a) / s+1 else 0:=by
 unfold Builtin.Range.rangeSize
 rw[if_pos hs]
 by_cases c:a<=b
 ·rw[if_pos c,if_pos (by omega),show b+1-a-1=b-a by omega]
 ·rw[if_neg c,if_neg (by omega)]
theorem agW{a b s z:Int}(hs:0<s):z∈ab5 a b s↔a<=z/\z<=b/\(z-a)%s=0:=by
 rw[abV,List.mem_map,agZ hs]
 refine⟨fun ⟨i,hi,e⟩=>?_,fun ⟨h1,h2,h3⟩=>?_⟩
 ·subst e
  by_cases c:a<=b
  ·rw[if_pos c,List.mem_range] at hi
   have hq:(i:Int)<=(b-a) / s:=by
    have:0<=(b-a) / s:=Int.ediv_nonneg (by omega) (by omega)
    omega
   have hm:(i:Int)*s<=(b-a) / s*s:=Int.mul_le_mul_of_nonneg_right hq (by omega)
   have hd:(b-a) / s*s<=b-a:=Int.ediv_mul_le _ (by omega)
   have h0:0<=(i:Int)*s:=Int.mul_nonneg (by omega) (by omega)
   refine⟨by omega,by omega,?_⟩
   rw[show a+(i:Int)*s-a=(i:Int)*s by omega]
   exact Int.mul_emod_left _ _
  ·rw[if_neg c,List.mem_range] at hi
   exact absurd hi (by simp)
 ·rw[if_pos (by omega)]
  have hd:s*((z-a) / s)+(z-a)%s=z-a:=Int.mul_ediv_add_emod _ _
  rw[h3,Int.add_zero] at hd
  have h0:0<=(z-a) / s:=Int.ediv_nonneg (by omega) (by omega)
  have hle:(z-a) / s<=(b-a) / s:=Int.ediv_le_ediv hs (by omega)
  refine⟨((z-a) / s).toNat,List.mem_range.mpr (by omega),?_⟩
  rw[Int.toNat_of_nonneg h0,Int.mul_comm]
  omega
theorem acZ{a b s:Int}(h0:0<=a)(h1:b<=1000)(hs:0<s):(Builtin.Range.rangeSize a (b+1) s).toNat<=1001/\Builtin.Range.rangeSize a (b+1) s=((Builtin.Range.rangeSize a (b+1) s).toNat:Int):=by
 have hz:=an7 (a:=a) (b:=b+1) hs
 refine⟨?_,by omega⟩
 rw[agZ hs]
 split
 ·have:(b-a) / s<=b-a:=Int.ediv_le_self _ (by omega)
  omega
 ·decide
theorem acO{a b s:Int}(h0:0<=a)(ha:a<=1000)(h1: -1<=b)(hb:b<=1000)(hs:0<s)(hs2:s<=1000):Builtin.Range.small a (b+1) s=true:=by
 have hl:=acZ h0 hb hs
 have hz:=an7 (a:=a) (b:=b+1) hs
 unfold Builtin.Range.small
 simp only[Builtin.Range.rangeFitsLong,Bool.and_eq_true,Bool.or_eq_true,decide_eq_true_eq,beq_iff_eq]
 refine⟨⟨⟨⟨?_,?_⟩,?_⟩,?_⟩,.inr ?_⟩
 ·exact⟨by omega,by omega⟩
 ·exact⟨by omega,by omega⟩
 ·exact⟨by omega,by omega⟩
 ·exact⟨by omega,by omega⟩
 ·rw[if_pos hs]
  simp only[Bool.and_eq_true,decide_eq_true_eq]
  exact⟨by omega,by omega⟩
end L2
namespace L2
open PySem PySem.Spec PyProof.Rows PySem.Builtin PySem.Builtin.Str
theorem ahV{lo hi a:Int}{l:List Nat}(h:aaO lo hi l=some a):lo<=a/\a<=hi:=by
 unfold aaO at h
 split at h
 ·split at h
  ·rename_i c
   have:=Option.some.inj h
   omega
  ·cases h
 ·cases h
theorem ac0{lo hi a b:Int}{l:List Nat}(hle:lo<=hi)(h:aaN lo hi l=some (a,b)):(lo<=a/\a<=hi)/\lo<=b/\b<=hi:=by
 unfold aaN at h
 split at h
 ·cases h;omega
 ·have key:∀es:List (Option Int),(∀e∈es,∀x,e=some x->lo<=x/\x<=hi)->agD es=some (a,b)->(lo<=a/\a<=hi)/\lo<=b/\b<=hi:=by
   intro es hb h
   match es,hb,h with
   |[some x],hb,h=>
    have h:some (x,x)=some (a,b):=h
    cases h
    have:=hb _ (by simp) a rfl
    exact⟨this,this⟩
   |[some x,some y],hb,h=>
    have h:(if y<x then none else some (x,y))=some (a,b):=h
    split at h
    ·cases h
    ·cases h
     exact⟨hb (some a) (by simp) a rfl,hb (some b) (by simp) b rfl⟩
   |[],_,h=>cases h
   |[none],_,h=>cases h
   |[none,y],_,h=>cases h
   |[some x,none],_,h=>cases h
   |x::y::u::r,_,h=>cases x<;>cases y<;>cases h
  refine key _ (fun e he x hx=>?_) h
  obtain⟨w,_,rfl⟩:=List.mem_map.mp he
  exact ahV hx
def orM(ms:List Int):Int:=ms.foldl (fun a m=>Builtin.bitOr a m) 0
theorem al2(ms:List Int)(m:Int):orM (ms++[m])=Builtin.bitOr (orM ms) m:=by unfold orM;rw[List.foldl_append];rfl
theorem ahL:∀(ms:List Int) (a:Int),0<=a->(∀m∈ms,0<=m)->0<=ms.foldl (fun a m=>Builtin.bitOr a m) a/\∀i,tb (ms.foldl (fun a m=>Builtin.bitOr a m) a) i=(tb a i||ms.any fun m=>tb m i)
 |[],a,h,_=>⟨h,fun i=>by simp⟩
 |m::ms,a,h,hm=>by
  have hp:=hm m (by simp)
  obtain⟨h1,h2⟩:=ahL ms (Builtin.bitOr a m) (alC h hp) fun z hz=>hm z (by simp[hz])
  refine⟨h1,fun i=>?_⟩
  show tb (ms.foldl _ (Builtin.bitOr a m)) i=_
  rw[h2 i,arL h hp,List.any_cons,Bool.or_assoc]
theorem aeP{ms:List Int}(h:∀m∈ms,0<=m):0<=orM ms:=(ahL ms 0 (Int.le_refl 0) h).1
theorem aeM{ms:List Int}(h:∀m∈ms,0<=m)(i:Nat):tb (orM ms) i=ms.any fun m=>tb m i:=by
 have:=(ahL ms 0 (Int.le_refl 0) h).2 i
 rw[acC,Bool.false_or] at this
 exact this
theorem aoH(a b s:Int):0<=ad1 a b s:=aa8 _
theorem alK{lo hi m:Int}{l:List Nat}(h:aaD lo hi l=some m):0<=m:=by
 unfold aaD aaY at h
 split at h
 ·split at h
  ·cases h;exact aoH _ _ _
  ·cases h
 ·split at h
  ·cases h;exact aoH _ _ _
  ·cases h
def abP(lo hi:Int)(l:List Nat):List Int:=(spl 44 l).map fun w=>(aaD lo hi w).getD 0
def anV(lo hi:Int)(l:List Nat):Prop:=(spl 44 l).length<=40/\∀w∈spl 44 l,(aaD lo hi w).isSome=true
theorem afK:∀n:Nat,n<100->isW (num n)=true/\dv (num n)=(n:Int)/\((num n).all fun c=>aeF c)=true/\(num n).length<=2:=by decide +kernel
theorem aa0{n c:Nat}(h:n<100)(hc:aeF c=false):c∉num n:=fun hm=>by
 have:=List.all_eq_true.mp (afK n h).2.2.1 c hm
 rw[hc] at this
 cases this
theorem az0{n:Nat}(h:n<100):num n≠[42]:=fun e=>by
 have:=aa0 h (c:=42) (by decide)
 rw[e] at this
 exact this (by simp)
theorem adV{n:Nat}{lo hi:Int}(h:n<100)(h1:lo<=n)(h2:(n:Int)<=hi):aaO lo hi (num n)=some (n:Int):=by
 obtain⟨a,b,_⟩:=afK n h
 unfold aaO
 rw[if_pos a,b,if_pos ⟨h1,h2⟩]
theorem aAV{l:List Nat}{c:Nat}(hm:c∈l)(hc:aeF c=false):isW l=false:=by
 cases e:isW l
 ·rfl
 ·unfold isW ajT at e
  rw[Bool.and_eq_true,Bool.and_eq_true] at e
  have:=List.all_eq_true.mp e.1.2 c hm
  rw[hc] at this
  cases this
theorem aoC{n:Nat}{lo hi:Int}(h:n<100)(h1:lo<=n)(h2:(n:Int)<=hi):aaN lo hi (num n)=some ((n:Int),(n:Int)):=by
 unfold aaN
 rw[if_neg (az0 h),acR 45 _ (aa0 h (by decide))]
 show agD [aaO lo hi (num n)]=_
 rw[adV h h1 h2]
 rfl
theorem aoA{n m:Nat}{lo hi:Int}(h:n<100)(h':m<100)(h1:lo<=n)(h2:n<=m)(h3:(m:Int)<=hi):aaN lo hi (num n++45::num m)=some ((n:Int),(m:Int)):=by
 unfold aaN
 rw[if_neg (fun e=>by (have:45∈num n++45::num m:=(by simp));rw[e] at this;simp at this),ag0 45 _ _ (aa0 h (by decide)),acR 45 _ (aa0 h' (by decide))]
 show agD [aaO lo hi (num n),aaO lo hi (num m)]=_
 rw[adV h h1 (by omega),adV h' (by omega) h3]
 show (if (m:Int)<n then none else some ((n:Int),(m:Int)))=_
 rw[if_neg (by omega)]
theorem amK{lo hi:Int}:aaN lo hi [42]=some (lo,hi):=by unfold aaN;rw[if_pos rfl]
theorem ag1{lo hi a b:Int}{r:List Nat}(hf:47∉r)(h:aaN lo hi r=some (a,b)):aaD lo hi r=some (ad1 a b 1):=by
 unfold aaD
 rw[acR 47 r hf,h]
theorem ahB{lo hi a b:Int}{r:List Nat}{s:Nat}(hf:47∉r)(h:aaN lo hi r=some (a,b))(hs:s<100)(hs1:1<=s):aaD lo hi (r++47::num s)=some (ad1 a (if isW r=true then hi else b) s):=by
 unfold aaD
 rw[ag0 47 r _ hf,acR 47 _ (aa0 hs (by decide))]
 show aaY lo hi r (num s)=_
 unfold aaY
 rw[h,adV hs (by omega) (by omega)]
end L2
namespace L2
open PySem PySem.Spec PyProof.Rows PySem.Builtin PySem.Builtin.Str
theorem alH:∀{ws:List (List Nat)} {vs:List Value},Vals (ws.map fun q=>V.str (Tx q)) vs->StrsAre vs (ws.map Tx)
 |[],[],_=>.nil
 |[],_::_,h=>nomatch h
 |_::_,[],h=>nomatch h
 |w::r,v::vs,.cons h t=>by
  obtain⟨k,rfl⟩:=h
  exact .cons (Tx w) k (alH t)
theorem avN(c:Nat)(ws:List (List Nat)):Txt.join (Tx [c]) (ws.map Tx)=Tx (aaF c ws):=by
 have e1:Txt.join (Tx [c]) (ws.map Tx)=Str.join (Tx [c]) (ws.map Tx):=StrLaws.glued_eq_join _ _
 have e2:=akH c (ws.map Tx)
 rw[List.map_map] at e2
 have e3:ws.map ((fun x:Str=>x.cps.toList) ∘ Tx)=ws:=by
  have:∀l:List (List Nat),l.map ((fun x:Str=>x.cps.toList) ∘ Tx)=l:=fun l=>by
   induction l with
   |nil=>rfl
   |cons a r ih=>rw[List.map_cons,ih];simp
  exact this ws
 rw[e3] at e2
 rw[e1,←axG (Str.join (Tx [c]) (ws.map Tx)),e2]
theorem ajI(c:Nat):∀ws:List (List Nat),(ws.map (·.length)).sum+ws.length=(aaF c ws).length+(if ws=[] then 0 else 1)
 |[]=>rfl
 |[p]=>by simp[aaF]
 |p::q::r=>by
  have ih:=ajI c (q::r)
  rw[if_neg (by simp)] at ih ⊢
  simp only[List.map_cons,List.sum_cons,List.length_cons,aaF,List.length_append] at ih ⊢
  omega
section
variable{X:Cx}
def axL(K:PySem.W.Frag):V->List V->Hp->VK->Prop:=fun x vs H Q=>∃(c:Nat) (p:Addr) (ws:List (List Nat)),x=.str (Tx [c])/\vs=[.ref p]/\SqL K H p (ws.map fun q=>V.str (Tx q))/\(aaF c ws).length<=1000000/\Q (.str (Tx (aaF c ws))) H
theorem awJ:MtR X "str.join" (axL X.K):=by
 intro pins s σ H x xs v us Q I rx rv h
 obtain⟨c,p,ws,rfl,rfl,hq,hz,q⟩:=h
 obtain⟨u,rfl,r1⟩:=abL rv
 cases r1
 obtain⟨t,rfl⟩:=rx
 obtain⟨its,rv2,pl,hz2⟩:=I.list hq
 have hj:=ajI c ws
 have hw:((ws.map Tx).map (·.length)).sum+(ws.map Tx).length<=1048576:=by
  rw[List.map_map,List.length_map]
  have e:ws.map ((fun x:Str=>x.length) ∘ Tx)=ws.map (·.length):=List.map_congr_left fun a _=>aa2 a
  rw[e]
  split at hj<;>omega
 refine join_listW pl.isList (ys:=ws.map Tx) (by simpa using alH rv2) (by rw[aa2];show 1<=16;decide) hw fun t' k=>?_
 refine⟨.str (Tx (aaF c ws)),H,I.kept (t':=k) fun _ _ e=>e,⟨t',by rw[avN]⟩,q⟩
theorem ac9{o e:Expr}{to te:TE}{apos cpos:Pos}(ho:E X o to)(he:E X e te)(hbase:attributeBase o "join" X.env (eval o X.env)=eval o X.env:=by rfl)
  (hfew:((backTo cpos (starEach [e] X.env)).all (fun x=> !x.1)&&(backToKw cpos (keywordEach [] X.env)).all (fun x=>x.1.isSome)&&decide (([e]:List Expr).length+([]:List Keyword).length+(if ([]:List Keyword).isEmpty then 0 else 1)<30))=true:=by rfl)
  (hline:(apos.endLine==cpos.line)=true:=by rfl) (hs:starEach [e] X.env=(false,eval e X.env)::starEach [] X.env:=by rfl) (hplain:(backTo cpos (starEach [] X.env)).any (·.1)=false:=by rfl):
  E X (.Call (.Attribute o "join" apos) [e] [] cpos) (tBM X.K "str" (axL X.K) to (agH te aiO)):=
 ⟨al5 PySem.F.plainAttrs_str PySem.F.slot_str_join PySem.F.type_str_join awJ ho.h (acB he.h adD hs) hbase hfew hline hs hplain⟩
theorem aEZ:Op2 X (binaryOp .Add) (fun x y H Q=>∃(a b:Addr) (xs ys:List V),x=.ref a/\y=.ref b/\SqL X.K H a xs/\SqL X.K H b ys/\xs.length+ys.length<=sizeLine/\∀p,H p=none->Q (.ref p) (upd H p (.lst (xs++ys)))):=by
 refine⟨fun pins s σ H x y v u Q I rx ry h=>?_⟩
 obtain⟨a,b,xs,ys,rfl,rfl,ha,hb,hz,q⟩:=h
 cases rx
 cases ry
 obtain⟨i1,r1,p1,z1⟩:=I.list ha
 obtain⟨i2,r2,p2,z2⟩:=I.list hb
 obtain⟨⟨cls,dd,data,sl⟩,ho,hc,n,hd⟩:=p1.isList
 obtain⟨⟨cls2,dd2,data2,sl2⟩,ho2,hc2,n2,hd2⟩:=p2.isList
 simp only at hc hd hc2 hd2
 subst hc hd hc2 hd2
 have l1:=r1.length
 have l2:=r2.length
 refine concat_meets ⟨_,ho,rfl⟩ ⟨_,ho2,rfl⟩ noFill_list_add seq_list_add PySem.F.slot_list_add PySem.F.entry_list_add (PySem.F.args_list_add_2 _ _) (list_addW a b _ _ n n2 dd dd2 sl sl2 (by simp only[List.size_toArray];omega)) ⟨ho,ho2,?_⟩
 refine⟨.ref s.heap.objs.size,upd H s.heap.objs.size (.lst (xs++ys)),I.laid (t':=s.toks) (fun b u e=>Heap.get?_push_of_some _ e) (Nat.le_refl _) ?_,rfl,q _ (I.hok.fresh (Nat.le_refl _))⟩
 exact⟨by rw[List.length_append];exact hz,i1++i2,0,r1.append r2,by simpa using Heap.get?_push_size _ rfl⟩
end
def azG(J:It)(k:Nat)(js:List Nat)(g:TG)(σ:St)(tt:TT)(te:TE)(Q:VK)(H1:Hp):Prop:=∀D,H1 D=none->∃W:Nat->Nat->Hp->Prop,(∃m,W 0 m (upd H1 D (.lst [])))/\∀i m H2,W i m H2->
 (J.stop i H2/\Q (.ref D) H2)∨(J.go i H2/\∀v H3,J.yld i H2 v H3->∀τ:St,τ.length=k->g v (τ++aaT js σ) H3 fun σ2 H3'=>(∃τ':St,τ'.length=k/\σ2=τ'++aaT js σ)/\tt σ2 H3' fun b H4=>if b=true then
  te σ2 H4 fun y H5=>∃ys,H5 D=some (.lst ys)/\ys.length<sizeLine/\∃m',m'<m/\W (i+1) m' (upd H5 D (.lst (ys++[y])))
  else ∃m',m'<m/\W (i+1) m' H4)
section
variable{X:Cx}{elt iter tg:Expr}{xs:List Str}{y:Str}{py pos spos:Pos}{ifs:List Expr}{scope:Scope}{cl:List (Str×Addr)}{N':List Str}{js:List Nat}{tt:TT}{te:TE}{g:TG}{wi:TI}
theorem al8{pins:List (Addr×Obj)}{σ:St}{H:Hp}{s s4:Shared}{fp:List Addr}{C:Addr}{m4:Str->Option Value}(hcl:Clos X scope cl)(hN:js.map (fun j=>X.N[j]?)=N'.map some)
  (hk:N'.all (fun y=>(X.env.kindOf y==some .cell)||(X.env.kindOf y==some .free))=true) (hf:N'.all (fun y=>scope.names.lookup y==some .free)=true)
  (I:Inv X pins σ H s) (hfp:∀b∈fp,acI X pins H b/\b<s.heap.objs.size) (hC:C=s.heap.objs.size) (ho:s4.os=s.os) (hg:s4.gens=s.gens) (hkeep:∀b o,s.heap.get? b=some o->s4.heap.get? b=some o) (hn:s4.heap.Ns C m4):
  Inv (aaI X (xs++N') scope cl C fp pins s H) [] (List.replicate xs.length none++aaT js σ) H s4:=by
 have hne:∀b o,s.heap.get? b=some o->b≠C:=fun b o e=>by rw[hC];exact Nat.ne_of_lt (Heap.lt_size e)
 refine⟨⟨I.ok.mod,hcl.kind,I.ok.glob,I.ok.blt,Nat.le_of_eq hC.symm,fun y z c h1 h2=>I.ok.inj y z c (hcl.sub y c h1) (hcl.sub z c h2),fun y hy=>hcl.has y (ai4 (fun z=>hcl.nocell _ (PySem.mem_of_lookup z) rfl) (by rw[←acY];exact hy)),fun y c h _=>(nomatch h),I.ok.hd,I.ok.frames,.inl rfl,fun b hb=>⟨?_,fun y c e=>(hfp b hb).1.2.2.2.2.1 y c (hcl.sub y c e)⟩,
  I.bs,Nat.le_trans I.ok.bsz I.sz,fun b o e hb=>?_,fun b hb hz=>?_,I.stack,I.stkFree⟩,ho,by rw[hg];exact I.bare,Un.kept hkeep,⟨m4,hn,fun i y v h1 h2 h3=>?_⟩,fun y c e=>?_,?_,fun y c e=>I.freeC y c (hcl.sub y c e),fun p hp=>?_,I.hok.kept hkeep,?_⟩
 ·rw[hC];exact Nat.ne_of_lt (hfp b hb).2
 ·rcases (hfp b hb).1.2.2.2.1 with z | z
  ·exact I.ok.noex b o e z
  ·exact absurd (Nat.lt_of_lt_of_le (Heap.lt_size e) (Nat.le_trans I.ok.bsz z)) (Nat.lt_irrefl _)
 ·rcases List.mem_cons.mp (I.stkSub b hz) with z | z
  ·exact (hfp b hb).1.2.1 z
  ·exact (hfp b hb).1.2.2.1 z
 ·by_cases hi:i<xs.length
  ·rw[List.getElem?_append_left (by rw[List.length_replicate];exact hi),List.getElem?_replicate,if_pos hi] at h2
   exact nomatch h2
  ·obtain⟨j0,rfl⟩:∃j0,i=xs.length+j0:=⟨i-xs.length,by omega⟩
   have h1:N'[j0]? =some y:=by
    have h1:(xs++N')[xs.length+j0]? =some y:=h1
    rw[List.getElem?_append_right (Nat.le_add_right _ _),Nat.add_sub_cancel_left] at h1
    exact h1
   have h2:(aaT js σ)[j0]? =some (some v):=by rw[List.getElem?_append_right (by rw[List.length_replicate];exact Nat.le_add_right _ _),List.length_replicate,Nat.add_sub_cancel_left] at h2;exact h2
   generalize j0=i at h1 h2
   have hy:y∈N':=List.mem_of_getElem? h1
   have q:(js.map (fun j=>X.N[j]?))[i]? =some (some y):=by rw[hN,List.getElem?_map,h1];rfl
   rw[List.getElem?_map] at q
   cases ej:js[i]? with
   |none=>rw[ej] at q;cases q
   |some j=>
    rw[ej] at q
    have q:X.N[j]? =some y:=Option.some.inj q
    unfold aaT at h2
    rw[List.getElem?_map,ej] at h2
    have h2:(σ[j]?).getD none=some v:=Option.some.inj h2
    have h2:σ[j]? =some (some v):=by
     cases e:σ[j]? with
     |none=>rw[e] at h2;cases h2
     |some o=>rw[e] at h2;exact congrArg some h2
    have kk:=List.all_eq_true.mp hk y hy
    have kk:X.env.kindOf y=some .cell∨X.env.kindOf y=some .free:=by simpa using kk
    have ff:=List.all_eq_true.mp hf y hy
    have ff:scope.names.lookup y=some .free:=by simpa using ff
    obtain⟨m,_,hl⟩:=I.loc
    obtain⟨u,r,l⟩:=hl j y v q h2 (by rcases kk with z | z;exact .inr (.inl z);exact .inr (.inr z))
    refine⟨u,r,.inr ⟨afB ff,?_⟩⟩
    obtain⟨c,hc⟩:=hcl.has y ff
    rcases l with ⟨z,_⟩ | ⟨_,c',e',cell⟩
    ·rcases kk with k | k<;>(rw[k] at z;cases z)
    ·rw[hcl.sub y c hc] at e'
     cases e'
     exact⟨c,hc,cell.keeps hkeep⟩
 ·obtain⟨v,q⟩:=I.cell y c (hcl.sub y c e)
  exact⟨v,q.keeps hkeep⟩
 ·show H C=none
  rw[hC]
  exact I.hok.fresh (Nat.le_refl _)
 ·have hp:p∈X.pn++pins:=by
   have hp:p∈(X.pn++pins)++[]:=hp
   rwa [List.append_nil] at hp
  obtain⟨e,n,ne,nf,d⟩:=I.pin p hp
  refine⟨hkeep _ _ e,n,hne _ _ e,fun z=>?_,d⟩
  rcases List.mem_cons.mp (I.stkSub p.1 z) with z | z
  ·exact ne z
  ·exact nf z
 ·show (List.replicate xs.length none++aaT js σ).length=(xs++N').length
  rw[List.length_append,List.length_append,List.length_replicate]
  have q:=congrArg List.length hN
  rw[List.length_map,List.length_map] at q
  unfold aaT
  rw[List.length_map,q]
theorem apC{pins:List (Addr×Obj)}{σ σ':St}{H H':Hp}{s s':Shared}{fp:List Addr}{C:Addr}(I:Inv X pins σ H s)(hfp:∀b∈fp,acI X pins H b)(J:Inv (aaI X (xs++N') scope cl C fp pins s H) [] σ' H' s'):Inv X pins σ H' s':=
 I.call' (ch:=fp) J.os J.base J.hok J.bare fun b hb=>⟨(hfp b hb).2.2.2.1,(hfp b hb).2.1,(hfp b hb).2.2.2.2.1,(hfp b hb).2.2.2.2.2⟩
end
section
variable{js:List Nat}{σ:St}{tt:TT}{te:TE}{Q:VK}{H1:Hp}
end
theorem gTuc{X:Cx}{pos:Pos}{K:PySem.W.Frag}{es:List Expr}{k n:Nat}{t:TGs}(h:Gts X es t)(hK:X.K=K:=by rfl)(hc:X.calm=true:=by rfl)(hn:(assignEach es X.env).length=n:=by rfl)(hst:(assignEach es X.env).findIdx? (·.1)=none:=by rfl):Gt X (.Tuple es k pos) (arP K n t):=by
 subst hK
 exact gTu h hc hn hst
section
variable{X:Cx}
end
section
variable{X:Cx}{elt iter tg:Expr}{xs:List Str}{y:Str}{py pos spos:Pos}{ifs:List Expr}{scope:Scope}{cl:List (Str×Addr)}{N':List Str}{js:List Nat}{tt:TT}{te:TE}{g:TG}{wi:TI}
end
end L2
namespace L2
open PySem PySem.Spec PyProof.Rows PySem.SeqAt
section
variable{X:Cx}
end
def Kn(f:Obj->Prop):Prop:=∀(o:Obj) (vs:Array Value) (x:Value),o.data=.fields vs->f o->f (Obj.mapFields (·.setIfInBounds 1 x) o)
def Trc(f:Obj->Prop)(fl:Value)(B h:Heap)(e:Addr):Prop:=∃(o:Obj) (vs:Array Value) (T:Addr) (oT:Obj) (ts:Array Value),
 (h.get? e=some o/\o.data=.fields vs/\vs[1]? =some (.ref T)/\f o)/\(h.get? T=some oT/\oT.data=.fields ts/\ts[3]? =some fl)/\B.get? T=none/\T≠e
structure Fg(f:Obj->Prop)(fl:Value)(B:Heap)(l:List Env)(e:Addr)(h:Heap):Prop where
 st:B.StaysIn h
 nb:B.get? e=none
 ff:h.FunFrames B l
 tr:Trc f fl B h e
theorem af6{h:Heap}{T:Addr}{oT:Obj}{ts:Array Value}(hT:h.get? T=some oT)(hd:oT.data=.fields ts){b:Addr}{o:Obj}(e:h.get? b=some o)(n:∀vs,o.data≠ .fields vs):b≠T:=fun z=>by
 subst z
 cases hT.symm.trans e
 exact n ts hd
section
variable{M:Model}{A:Around}{E:Value->Shared->Prop}{s:Shared}{f:Obj->Prop}{B:Heap}{env:Env}{outer l:List Env}{L e:Addr}{fl:Value}{Q:Unit->Shared->Prop}
theorem ahZ{o:Obj}{vs:Array Value}{head:Value}{had:Bool}(kn:Kn f)(hA:A.frames=some (env::outer))(hL:env.frame=some L)(ff:s.heap.FunFrames B (env::outer))(st:B.StaysIn s.heap)(nb:B.get? e=none)
  (he:s.heap.get? e=some o) (hd:o.data=.fields vs) (sz:1<vs.size) (ho:f o) (k:∀h',Fg f (rawInt L) B (env::outer) e h'->s.heap.UpToSlots h'->Q () {s with heap:=h'}):
  wpAny M A (do let a ←frameOf env;let pl ←entryPlaceOf L had;let b ←EntryCells.newEntry head a .none (rawInt L) .none pl;setField (.ref e) 1 b) Q E s:=by
 have out:e∉(env::outer).filterMap (·.frame):=fun z=>by
  obtain⟨_,o',q,nf⟩:=ff.mem z
  cases he.symm.trans q
  exact nf vs hd
 refine wpAny_bind (wpAny_frameOf_fun hA ff hL fun g sl=>wpAny_bind (wpAny_entryPlaceOf fun pl pok=>?_))
 unfold EntryCells.newEntry newFields
 refine wpAny_bind (wpAny_newObj_type ?_ (pok.sizeOk5 _ _ _ _ _))
 have t3:([head,Value.ref L,.none,rawInt L,.none]++(if pl.isEmpty then List.replicate 6 Value.none else pl)).toArray[3]? =some (rawInt L):=by
  rw[List.getElem?_toArray]
  rfl
 generalize ([head,Value.ref L,.none,rawInt L,.none]++(if pl.isEmpty then List.replicate 6 Value.none else pl)).toArray=ts at t3
 have e1:g.get? e=some o:=(sl.2.1 e out).trans he
 have st1:B.StaysIn g:=fun b ob q=>(sl.2.1 b fun z=>by rw[(ff.mem z).1] at q;cases q).trans (st b ob q)
 have e2:=Heap.get?_push_of_some (h:=g) {cls:=.type "traceback",data:=.fields ts} e1
 have far:g.objs.size≠e:=Nat.ne_of_gt (Heap.lt_size e1)
 have dat:=Obj.data_mapFields hd (·.setIfInBounds 1 (Value.ref g.objs.size))
 have e3:=Heap.get?_update_self (Obj.mapFields (·.setIfInBounds 1 (Value.ref g.objs.size))) e2 (Obj.isFreed_of_fields dat)
 have k1:∀b ob,b≠e->g.get? b=some ob->((g.push {cls:=.type "traceback",data:=.fields ts}).update e (Obj.mapFields (·.setIfInBounds 1 (Value.ref g.objs.size)))).get? b=some ob:=fun b ob n q=>
  (Heap.get?_update_other _ _ (Ne.symm n)).trans (Heap.get?_push_of_some _ q)
 refine wpAny_setField e2 hd sz (k _ ⟨fun b ob q=>k1 b ob (fun z=>by rw[z,nb] at q;cases q) (st1 b ob q),nb,ff.of_keeps fun b ob q n=>?_,?_⟩ fun b ob q n=>?_)
 ·obtain⟨x,q1⟩:=sl.2.2 b ob q
  exact⟨_,k1 b _ (af6 he hd q n) q1,rfl⟩
 ·exact⟨_,_,g.objs.size,_,ts,⟨e3,dat,by simp[sz],kn o vs _ hd ho⟩,⟨(Heap.get?_update_other _ _ (Ne.symm far)).trans (Heap.get?_push_size g rfl),rfl,t3⟩,st1.fresh,far⟩
 ·obtain⟨x,q1⟩:=sl.2.2 b ob q
  exact⟨x,k1 b _ (af6 he hd q n) q1⟩
theorem al7{o:Obj}{vs:Array Value}(kn:Kn f)(hA:A.frames=some (env::outer))(hL:env.frame=some L)(ff:s.heap.FunFrames B (env::outer))(st:B.StaysIn s.heap)(nb:B.get? e=none)
  (he:s.heap.get? e=some o) (hd:o.data=.fields vs) (h1:vs[1]? =some .none) (ho:f o) (k:∀h',Fg f (rawInt L) B (env::outer) e h'->s.heap.UpToSlots h'->Q () {s with heap:=h'}):wpAny M A (noteFrame (.ref e) env) Q E s:=by
 unfold noteFrame
 simp only[hL]
 refine wpAny_bind (wpAny_field he hd h1 ?_)
 rw[if_neg (by decide)]
 exact ahZ kn hA hL ff st nb he hd (Array.getElem?_eq_some_iff.mp h1).1 ho k
theorem abJ(v:Option Addr)(F:Fg f fl B l e s.heap)(k:∀h',Fg f (v.elim .none fun q=>rawInt q) B l e h'->s.heap.UpToSlots h'->Q () {s with heap:=h'}):wpAny M A (setFlight (.ref e) v) Q E s:=by
 obtain⟨o,vs,T,oT,ts,⟨he,hd,h1,ho⟩,⟨hT,dT,h3⟩,nT,ne⟩:=F.tr
 have s3:3<ts.size:=(Array.getElem?_eq_some_iff.mp h3).1
 have oth:∀b,b≠T->(s.heap.update T (Obj.mapFields (·.setIfInBounds 3 (v.elim Value.none fun q=>rawInt q)))).get? b=s.heap.get? b:=fun b n=>Heap.get?_update_other _ _ n.symm
 unfold setFlight
 refine wpAny_bind (wpAny_field he hd h1 ?_)
 rw[if_pos (by simp)]
 refine wpAny_setField hT dT s3 (k _ ⟨fun b ob q=>(oth b fun z=>by rw[z,nT] at q;cases q).trans (F.st b ob q),F.nb,F.ff.of_keeps fun b ob q n=>⟨ob,(oth b (af6 hT dT q n)).trans q,rfl⟩,?_⟩ fun b ob q n=>⟨ob.slots,(oth b (af6 hT dT q n)).trans q⟩)
 exact⟨o,vs,T,_,_,⟨(oth e ne.symm).trans he,hd,h1,ho⟩,⟨Heap.get?_update_self _ hT (Obj.isFreed_of_fields (Obj.data_mapFields dT _)),Obj.data_mapFields dT _,by simp[s3]⟩,nT,ne⟩
theorem agX(kn:Kn f)(hA:A.frames=some (env::outer))(hL:env.frame=some L)(F:Fg f .none B (env::outer) e s.heap)(k:∀h',Fg f (rawInt L) B (env::outer) e h'->s.heap.UpToSlots h'->Q () {s with heap:=h'}):
  wpAny M A (noteFrame (.ref e) env) Q E s:=by
 obtain⟨o,vs,T,oT,ts,⟨he,hd,h1,ho⟩,⟨hT,dT,h3⟩,nT,ne⟩:=F.tr
 have oth:∀b,b≠T->(s.heap.update T (Obj.mapFields (·.setIfInBounds 3 Value.none))).get? b=s.heap.get? b:=fun b n=>Heap.get?_update_other _ _ n.symm
 unfold noteFrame
 simp only[hL]
 refine wpAny_bind (wpAny_field he hd h1 ?_)
 rw[if_pos (by simp)]
 refine wpAny_bind (wpAny_field hT dT h3 ?_)
 rw[if_neg (by simp[rawInt])]
 refine wpAny_bind (wpAny_setField hT dT (Array.getElem?_eq_some_iff.mp h3).1 ?_)
 refine ahZ kn hA hL (F.ff.of_keeps fun b ob q n=>⟨ob,(oth b (af6 hT dT q n)).trans q,rfl⟩) (fun b ob q=>(oth b fun z=>by rw[z,nT] at q;cases q).trans (F.st b ob q)) F.nb ((oth e ne.symm).trans he) hd (Array.getElem?_eq_some_iff.mp h1).1 ho fun h' F' up=>k h' F' fun b ob q n=>up b ob ((oth b (af6 hT dT q n)).trans q) n
theorem ak8(hL:env.frame=some L)(F:Fg f (rawInt L) B l e s.heap)(k:Q () s):wpAny M A (noteFrame (.ref e) env) Q E s:=by
 obtain⟨o,vs,T,oT,ts,⟨he,hd,h1,ho⟩,⟨hT,dT,h3⟩,nT,ne⟩:=F.tr
 unfold noteFrame
 simp only[hL]
 refine wpAny_bind (wpAny_field he hd h1 ?_)
 rw[if_pos (by simp)]
 refine wpAny_bind (wpAny_field hT dT h3 ?_)
 rw[if_pos (by simp)]
 exact wpAny_pure k
theorem Fg.out{h:Heap}(F:Fg f fl B (env::outer) e h):Fg f fl B outer e h:=⟨F.st,F.nb,F.ff.2.2,F.tr⟩
theorem ao4(kn:Kn f)(hA:A.frames=some (env::outer))(hL:env.frame=some L)(F:Fg f .none B (env::outer) e s.heap)(k:∀h',Fg f .none B outer e h'->s.heap.UpToSlots h'->Q () {s with heap:=h'}):wpAny M A (leaving env (.ref e)) Q E s:=
 wpAny_bind (agX kn hA hL F fun _ F1 u1=>abJ none F1 fun h2 F2 u2=>k h2 F2.out (u1.trans u2))
theorem amY{o:Obj}{vs:Array Value}(kn:Kn f)(hA:A.frames=some (env::outer))(hL:env.frame=some L)(ff:s.heap.FunFrames B (env::outer))(st:B.StaysIn s.heap)(nb:B.get? e=none)
  (he:s.heap.get? e=some o) (hd:o.data=.fields vs) (h1:vs[1]? =some .none) (ho:f o) (k:∀h',Fg f .none B outer e h'->s.heap.UpToSlots h'->Q () {s with heap:=h'}):wpAny M A (leaving env (.ref e)) Q E s:=
 wpAny_bind (al7 kn hA hL ff st nb he hd h1 ho fun _ F1 u1=>abJ none F1 fun h2 F2 u2=>k h2 F2.out (u1.trans u2))
theorem am6(hL:env.frame=some L)(F:Fg f (rawInt L) B (env::outer) e s.heap)(k:∀h',Fg f .none B outer e h'->s.heap.UpToSlots h'->Q () {s with heap:=h'}):wpAny M A (leaving env (.ref e)) Q E s:=
 wpAny_bind (ak8 hL F (abJ none F fun h2 F2 u2=>k h2 F2.out u2))
end
theorem ObjOk.at{P:Program}{w:World}{H:Hp}{h:Heap}{a:Addr}{o:HO}(x:ObjOk P w H h a o):∃ob,h.get? a=some ob:=by
 induction o with
 |lst xs=>obtain⟨_,_,_,_,e⟩:=x;exact⟨_,e⟩
 |tup xs=>obtain⟨_,_,_,ob,e,_⟩:=x;exact⟨_,e⟩
 |dK kvs=>obtain⟨_,_,_,_,ob,_,_,e,_⟩:=x;exact⟨_,e⟩
 |dT kvs=>obtain⟨_,_,_,_,ob,_,_,e,_⟩:=x;exact⟨_,e⟩
 |set S n=>obtain⟨ob,_,_,_,e,_⟩:=x;exact⟨_,e⟩
 |ins C dx fs=>obtain⟨_,_,_,e,_⟩:=x;exact⟨_,e⟩
 |own y=>exact x
 |xd fs=>obtain⟨_,⟨ob,_,_,e,_⟩,_⟩:=x;exact⟨_,e⟩
 |rng lo hi=>obtain⟨_,_,_,e⟩:=x;exact⟨_,e⟩
 |frz ob u ih=>exact⟨_,x.1⟩
 |tbl ps=>exact⟨_,x⟩
 |met f y=>exact⟨_,x⟩
 |ext φ=>exact x.2.1
def Ex(C:Addr)(d:Option Addr)(b:Bool)(o:Obj):Prop:=o.cls=.ref C/\o.dict=d/\∃vs,o.data=.fields vs/\(b=true->vs[2]? =some .none)
theorem ah9(C:Addr)(d:Option Addr)(b:Bool):Kn (Ex C d b):=fun o vs x hd ⟨h1,h2,ws,h3,h4⟩=>by
 cases hd.symm.trans h3
 refine⟨(Obj.cls_mapFields _ _).trans h1,?_,_,Obj.data_mapFields hd _,fun z=>?_⟩
 ·rw[←h2]
  obtain⟨c,dd,dt,sl⟩:=o
  cases hd
  rfl
 ·rw[Array.getElem?_setIfInBounds_ne (by decide)]
  exact h4 z
def wc(C:Addr):Value:=.int C 0
def cv(C:Addr):Bool->Value
 |true=>.ref C
 |false=>wc C
theorem arI{C C':Addr}{b:Bool}(h:cv C b=.ref C'):C=C'/\b=true:=by
 cases b with
 |true=>cases h;exact⟨rfl,rfl⟩
 |false=>cases h
theorem aFU{C C':Addr}{b:Bool}(h:cv C b=wc C'):C=C'/\b=false:=by
 cases b with
 |true=>cases h
 |false=>
  have e:(C:Int)=C':=(Value.int.inj h).1
  exact⟨Int.ofNat.inj e,rfl⟩
def Fly(g h:Heap)(H:Hp)(a C:Addr)(d:Option Addr)(b:Bool):Prop:=
 H a=none/\g.get? a=none/\∃(o:Obj) (vs:Array Value) (T:Addr) (oT:Obj) (ts:Array Value),(h.get? a=some o/\o.data=.fields vs/\vs[1]? =some (.ref T)/\Ex C d b o)/\
  (h.get? T=some oT/\oT.data=.fields ts/\ts[3]? =some .none)/\(H T=none/\g.get? T=none)/\T≠a
def CX1(P:Program)(w:World):CXT:=fun outer H s E e s'=>
 ∃a C d b H',e=.ref a/\s'.os=s.os/\AllBare s'.gens/\Un (frs outer) [] H H' s.heap s'.heap/\HOk P w H' s'.heap/\Fly s.heap s'.heap H' a C d b/\E (cv C b) d H'
theorem adA{P:Program}{w:World}{fs:List Addr}{l:List Env}{H0 H:Hp}{g h1 h2:Heap}{hid:List Addr}{a C:Addr}{d:Option Addr}{b0:Bool}(u:Un fs [] H0 H g h1)(hok:HOk P w H h1)(frf:∀b∈fs,H b=none)
  (ff:∀b∈fs,∃o,h1.get? b=some o/\∀vs,o.data≠ .fields vs) (hh:∀b∈hid,b∈fs∨(H b=none/\g.get? b=none)) (fl:Fg (Ex C d b0) .none (PySem.W.hideAll h1 hid) l a h2) (up:h1.UpToSlots h2)
  (hga:g.get? a=none) (Ha:H a=none):Un fs [] H0 H g h2/\HOk P w H h2/\Fly g h2 H a C d b0:=by
 have keep:∀b o,h1.get? b=some o->b∉hid->h2.get? b=some o:=fun b o e n=>fl.st b o (PySem.W.hideAll_get _ e n)
 have nofr:∀b o vs,b∈fs->h2.get? b=some o->o.data≠ .fields vs:=fun b o vs hb e=>by
  obtain⟨o1,e1,nf⟩:=ff b hb
  obtain⟨sl,e2⟩:=up b o1 e1 nf
  rw[e] at e2
  cases e2
  exact nf vs
 have slots:∀b o,b∈fs->h1.get? b=some o->∃sl,h2.get? b=some {o with slots:=sl}:=fun b o hb e=>by
  obtain⟨o1,e1,nf⟩:=ff b hb
  rw[e] at e1
  cases e1
  exact up b o e nf
 have nhid:∀b o,b∉fs->g.get? b=some o->b∉hid:=fun b o nb e hb=>by
  rcases hh b hb with z | ⟨_,z⟩
  ·exact nb z
  ·rw[e] at z;cases z
 have thid:∀b o,H b=some o->b∉hid:=fun b o e hb=>by
  rcases hh b hb with z | ⟨z,_⟩
  ·rw[frf b z] at e;cases e
  ·rw[e] at z;cases z
 refine⟨⟨fun b o e n hb hx=>keep b o (u.keep b o e n hb hx) (nhid b o hb e),fun b o e n hb hx=>?_,u.free,fun b o e hx=>?_,u.tups,u.frzs,u.tbls⟩,fun b ob e=>?_,Ha,hga,?_⟩
 ·obtain⟨sl,e1⟩:=u.slot b o e n hb hx
  obtain⟨sl',e2⟩:=slots b _ hb e1
  exact⟨sl',e2⟩
 ·obtain⟨o',e1⟩:=u.there b o e hx
  by_cases hb:b∈fs
  ·obtain⟨sl,e2⟩:=slots b _ hb e1
   exact⟨_,e2⟩
  ·exact⟨o',keep b o' e1 (nhid b o hb e)⟩
 ·refine (hok b ob e).stay (fun c v hc q=>keep c v q ?_) (fun _ q=>q) fun _ _ q=>q
  rcases hc with z | z
  ·rw[z];exact thid b ob e
  ·exact thid c _ z
 ·obtain⟨o,vs,T,oT,ts,ho,hT,hnT,hTe⟩:=fl.tr
  have nT:T∉fs:=fun z=>nofr T oT ts z hT.1 hT.2.1
  refine⟨o,vs,T,oT,ts,ho,hT,⟨?_,?_⟩,hTe⟩
  ·cases q:H T with
   |none=>rfl
   |some o=>
    obtain⟨ob,e⟩:=(hok T o q).at
    have:=PySem.W.hideAll_get _ e (thid T o q)
    rw[hnT] at this;cases this
  ·cases q:g.get? T with
   |none=>rfl
   |some o=>
    obtain⟨ob,e⟩:=u.there T o q (by simp)
    have:=PySem.W.hideAll_get _ e (nhid T o nT q)
    rw[hnT] at this;cases this
theorem Fly.flying{bs g h:Heap}{H:Hp}{a C:Addr}{d:Option Addr}{b:Bool}{l:List Env}(f:Fly g h H a C d b)(ff:h.FunFrames bs l):∃T,(H T=none/\g.get? T=none)/\Fg (Ex C d b) .none (PySem.W.hideAll h (frs l++[a,T])) l a h:=by
 obtain⟨_,_,o,vs,T,oT,ts,ho,hT,fT,nT⟩:=f
 exact⟨T,fT,fun b o e=>PySem.W.of_hideAll _ e,PySem.W.hideAll_none _ (by simp),PySem.W.funFrames_hide ff fun env he b hb=>List.mem_append_left _ (List.mem_filterMap.mpr ⟨env,he,hb⟩),o,vs,T,oT,ts,ho,hT,PySem.W.hideAll_none _ (by simp),nT⟩
theorem akC{bs h:Heap}{l:List Env}(ff:h.FunFrames bs l):∀b∈frs l,∃o,h.get? b=some o/\∀vs,o.data≠ .fields vs:=fun b hb=>(ff.mem hb).2
section
variable{P:Program}{w:World}{K:PySem.W.Frag}{mg:Str->Option Value}{base:Heap}{N:List Str}{qual:Str}{scope:Scope}{f:Addr}{cd:Value}{A:Around}{outer:List Env}{s0:Shared}{H0:Hp}{E:XK}
theorem afD{pins:List (Addr×Obj)}{σ:St}{H:Hp}{s:Shared}(I:Inv (aaS (CX1 P w) P w K mg base N qual scope f cd A outer s0 H0 E) pins σ H s):∀b∈frs (aaS (CX1 P w) P w K mg base N qual scope f cd A outer s0 H0 E).stack,b∈frs outer∨(H b=none/\s0.heap.get? b=none):=fun b hb=>by
 have hb:b∈frs (envOfC qual scope s0.heap.objs.size f cd::outer):=hb
 have q:b=s0.heap.objs.size∨b∈frs outer:=by
  obtain⟨env,he,hf⟩:=List.mem_filterMap.mp hb
  rcases List.mem_cons.mp he with rfl | he
  ·exact .inl (Option.some.inj hf).symm
  ·exact .inr (List.mem_filterMap.mpr ⟨env,he,hf⟩)
 rcases q with rfl | q
 ·exact .inr ⟨I.free,Heap.get?_none_of_le (Nat.le_refl _)⟩
 ·exact .inl q
theorem Inv.gone{X:Cx}{pins:List (Addr×Obj)}{σ:St}{H:Hp}{s:Shared}(I:Inv X pins σ H s)(hx:X.ex=[]){b:Addr}(e:s.heap.get? b=none):X.s₀.heap.get? b=none:=by
 cases q:X.s₀.heap.get? b with
 |none=>rfl
 |some o=>
  obtain⟨o',z⟩:=I.base.there b o q (by rw[hx];simp)
  rw[e] at z;cases z
theorem ak6:adG (CX1 P w) (aaS (CX1 P w) P w K mg base N qual scope f cd A outer s0 H0 E) E:=by
 intro pins σ H s e s' I h
 obtain⟨a,C,d,b,H',rfl,os,bare,un,hok,fly,q⟩:=h
 have I':Inv (aaS (CX1 P w) P w K mg base N qual scope f cd A outer s0 H0 E) pins σ H' s':=I.call' os un hok bare (fun _ z=>nomatch z)
 obtain⟨T,hT,fl⟩:=fly.flying I'.stack
 refine ao4 (L:=s0.heap.objs.size) (ah9 C d b) I.ok.frames rfl fl fun h2 fl2 up=>?_
 obtain⟨u2,hok2,fly2⟩:=adA (fs:=frs outer) I'.base I'.hok (fun b hb=>I'.stkFree b (by
   obtain⟨env,he,hf⟩:=List.mem_filterMap.mp hb
   exact List.mem_filterMap.mpr ⟨env,List.mem_cons_of_mem _ he,hf⟩)) (akC I'.funs) (fun b hb=>by
  rcases List.mem_append.mp hb with z | z
  ·exact afD I' b z
  ·rcases List.mem_cons.mp z with rfl | z
   ·exact .inr ⟨fly.1,I.gone rfl fly.2.1⟩
   ·obtain rfl:b=T:=by simpa using z
    exact .inr ⟨hT.1,I.gone rfl hT.2⟩) fl2 up (I.gone rfl fly.2.1) fly.1
 exact⟨a,C,d,b,H',rfl,I'.os,I'.bare,u2,hok2,fly2,q⟩
theorem aII{pins:List (Addr×Obj)}{σ:St}{H:Hp}{s:Shared}{a C:Addr}{d:Option Addr}{b:Bool}{o:Obj}{vs:Array Value}(I:Inv (aaS (CX1 P w) P w K mg base N qual scope f cd A outer s0 H0 E) pins σ H s)(Ha:H a=none)(ga:s0.heap.get? a=none)
  (ho:s.heap.get? a=some o) (hd:o.data=.fields vs) (h1:vs[1]? =some .none) (hx:Ex C d b o) (q:E (cv C b) d H):(aaS (CX1 P w) P w K mg base N qual scope f cd A outer s0 H0 E).xe (.ref a) s:=by
 refine amY (B:=PySem.W.hideAll s.heap (frs (envOfC qual scope s0.heap.objs.size f cd::outer)++[a])) (L:=s0.heap.objs.size) (ah9 C d b) I.ok.frames rfl (PySem.W.funFrames_hide I.stack fun env he b hb=>List.mem_append_left _ (List.mem_filterMap.mpr ⟨env,he,hb⟩)) (fun b o e=>PySem.W.of_hideAll _ e) (PySem.W.hideAll_none _ (by simp)) ho hd h1 hx fun h2 fl2 up=>?_
 obtain⟨u2,hok2,fly2⟩:=adA (fs:=frs outer) I.base I.hok (fun b hb=>I.stkFree b (by
   obtain⟨env,he,hf⟩:=List.mem_filterMap.mp hb
   exact List.mem_filterMap.mpr ⟨env,List.mem_cons_of_mem _ he,hf⟩)) (akC I.funs) (fun b hb=>by
  rcases List.mem_append.mp hb with z | z
  ·exact afD I b z
  ·obtain rfl:b=a:=by simpa using z
   exact .inr ⟨Ha,ga⟩) fl2 up ga Ha
 exact⟨a,C,d,b,H,rfl,I.os,I.bare,u2,hok2,fly2,q⟩
end
abbrev ayO:List Value:=[.type "ValueError",.type "Exception",.type "BaseException",.type "object"]
def aEL(X:Cx)(E:XK):Prop:=∀(pins:List (Addr×Obj)) (σ:St) (H:Hp) (s:Shared) (a C:Addr) (d:Option Addr) (b:Bool) (o:Obj) (vs:Array Value),Inv X pins σ H s->H a=none->X.s₀.heap.get? a=none->s.heap.get? a=some o->o.data=.fields vs->vs[1]? =some .none->Ex C d b o->E (cv C b) d H->X.xe (.ref a) s
theorem Inv.newX{X:Cx}{pins:List (Addr×Obj)}{σ:St}{H:Hp}{s:Shared}{a:Addr}(I:Inv X pins σ H s)(hx:X.ex=[])(e:s.heap.get? a=none):H a=none/\X.s₀.heap.get? a=none:=by
 refine⟨?_,I.gone hx e⟩
 cases q:H a with
 |none=>rfl
 |some o=>
  obtain⟨ob,z⟩:=(I.hok a o q).at
  rw[e] at z;cases z
section
variable{X:Cx}{E:XK}{x:Str}{C:Addr}{e:Expr}{es:List Expr}{t:TA}{np cpos pos:Pos}
end
section
variable{P:Program}{w:World}{K:PySem.W.Frag}{mg:Str->Option Value}{base:Heap}{N:List Str}{qual:Str}{scope:Scope}{f:Addr}{cd:Value}{A:Around}{outer:List Env}{s0:Shared}{H0:Hp}{E:XK}
theorem af2:aEL (aaS (CX1 P w) P w K mg base N qual scope f cd A outer s0 H0 E) E:=fun _ _ _ _ _ _ _ _ _ _ I h1 h2 h3 h4 h5 h6 q=>aII I h1 h2 h3 h4 h5 h6 q
end
structure Df1(P:Program)(w:World)(K:PySem.W.Frag)(mg:Str->Option Value)(base:Heap)(x:Str)(k:Nat)(ps:List Str)(sp:Sp):Prop where
 ex:∃(f:Addr) (fd:FuncData),FnOk P w K mg base (CX1 P w) k f fd ps sp/\Binds K fd ps []/\mg x=some (.ref f)/\PySem.W.keepIn K (.ref f)=true
section
variable{P:Program}{w:World}{K:PySem.W.Frag}{mg:Str->Option Value}{base:Heap}{x:Str}{st:Stmt}{ps N:List Str}{k:Nat}{sp:Sp}
theorem Fn.dfs1(F:Fn K mg x st ps)(S':FnScope N ps (aaC st))(len:∀vs H Q E,sp vs H Q E->vs.length=ps.length)
  (hbody:∀(f:Addr) (cdv:Value) (A:Around) (outer:List Env) (s:Shared) (H:Hp) (vs:List V) (Q:VK) (E:XK),Room k (A.deeper (envOfC x (aaC st) s.heap.objs.size f cdv))->sp vs H Q E->
   ∃t,Ss (aaS (CX1 P w) P w K mg base N x (aaC st) f cdv A outer s H E) (aaP st) t/\t {nx:=fun _ H'=>Q .non H',rt:=Q} (start N vs) H):Df1 P w K mg base x (k+1) ps sp:=by
 obtain⟨f,fd,F1,hb,hm⟩:=F.ex
 have kp:=F1.kp
 obtain⟨oc,od,kV,doc,pm,an,cdv,ct,osl,rfl,lk,hcd⟩:=F1.ex
 refine⟨⟨f,_,ap9 lk hcd S' len fun A outer s H vs Q E hr hsp=>?_,hb,hm,kp⟩⟩
 obtain⟨t,h,q⟩:=hbody f cdv A outer s H vs Q E hr hsp
 exact⟨t,h.h,q⟩
end
def XP(X:Cx)(pins:List (Addr×Obj))(σ:St)(E:XK)(e:Value)(s':Shared):Prop:=∃s1 H1,Inv X pins σ H1 s1/\CX1 X.prog X.w X.stack H1 s1 E e s'
abbrev TX:=St->Hp->VK->XK->Prop
structure Px(X:Cx)(e:Expr)(t:TX):Prop where
 h:∀(pins:List (Addr×Obj)) (s:Shared) (σ:St) (H:Hp) (Q:VK) (E:XK),Inv X pins σ H s->t σ H Q E->wpAny (model X.prog X.w) X.A (eval e X.env) (EP X pins σ Q) (XP X pins σ E) s
abbrev TB:=Ends->St->Hp->XK->Prop
structure Pb(X:Cx)(body:List Stmt)(t:TB):Prop where
 h:∀(pins:List (Addr×Obj)) (s:Shared) (σ:St) (H:Hp) (D:Ends) (E:XK),Inv X pins σ H s->t D σ H E->wpAny (model X.prog X.w) X.A (execs body X.env) (SP X pins D) (XP X pins σ E) s
def aGE(sp:Sp)(t:TA):TX:=fun σ H Q E=>t σ H fun vs H1=>sp vs H1 Q E
section
variable{X:Cx}{k k':Nat}{ps:List Str}{sp:Sp}{x:Str}{e:Expr}{es:List Expr}{tA:TA}{p pos:Pos}{t:TX}
theorem xD(D:Df1 X.prog X.w X.K X.mg X.base x k ps sp)(hr:Room k' X.A)(ha:As X.nox (e::es) tA)(hk:k<=k':=by decide)(hg:Gl X x:=by rfl)(hdb:(x==("__debug__":Str))=false:=by decide)
  (he:starEach (e::es) X.env=(false,eval e X.env)::starEach es X.env:=by rfl) (hpl:(backTo pos (starEach es X.env)).any (·.1)=false:=by rfl):Px X (.Call (.Name x p) (e::es) [] pos) (aGE sp tA):=by
 obtain⟨f,fd,F,hb,hm,kp⟩:=D.ex
 refine⟨fun pins s σ H Q E I h=>?_⟩
 refine wpAny_Call_Name_kw (abG I hg hm ?_ hdb)
 refine PySem.W.callWith_K (h₀:=X.base) I.ok.mod.kin kp (wpAny_mono (ha.h pos pins s σ H _ (I.wish _) h) (fun us s1 ⟨vs,H1,I1',r,q⟩=>?_) fun _ _ z=>False.elim z) he hpl
 have I1:Inv X pins σ H1 s1:=I1'.unwish
 refine⟨I1.kIn,?_⟩
 have hl:us.length=ps.length:=by rw[←r.length];exact F.len _ _ _ _ q
 have hbd:=hb s1 us I1.kIn (by rw[List.append_nil];exact hl)
 rw[List.append_nil] at hbd
 refine wpAny_call (codeAny_mono (F.run X.A X.stack s1 H1 ⟨us,[]⟩ us vs Q E (hr.mono hk) I1.env0 hbd r q) fun rr s' hq=>?_)
 cases rr with
 |error e=>exact⟨s1,H1,I1,hq⟩
 |ok fl=>
  cases fl with
  |ret u=>exact I1.after hq
  |next=>exact False.elim hq
  |brk=>exact False.elim hq
  |cont=>exact False.elim hq
def bRet(t:TX):TB:=fun D σ H E=>t σ H D.rt E
theorem bR(h:Px X e t):Pb X [.Return (some e) pos] (bRet t):=by
 refine⟨fun pins s σ H D E I hw=>?_⟩
 refine wpAny_execs_cons (wpAny_mono (wpAny_Return_some (thn (h.h pins s σ H _ E I hw) fun v s1 ⟨y,H1,I1,r1,q1⟩=>(show SP X pins D (.ret v) s1 from ⟨y,σ,H1,I1,r1,q1⟩))) (fun f s1 q=>?_) fun _ _ z=>z)
 cases f with
 |next=>exact wpAny_execs_nil q
 |ret v=>exact q
 |brk=>exact q
 |cont=>exact q
def bAsg(i:Nat)(t:TX):TB:=fun D σ H E=>t σ H (fun v H'=>D.nx (σ.set i (some v)) H') E
theorem bS{y:Str}{pos':Pos}(i:Nat)(h:Px X e t)(hN:X.N.Nodup)(hi:X.N[i]? =some y:=by rfl)(hx:Loc X.env.scope y:=by first | exact Or.inl rfl | exact Or.inr rfl)(hs:swapsWith e (some (.Name y pos')) pos.line X.env=pure false:=by rfl)
  (hf:X.fn y=true∨X.env.scope.names.lookup y=some .local:=by first | exact .inl rfl | exact .inr rfl):Pb X [.Assign [.Name y pos'] e pos] (bAsg i t):=by
 refine⟨fun pins s σ H D E I hw=>?_⟩
 refine wpAny_execs_cons (wpAny_mono (wpAny_Assign_Name (Q:=SP X pins D) (thn (h.h pins s σ H _ E I hw) fun v s1 ⟨y,H1,I1,r1,q1⟩=>adK I1 hN hi hx r1 (fun s2 I2=>⟨_,H1,I2,q1⟩) hf) hs) (fun f s1 q=>?_) fun _ _ z=>z)
 cases f with
 |next=>exact wpAny_execs_nil q
 |ret v=>exact q
 |brk=>exact q
 |cont=>exact q
end
abbrev Cx.hnd(X:Cx)(a:Addr):Cx:={X with A:=X.A.mark (some (.ref a)),calm:=false,xe:=fun _ _=>False}
abbrev Cx.hnx(X:Cx)(a:Addr):Cx:={X with A:=X.A.mark (some (.ref a)),calm:=false,xe:=notedBy (model X.prog X.w) (X.A.mark (some (.ref a))) X.env (cameBackBy (model X.prog X.w) X.A X.env X.xe)}
section
variable{X:Cx}{pins:List (Addr×Obj)}{σ:St}{H:Hp}{s:Shared}
theorem Inv.hnd(I:Inv X pins σ H s)(a:Addr):Inv (X.hnd a) pins σ H s:=
 ⟨⟨I.ok.mod,I.ok.kind,I.ok.glob,I.ok.blt,I.ok.above,I.ok.inj,I.ok.has,I.ok.cab,(fun z=>nomatch z),I.ok.frames,I.ok.stk,I.ok.exf,I.ok.bs,I.ok.bsz,I.ok.noex,I.ok.exfs,I.ok.funs,I.ok.frf⟩,I.os,I.bare,I.base,I.loc,I.cell,I.free,I.freeC,I.pin,I.hok,I.len⟩
theorem Inv.hnx(I:Inv X pins σ H s)(a:Addr):Inv (X.hnx a) pins σ H s:=
 ⟨⟨I.ok.mod,I.ok.kind,I.ok.glob,I.ok.blt,I.ok.above,I.ok.inj,I.ok.has,I.ok.cab,(fun z=>nomatch z),I.ok.frames,I.ok.stk,I.ok.exf,I.ok.bs,I.ok.bsz,I.ok.noex,I.ok.exfs,I.ok.funs,I.ok.frf⟩,I.os,I.bare,I.base,I.loc,I.cell,I.free,I.freeC,I.pin,I.hok,I.len⟩
theorem Inv.unhnd{a:Addr}(I:Inv (X.hnd a) pins σ H s)(ok:X.Ok):Inv X pins σ H s:=⟨ok,I.os,I.bare,I.base,I.loc,I.cell,I.free,I.freeC,I.pin,I.hok,I.len⟩
theorem Inv.unhnx{a:Addr}(I:Inv (X.hnx a) pins σ H s)(ok:X.Ok):Inv X pins σ H s:=⟨ok,I.os,I.bare,I.base,I.loc,I.cell,I.free,I.freeC,I.pin,I.hok,I.len⟩
theorem Inv.lost{h':Heap}{m':Str->Option Value}{t:Nat}(I:Inv X pins σ H s)(hn:h'.Ns X.env.locals m')(hs:Heap.SameBut X.env.locals s.heap h'):Inv X pins (List.replicate X.N.length none) H {s with heap:=h',toks:=t}:=by
 obtain⟨m,⟨oL,_,_,hoL,_⟩,_⟩:=id I.loc
 have nl:∀b o,X.s₀.heap.get? b=some o->b≠X.env.locals:=fun b o e=>Nat.ne_of_lt (Nat.lt_of_lt_of_le (Heap.lt_size e) I.ok.above)
 refine⟨I.ok,I.os,I.bare,⟨fun b o e n hb hx=>(hs.2 b (nl b o e)).trans (I.base.keep b o e n hb hx),fun b o e n hb hx=>?_,I.base.free,fun b o e hx=>?_,I.base.tups,I.base.frzs,I.base.tbls⟩,⟨m',hn,fun j y v' e1 e2 e3=>?_⟩,fun y c e=>?_,I.free,I.freeC,fun p hp=>?_,fun b ob e=>?_,by rw[List.length_replicate]⟩
 ·obtain⟨sl,e1⟩:=I.base.slot b o e n hb hx
  exact⟨sl,(hs.2 b (nl b o e)).trans e1⟩
 ·obtain⟨o',e1⟩:=I.base.there b o e hx
  exact⟨o',(hs.2 b (nl b o e)).trans e1⟩
 ·rw[List.getElem?_replicate] at e2
  split at e2
  ·cases e2
  ·cases e2
 ·obtain⟨w',z⟩:=I.cell y c e
  exact⟨w',z.sameBut hs (I.cne y c e)⟩
 ·obtain⟨e,n,ne,nf,d⟩:=I.pin p hp
  exact⟨(hs.2 p.1 ne).trans e,n,ne,nf,d⟩
 ·refine (I.hok b ob e).stay (fun c w' hc q=>(hs.2 c ?_).trans q) (fun _ q=>q) fun _ _ q=>q
  rintro rfl
  rcases hc with rfl | hc
  ·rw[I.free] at e;cases e
  ·rw[I.free] at hc;cases hc
end
def xo(a C:Addr)(d:Option Addr)(b:Bool):HO:=.ext fun h=>∃o,h.get? a=some o/\Ex C d b o
theorem anR{P:Program}{w:World}{fs:List Addr}{H0 H:Hp}{g h:Heap}{a C:Addr}{d:Option Addr}{b0:Bool}(u:Un fs [] H0 H g h)(hok:HOk P w H h)(f:Fly g h H a C d b0):Un fs [] H0 (upd H a (xo a C d b0)) g h/\HOk P w (upd H a (xo a C d b0)) h:=by
 obtain⟨Ha,ga,oe,vs,T,oT,ts,⟨he,hd,_,hx⟩,_⟩:=f
 have ne:∀b o,H b=some o->b≠a:=fun b o e z=>by rw[z,Ha] at e;cases e
 have same:∀b o,H b=some o->upd H a (xo a C d b0) b=some o:=fun b o e=>by rw[aaE (ne b o e)];exact e
 refine⟨⟨u.keep,u.slot,fun b o e n hx=>?_,u.there,fun b xs e=>same _ _ (u.tups b xs e),fun b o v e=>same _ _ (u.frzs b o v e),fun b ps e=>?_⟩,fun b o e=>?_⟩
 ·rw[aaE (fun z=>by rw[z,ga] at e;cases e)]
  exact u.free b o e n hx
 ·obtain⟨more,z⟩:=u.tbls b ps e
  exact⟨more,same _ _ z⟩
 ·by_cases hb:b=a
  ·subst hb
   rw[aaA] at e
   cases e
   exact⟨⟨oe,he,hx⟩,⟨oe,he⟩,fun h1 h2 ⟨o,e,r⟩ k=>⟨o,k o e,r⟩⟩
  ·rw[aaE hb] at e
   exact (hok b o e).stay (fun _ _ _ q=>q) (fun c q=>same _ _ q) fun c xs q=>same _ _ q
theorem af7{M:Model}{A:Around}{E:Value->Shared->Prop}{s:Shared}{K:PySem.W.Frag}{C CF a:Addr}{oe:Obj}{b:Bool}{Q:Bool->Shared->Prop}(X:K.In s.heap)(e:PySem.W.kitCls K (.ref C) (.ref CF)=some b)
  (eB:PySem.W.subIn K (.ref CF) (.type "BaseException")=some true) (he:s.heap.get? a=some oe) (hc:oe.cls=.ref C) (hq:Q b s):wpAny M A (excMatches (.ref a) (.ref CF)) Q E s:=by
 obtain⟨h,g,d,t,os⟩:=s
 obtain⟨hty,his,hsub⟩:=PySem.W.kit_cls (M:=M) X e
 have hB:=PySem.W.looks_subIn (M:=M) X eB
 have L0:PySem.W.Looks M h (typeOf (.ref a)) (.ref C):=hc▸(PySem.W.Looks.ld he).andThen .now
 have f:=tc_notTuple
 unfold excMatches isExcClass isInstance
 repeat lk
 cases b<;>repeat lk
 all_goals exact hq
def arH(ok:Addr->Prop)(i:Nat)(tb:TB)(th:Addr->TS):TS:=fun D σ H=>∃E:XK,tb D σ H E/\∀C d b H',E (cv C b) d H'->ok C/\∀a,H' a=none->th a {nx:=fun _ _=>False,rt:=D.rt} (σ.set i (some (.ref a))) (upd H' a (xo a C d b))
section
variable{X:Cx}{body suite:List Stmt}{b0:Stmt}{tb:TB}{th:Addr->TS}{cx n:Str}{np hpos pos:Pos}{CF:Addr}
theorem ap5(i:Nat)(hm:X.mg cx=some (.ref CF))(hB:PySem.W.subIn X.K (.ref CF) (.type "BaseException")=some true)(hb:Pb X body tb)(hs:∀a,Ss (X.hnd a) (b0::suite) (th a))(hN:X.N.Nodup)
  (hi:X.N[i]? =some n:=by rfl) (hl:X.env.kindOf n=some .local:=by rfl) (hst:X.stack=X.env::X.outer:=by rfl) (hfr:X.env.frame=some X.env.locals:=by rfl) (hg:Gl X cx:=by rfl) (hdb:(cx==("__debug__":Str))=false:=by decide):
  PS X (.Try body [.ExceptHandler (some (.Name cx np)) (some n) (b0::suite) hpos] [] [] pos) (arH (fun C=>PySem.W.kitCls X.K (.ref C) (.ref CF)=some true) i tb th):=by
 intro pins s σ H D I ⟨E,hw,hh⟩
 refine wpAny_Try_except (wpAny_mono (hb.h pins s σ H D E I hw) (fun f s1 q=>?_) fun e s1 hx=>?_)
 ·cases f with
  |next=>exact wpAny_execs_nil q
  |ret v=>exact q
  |brk=>exact q
  |cont=>exact q
 obtain⟨s0,H0,I0,a,C,d,bb,H',rfl,os,bare,un,hok,fly,qE⟩:=hx
 obtain⟨hC,hh⟩:=hh C d bb H' qE
 have I1:Inv X pins σ H' s1:=I0.call' os un hok bare (fun _ z=>nomatch z)
 obtain⟨T,hT,fl⟩:=fly.flying I1.stack
 have hid:∀b∈frs X.stack++[a,T],b∈frs X.stack∨(H' b=none/\s0.heap.get? b=none):=fun b hb=>by
  rcases List.mem_append.mp hb with z | z
  ·exact .inl z
  ·rcases List.mem_cons.mp z with rfl | z
   ·exact .inr ⟨fly.1,fly.2.1⟩
   ·obtain rfl:b=T:=by simpa using z
    exact .inr hT
 have frames:X.A.frames=some (X.env::X.outer):=by rw[I.ok.frames,hst]
 have fl':=fl
 rw[hst] at fl'
 refine agX (ah9 C d bb) frames hfr (hst▸fl) fun h4 held4 sm4=>?_
 refine abJ none held4 fun h5 fl5 sm5=>?_
 obtain⟨u5,hok5,fly5⟩:=adA (fs:=frs X.stack) un hok I1.stkFree (akC I1.stack) (by rw[hst] at hid ⊢;exact hid) fl5 (sm4.trans sm5) fly.2.1 fly.1
 have I5:Inv X pins σ H' {s1 with heap:=h5}:=I0.call' os u5 hok5 bare (fun _ z=>nomatch z)
 refine wpAny_handleBy_cons (codeAny_handlers_test ?_) (by intro q;cases q)
 have J5:=I5.hnd a
 refine abG (X:=X.hnd a) J5 hg hm ?_ hdb
 obtain⟨_,_,oe,vs5,_,_,_,⟨he5,_,_,hc5,_⟩,_⟩:=fly5
 refine af7 J5.kIn hC hB he5 hc5 ?_
 refine codeAny_handlers_suite_as ?_
 refine abJ none fl5 fun h6 fl6 sm6=>?_
 obtain⟨u6,hok6,fly6⟩:=adA (fs:=frs X.stack) un hok I1.stkFree (akC I1.stack) (by rw[hst] at hid ⊢;exact hid) fl6 ((sm4.trans sm5).trans sm6) fly.2.1 fly.1
 obtain⟨u7,hok7⟩:=anR u6 hok6 fly6
 have I7:Inv X pins σ (upd H' a (xo a C d bb)) {s1 with heap:=h6}:=I0.call' os u7 hok7 bare (fun _ z=>nomatch z)
 refine adK (X:=X.hnd a) (I7.hnd a) hN hi (.inl hl) (show RelV (.ref a) (.ref a) from rfl) (fun s8 I8=>?_) (.inr hl)
 refine wpAny_mono ((hs a).h pins s8 _ _ _ I8 (hh a fly.1)) (fun f s9 q=>?_) fun _ _ z=>False.elim z
 cases f with
 |next=>obtain⟨_,_,_,q⟩:=q;exact False.elim q
 |brk=>obtain⟨_,_,_,q⟩:=q;exact False.elim q
 |cont=>obtain⟨_,_,_,q⟩:=q;exact False.elim q
 |ret u=>
  obtain⟨v,σ',H3,I9,r,q⟩:=q
  have I9':Inv X pins σ' H3 s9:=I9.unhnd I.ok
  obtain⟨m9,hn9,_⟩:=I9'.loc
  refine wpAny_nameGoes hl hn9 (by rw[I.ok.kind];rfl) fun h' m' hn' hs'=>?_
  exact⟨v,_,H3,I9'.lost hn' hs',r,q⟩
theorem az2(i:Nat)(hm:X.mg cx=some (.ref CF))(hB:PySem.W.subIn X.K (.ref CF) (.type "BaseException")=some true)(hb:Pb X body tb)(hs:∀a,Ss (X.hnd a) (b0::suite) (th a))(hN:X.N.Nodup)
  (hi:X.N[i]? =some n:=by rfl) (hl:X.env.kindOf n=some .local:=by rfl) (hst:X.stack=X.env::X.outer:=by rfl) (hfr:X.env.frame=some X.env.locals:=by rfl) (hg:Gl X cx:=by rfl) (hdb:(cx==("__debug__":Str))=false:=by decide):
  S X (.Try body [.ExceptHandler (some (.Name cx np)) (some n) (b0::suite) hpos] [] [] pos) (arH (fun C=>PySem.W.kitCls X.K (.ref C) (.ref CF)=some true) i tb th):=⟨ap5 i hm hB hb hs hN hi hl hst hfr hg hdb⟩
end
section
variable{X:Cx}{E:XK}{x:Str}{C:Addr}{e:Expr}{es:List Expr}{tA:TA}{np cpos pos p:Pos}{k k':Nat}{ps:List Str}{sp:Sp}
theorem eD1(D:Df1 X.prog X.w X.K X.mg X.base x k ps sp)(hr:Room k' X.A)(hp:adG (CX1 X.prog X.w) X E)(ha:As X (e::es) tA)(hk:k<=k':=by decide)(hg:Gl X x:=by rfl)
  (hdb:(x==("__debug__":Str))=false:=by decide) (he:starEach (e::es) X.env=(false,eval e X.env)::starEach es X.env:=by rfl) (hpl:(backTo pos (starEach es X.env)).any (·.1)=false:=by rfl):
  L2.E X (.Call (.Name x p) (e::es) [] pos) (ajE sp [] E tA):=by
 obtain⟨f,fd,F,hb,hm,kp⟩:=D.ex
 exact⟨anM F (hr.mono hk) hg hm kp hb .nil hp ha.h hdb he hpl⟩
end
structure XF(K:PySem.W.Frag)(C:Addr):Prop where
 cls:(PySem.W.clsIn K C).isSome=true
 ga:PySem.W.findIn K (.ref C) "__getattribute__"=some (some (.builtin "BaseException.__getattribute__"))
 nga:PySem.W.findIn K (.ref C) "__getattr__"=some none
 ca:PySem.W.findIn K (.ref C) "__class__"=some (some (.builtin "object.__class__"))
 cg:PySem.W.specialIn K (.builtin "object.__class__") "__get__"=some (some (.builtin "getset_descriptor.__get__"))
 ct:PySem.W.takesIn K (.builtin "object.__class__")=some true
 mo:PySem.W.mroIn K C (.type "object")=some true
 mb:PySem.W.mroIn K C (.type "BaseException")=some true
def AtC(a C:Addr)(h:Heap):Prop:=∃o vs,h.get? a=some o/\o.cls=.ref C/\o.data=.fields vs
theorem AtC.of{a C:Addr}{d:Option Addr}{b:Bool}{h:Heap}(x:∃o,h.get? a=some o/\Ex C d b o):AtC a C h:=by
 obtain⟨o,e,h1,_,vs,h2,_⟩:=x
 exact⟨o,vs,e,h1,h2⟩
theorem AtC.ty{M:Model}{a C:Addr}{h:Heap}(x:AtC a C h):PySem.W.Looks M h (typeOf (.ref a)) (.ref C):=by
 obtain⟨o,vs,h1,h2,_⟩:=x
 exact h2▸(PySem.W.Looks.ld h1).andThen .now
section
open PySem.W
variable{prog:Program}{w:World}{A:Around}{E:Value->Shared->Prop}{s:Shared}{K:PySem.W.Frag}{a C:Addr}
open Builtin Builtin.ObjectAttr Builtin.Getset_descriptor in
theorem aiM{tp:Value}{R:Result->Shared->Prop}(F:XF K C)(X:K.In s.heap)(I:AtC a C s.heap)(h:R (.ok (.ret (.ref C))) s):
  codeAny (model prog w) A (.call (.builtin "getset_descriptor.__get__") ⟨[.builtin "object.__class__",.ref a,tp],[]⟩) R s:=by
 obtain⟨hh,g,dr,t,os⟩:=s
 have ofC:=I.ty (M:=model prog w)
 have obj:=PySem.W.looks_mroIn (M:=model prog w) X F.mo
 have gs:=KF.slot_gs
 refine codeAny_call_builtin gs.plain KF.entry_gs (gs.check _ _ _ _ _ _ _ _ KF.type_class (KF.args_gs _ _ _) ?_)
 simp only[Builtin.«getset_descriptor.__get__»,descrGet,dga_obj]
 refine wpAny_bind (wpAny_pure ?_)
 simp only[descrGetter,descrCheckInstance,descrNameAndClass,isInstance,KF.owner_class]
 repeat lk
 constructor
 ·exact Code.quiet_builtin _ (by decide +kernel)
 ·apply codeAny_builtin KF.entry_class
  simp only[Builtin.«object.__class__»,shownTypeOf]
  repeat lk
  exact h
theorem ae8{M:Model}{nameV:Value}{Q:Unit->Shared->Prop}(F:XF K C)(X:K.In s.heap)(I:AtC a C s.heap)(hq:Q () s):wpAny M A (checkBuiltinCall "BaseException.__getattribute__" ⟨[.ref a,nameV],[]⟩) Q E s:=by
 obtain⟨hh,g,d,t,os⟩:=s
 have L0:=I.ty (M:=M)
 have L1:=PySem.W.looks_mroIn (M:=M) X F.mb
 have hk:builtinKind "BaseException.__getattribute__"=some .slot:=by decide +kernel
 have hsplit:splitId "BaseException.__getattribute__"=some ("BaseException","__getattribute__"):=by decide +kernel
 have ha:=PySem.F.args_bexc_ga (.ref a) nameV
 simp only[checkBuiltinCall,hk,hsplit]
 refine wpAny_bind ?_
 unfold isInstance
 repeat (first | lk | wp_step)
 exact hq
open Builtin Builtin.ObjectAttr in
theorem aq5{M:Model}{h:Heap}(F:XF K C)(X:K.In h):Looks M h (Builtin.ObjectAttr.find (.ref a) (.ref C) "__class__") (.bind (.builtin "getset_descriptor.__get__") (.builtin "object.__class__")):=by
 have L1:=PySem.W.looks_findIn (M:=M) X F.ca
 have L2:Looks M h (getOf (some (.builtin "object.__class__"))) (some (.builtin "getset_descriptor.__get__")):=PySem.W.looks_specialIn X F.cg
 have L3:=PySem.W.looks_takesIn (M:=M) X F.ct
 intro A Q E s k q
 unfold Builtin.ObjectAttr.find
 refine wpAny_bind (L1 A _ E s k ?_)
 refine wpAny_bind (L2 A _ E s k ?_)
 refine wpAny_bind (wpAny_bind (L3 A _ E s k ?_))
 simp only[if_true]
 refine wpAny_pure ?_
 exact wpAny_bind (wpAny_rule (wpAny_pure q))
theorem ah7{Q:Option Value->Shared->Prop}(F:XF K C)(X:K.In s.heap)(I:AtC a C s.heap)(h:Q (some (.ref C)) {s with toks:=s.toks+1}):wpAny (model prog w) A (getAttr? (.ref a) "__class__") Q E s:=by
 obtain⟨hh,g,d,t,os⟩:=s
 have L0:=I.ty (M:=model prog w)
 have L1:=PySem.W.looks_findIn (M:=model prog w) X F.ga
 have L2:=PySem.W.looks_findIn (M:=model prog w) X F.nga
 have f3:=PySem.F.attr_ValueError.ga.bind (.ref a)
 unfold getAttr? getAttrBy? getAttrBy
 refine wpAny_bind (wpAny_mkText (wpAny_bind (wpAny_attempt (wpAny_holding ?_))))
 refine wpAny_bind (L0.at ?_)
 refine wpAny_bind (L1.at ?_)
 show wpAny _ _ (getAttrByItsOwn _ _ _ _ _ _) _ _ _
 unfold getAttrByItsOwn
 repeat (first | assumption | with_reducible refine Looks.at (by assumption) ?_ | wp_step)
 refine codeAny_call_builtin PySem.F.attr_ValueError.ga.plain PySem.F.entry_bexc_ga (ae8 F X I ?_)
 have L4:=aq5 (a:=a) (M:=model prog w) F X
 unfold Builtin.«object.__getattribute__»
 repeat (first | assumption | with_reducible refine Looks.at (by assumption) ?_ | wp_step)
 refine aiM F X I ?_
 exact wpAny_pure (wpAny_of_eq (PySem.W.handedOut_of rfl) (wpAny_pure h))
theorem ag3(F:XF K C):KitX K (.ref a) (.ref C) (AtC a C) where
 ty:=fun _ _ _ I=>I.ty
 it:=fun _ _ X _=>by
  obtain⟨cdD,hcD⟩:=Option.isSome_iff_exists.mp F.cls
  unfold clsIn at hcD
  split at hcD
  ·next ho=>
   intro A' Q' E' s' k q
   unfold isType loadHead
   exact wpAny_bind (wpAny_loadPart (k _ _ (X _ _ ho)) (wpAny_pure q))
  ·cases hcD
 ne:=fun h tp dd its n sl X htp=>by
  obtain⟨cdD,hcD⟩:=Option.isSome_iff_exists.mp F.cls
  refine Bool.eq_false_iff.mpr fun q=>?_
  obtain rfl:C=tp:=Value.ref.inj (beq_iff_eq.mp q)
  unfold clsIn at hcD
  split at hcD
  ·next ho=>
   have z:=(X _ _ ho).symm.trans htp
   cases z
  ·cases hcD
 ca:=fun X I k=>ah7 F X I k
end
theorem cXi{X:Cx}:Cl1 X (.builtin "isinstance") (fun xs H Q=>∃(a C C':Addr) (d:Option Addr) (b0 b:Bool),xs=[.ref a,.ref C']/\H a=some (xo a C d b0)/\XF X.K C/\PySem.W.kitOne X.K (.ref C) (.ref C')=some b/\Q (.bl b) H):=by
 refine⟨fun pins s σ H xs us Q I r h=>?_⟩
 obtain⟨a,C,C',d,b0,b,rfl,ha,F,e,q⟩:=h
 obtain⟨u,w',rfl,r1,r2⟩:=ag4 r
 cases r1
 cases r2
 exact PySem.W.kia_one (ag3 F) I.kIn (AtC.of (I.hok a _ ha).1) e (fun z=>nomatch z) fun tk=>⟨.bl b,H,I.tok _,rfl,q⟩
theorem cXy{X:Cx}:Cl1 X (.builtin "isinstance") (fun xs H Q=>∃(a C:Addr) (T:String) (d:Option Addr) (b0 b:Bool),xs=[.ref a,.ty T]/\H a=some (xo a C d b0)/\XF X.K C/\PySem.W.kitOne X.K (.ref C) (.type T)=some b/\Q (.bl b) H):=by
 refine⟨fun pins s σ H xs us Q I r h=>?_⟩
 obtain⟨a,C,T,d,b0,b,rfl,ha,F,e,q⟩:=h
 obtain⟨u,w',rfl,r1,r2⟩:=ag4 r
 cases r1
 cases r2
 exact PySem.W.kia_one (ag3 F) I.kIn (AtC.of (I.hok a _ ha).1) e (fun z=>nomatch z) fun tk=>⟨.bl b,H,I.tok _,rfl,q⟩
theorem ai3:∀{Cs:List Addr} {us:List Value},Vals (Cs.map V.ref) us->us=Cs.map Value.ref
 |[],_,.nil=>rfl
 |c::Cs,_,.cons h r=>by
  cases h
  rw[ai3 r]
  rfl
theorem cXt{X:Cx}:Cl1 X (.builtin "isinstance") (fun xs H Q=>∃(a C tp:Addr) (Cs:List Addr) (d:Option Addr) (b0 b:Bool),xs=[.ref a,.ref tp]/\H a=some (xo a C d b0)/\XF X.K C/\SqT X.K H tp (Cs.map V.ref)/\PySem.W.kitAny X.K (.ref C) (Cs.map Value.ref)=some b/\Q (.bl b) H):=by
 refine⟨fun pins s σ H xs us Q I r h=>?_⟩
 obtain⟨a,C,tp,Cs,d,b0,b,rfl,ha,F,hS,e,q⟩:=h
 obtain⟨u,w',rfl,r1,r2⟩:=ag4 r
 cases r1
 cases r2
 obtain⟨its,rv,⟨o,ho,hc,n,hd⟩,_⟩:=I.tuple hS
 obtain⟨oc,od,oda,osl⟩:=o
 cases hc
 cases hd
 rw[←ai3 rv] at e
 exact PySem.W.kia_tup (ag3 F) I.kIn (AtC.of (I.hok a _ ha).1) ho e (fun z=>nomatch z) fun tk=>⟨.bl b,H,I.tok _,rfl,q⟩
def aHL(ok:Addr->Prop)(tb:TB)(th:Addr->TS):TS:=fun D σ H=>∃E:XK,tb D σ H E/\∀C d b H',E (cv C b) d H'->ok C/\∀a,H' a=none->th a {nx:=fun _ _=>False,rt:=D.rt} σ (upd H' a (xo a C d b))
section
variable{X:Cx}{body suite:List Stmt}{b0:Stmt}{tb:TB}{th:Addr->TS}{cx:Str}{np hpos pos:Pos}{CF:Addr}
theorem aJT(hm:X.mg cx=some (.ref CF))(hB:PySem.W.subIn X.K (.ref CF) (.type "BaseException")=some true)(hb:Pb X body tb)(hs:∀a,Ss (X.hnx a) (b0::suite) (th a))
  (hst:X.stack=X.env::X.outer:=by rfl) (hfr:X.env.frame=some X.env.locals:=by rfl) (hg:Gl X cx:=by rfl) (hdb:(cx==("__debug__":Str))=false:=by decide):
  S X (.Try body [.ExceptHandler (some (.Name cx np)) none (b0::suite) hpos] [] [] pos) (aHL (fun C=>PySem.W.kitCls X.K (.ref C) (.ref CF)=some true) tb th):=by
 refine⟨fun pins s σ H D I ⟨E,hw,hh⟩=>?_⟩
 refine wpAny_Try_except (wpAny_mono (hb.h pins s σ H D E I hw) (fun f s1 q=>?_) fun e s1 hx=>?_)
 ·cases f with
  |next=>exact wpAny_execs_nil q
  |ret v=>exact q
  |brk=>exact q
  |cont=>exact q
 obtain⟨s0,H0,I0,a,C,d,bb,H',rfl,os,bare,un,hok,fly,qE⟩:=hx
 obtain⟨hC,hh⟩:=hh C d bb H' qE
 have I1:Inv X pins σ H' s1:=I0.call' os un hok bare (fun _ z=>nomatch z)
 obtain⟨T,hT,fl⟩:=fly.flying I1.stack
 have hid:∀b∈frs X.stack++[a,T],b∈frs X.stack∨(H' b=none/\s0.heap.get? b=none):=fun b hb=>by
  rcases List.mem_append.mp hb with z | z
  ·exact .inl z
  ·rcases List.mem_cons.mp z with rfl | z
   ·exact .inr ⟨fly.1,fly.2.1⟩
   ·obtain rfl:b=T:=by simpa using z
    exact .inr hT
 have frames:X.A.frames=some (X.env::X.outer):=by rw[I.ok.frames,hst]
 refine agX (ah9 C d bb) frames hfr (hst▸fl) fun h4 held4 sm4=>?_
 refine abJ none held4 fun h5 fl5 sm5=>?_
 obtain⟨u5,hok5,fly5⟩:=adA (fs:=frs X.stack) un hok I1.stkFree (akC I1.stack) (by rw[hst] at hid ⊢;exact hid) fl5 (sm4.trans sm5) fly.2.1 fly.1
 have I5:Inv X pins σ H' {s1 with heap:=h5}:=I0.call' os u5 hok5 bare (fun _ z=>nomatch z)
 refine wpAny_handleBy_cons (codeAny_handlers_test ?_) (by intro q;cases q)
 have J5:=I5.hnx a
 refine abG (X:=X.hnx a) J5 hg hm ?_ hdb
 obtain⟨_,_,oe,vs5,_,_,_,⟨he5,_,_,hc5,_⟩,_⟩:=fly5
 refine af7 J5.kIn hC hB he5 hc5 ?_
 refine codeAny_handlers_suite ?_
 refine abJ none fl5 fun h6 fl6 sm6=>?_
 obtain⟨u6,hok6,fly6⟩:=adA (fs:=frs X.stack) un hok I1.stkFree (akC I1.stack) (by rw[hst] at hid ⊢;exact hid) fl6 ((sm4.trans sm5).trans sm6) fly.2.1 fly.1
 obtain⟨u7,hok7⟩:=anR u6 hok6 fly6
 have I7:Inv X pins σ (upd H' a (xo a C d bb)) {s1 with heap:=h6}:=I0.call' os u7 hok7 bare (fun _ z=>nomatch z)
 refine wpAny_mono ((hs a).h pins _ _ _ _ (I7.hnx a) (hh a fly.1)) (fun f s9 q=>?_) fun _ _ z=>z
 cases f with
 |next=>obtain⟨_,_,_,q⟩:=q;exact False.elim q
 |brk=>obtain⟨_,_,_,q⟩:=q;exact False.elim q
 |cont=>obtain⟨_,_,_,q⟩:=q;exact False.elim q
 |ret u=>
  obtain⟨v,σ',H3,I9,r,q⟩:=q
  exact⟨v,σ',H3,I9.unhnx I.ok,r,q⟩
end
theorem aiZ:entryFor table "proto.unchain"=some Builtin.«proto.unchain»:=entryFor_of_tree (by kernel_rfl)
theorem aiT:plainId "proto.unchain"=true:=by decide +kernel
def PX(e C:Addr)(d:Option Addr)(h:Heap):Prop:=∃(vs:Array Value) (sl:Array (Option Value)),h.get? e=some ⟨.ref C,d,.fields vs,sl⟩/\vs[1]? =some .none/\4<vs.size
section
variable{prog:Program}{w:World}{A:Around}{E:Value->Shared->Prop}{s:Shared}{e C a:Addr}{d:Option Addr}
theorem am9{M:Model}{i:Nat}{x:Value}{Q:Unit->Shared->Prop}(h:PX e C d s.heap)(hi:i<=4)(h1:i≠1)(k:∀h',Heap.SameBut e s.heap h'->PX e C d h'->Q () {s with heap:=h'}):wpAny M A (setField (.ref e) i x) Q E s:=by
 obtain⟨vs,sl,he,hn,hz⟩:=h
 refine wpAny_setField he rfl (by omega) (k _ (Heap.SameBut.update _ _ _) ⟨vs.setIfInBounds i x,sl,Heap.get?_update_self (Obj.mapFields (·.setIfInBounds i x)) he rfl,?_,?_⟩)
 ·rw[Array.getElem?_setIfInBounds_ne h1]
  exact hn
 ·rw[Array.size_setIfInBounds]
  exact hz
theorem aq3{v:Value}{oa:Obj}{va:Array Value}{Q:Value->Shared->Prop}(ho:s.heap.get? a=some oa)(hd:oa.data=.fields va)(h2:va[2]? =some .none)(q:Q .none s):
  wpAny (model prog w) A (runValue (.builtin "proto.unchain" ⟨[v,.ref a,.ref a,.bool false],[]⟩)) Q E s:=by
 refine wpAny_runValue (codeAny_builtin aiZ ?_)
 rw[Around.under_plainId aiT _]
 unfold Builtin.«proto.unchain»
 refine wpAny_bind (wpAny_field ho hd h2 ?_)
 rw[if_pos (by decide)]
 exact wpAny_pure q
theorem ajZ{β:Type}{Q:β->Shared->Prop}{oa:Obj}{va:Array Value}(h:PX e C d s.heap)(hh:A.handled=some (.ref a))(ne:a≠e)(ho:s.heap.get? a=some oa)(hd:oa.data=.fields va)(h2:va[2]? =some .none)
  (k:∀h',Heap.SameBut e s.heap h'->PX e C d h'->E (.ref e) {s with heap:=h'}):wpAny (model prog w) A (raiseNew (.ref e):Sem β) Q E s:=by
 unfold raiseNew
 refine wpAny_bind (wpAny_handled ?_)
 rw[hh]
 dsimp only
 rw[if_pos (by simp[ne])]
 refine wpAny_bind (wpAny_holding (aq3 ho hd h2 ?_))
 refine wpAny_bind (am9 (i:=2) h (by decide) (by decide) fun h' sb px=>?_)
 exact wpAny_throw (k h' sb px)
end
def aET(C:Addr)(h:Heap):Prop:=∃nm q N bs bm hdct sn sub ab col dd k0 k1 k2 k3 k5 newId,h.get? C=some (excClassObj nm q C N bs bm hdct sn sub ab col dd k0 k1 k2 k3 k5 newId)/\bm.contains (.type "BaseException")=true
section
variable{prog:Program}{w:World}{A:Around}{E:Value->Shared->Prop}{s:Shared}{env:Env}{e C a:Addr}{d:Option Addr}
theorem afJ{x c:Sem Value}{Q:Flow->Shared->Prop}(hh:A.handled=some (.ref a))(hc:∀(s1:Shared) (R:Value->Shared->Prop),R .none s1->wpAny (model prog w) A c R E s1)
  (h:wpAny (model prog w) A x (fun v s₁=>∃e d oa va,v=.ref e/\aET C s₁.heap/\PX e C d s₁.heap/\e≠C/\a≠e/\s₁.heap.get? a=some oa/\oa.data=.fields va/\va[2]? =some .none/\
   ∀h',Heap.SameBut e s₁.heap h'->PX e C d h'->E (.ref e) {s₁ with heap:=h'}) E s):
  wpAny (model prog w) A (raiseStmt env (some x) (some c)) Q E s:=by
 unfold raiseStmt
 refine wpAny_bind (wpAny_mono h (fun v s1 h1=>?_) fun _ _ z=>z)
 obtain⟨e,d,oa,va,rfl,⟨nm,q,N,bs,bm,hdct,sn,sub,ab,col,dd,k0,k1,k2,k3,k5,newId,hC,hB⟩,px,neC,nea,ho,hd,h2,k⟩:=h1
 have inB:(Value.ref C::bm).contains (.type "BaseException")=true:=by rw[List.contains_cons,hB,Bool.or_true]
 refine wpAny_bind (wpAny_holding (hc _ _ (wpAny_bind (wpAny_pure ?_))))
 obtain⟨hp,g,dr,tk,os⟩:=s1
 obtain⟨vs,sl,he,hn,hz⟩:=id px
 refine wpAny_bind (wpAny_holding ?_)
 generalize hsf:setField=sf
 unfold excFromValue isExcClass isInstance
 repeat (first | with_reducible refine wpAny_loadPart_at he ?_ | with_reducible refine wpAny_loadPart_at hC ?_ | (with_reducible refine wpAny_isSubtype_exc hC ?_;rw[inB]) | wp_step)
 subst hsf
 refine am9 px (by decide) (by decide) fun h3 b3 px3=>?_
 refine wpAny_bind (am9 px3 (by decide) (by decide) fun h4 b4 px4=>?_)
 have b34:=b3.trans b4
 have hC4:h4.get? C=some (excClassObj nm q C N bs bm hdct sn sub ab col dd k0 k1 k2 k3 k5 newId):=(b34.2 C neC.symm).trans hC
 have ho4:h4.get? a=some oa:=(b34.2 a nea).trans ho
 obtain⟨vs4,sl4,he4,hn4,hz4⟩:=id px4
 generalize hsf:@setFlight=sf
 generalize hrn:@raiseNew=rn
 unfold raisedInstance
 repeat (first | with_reducible refine wpAny_loadPart_at he4 ?_ | with_reducible refine wpAny_loadPart_at hC4 ?_ | wp_step)
 subst hsf
 subst hrn
 unfold setFlight
 refine wpAny_bind (wpAny_field he4 rfl hn4 ?_)
 rw[if_neg (by decide)]
 refine wpAny_pure ?_
 exact ajZ px4 hh nea ho4 hd h2 fun h5 b5 px5=>k h5 (b34.trans b5) px5
end
def ax0(X:Cx)(a:Addr)(E:XK):Prop:=∀(pins:List (Addr×Obj)) (σ:St) (H:Hp) (s:Shared) (e C:Addr) (d:Option Addr) (b:Bool) (o:Obj) (vs:Array Value),Inv (X.hnx a) pins σ H s->H e=none->X.s₀.heap.get? e=none->s.heap.get? e=some o->o.data=.fields vs->vs[1]? =some .none->Ex C d b o->E (cv C b) d H->(X.hnx a).xe (.ref e) s
section
variable{P:Program}{w:World}{K:PySem.W.Frag}{mg:Str->Option Value}{base:Heap}{N:List Str}{qual:Str}{scope:Scope}{f:Addr}{cd:Value}{A:Around}{outer:List Env}{s0:Shared}{H0:Hp}{E:XK}
theorem amV{pins:List (Addr×Obj)}{σ:St}{H:Hp}{s:Shared}{a':Addr}(I:Inv ((aaS (CX1 P w) P w K mg base N qual scope f cd A outer s0 H0 E).hnx a') pins σ H s):∀b∈frs (envOfC qual scope s0.heap.objs.size f cd::outer),b∈frs outer∨(H b=none/\s0.heap.get? b=none):=fun b hb=>by
 have q:b=s0.heap.objs.size∨b∈frs outer:=by
  obtain⟨env,he,hf⟩:=List.mem_filterMap.mp hb
  rcases List.mem_cons.mp he with rfl | he
  ·exact .inl (Option.some.inj hf).symm
  ·exact .inr (List.mem_filterMap.mpr ⟨env,he,hf⟩)
 rcases q with rfl | q
 ·exact .inr ⟨I.free,Heap.get?_none_of_le (Nat.le_refl _)⟩
 ·exact .inl q
theorem ayT{pins:List (Addr×Obj)}{σ:St}{H:Hp}{s:Shared}{a C:Addr}{d:Option Addr}{b:Bool}{o:Obj}{vs:Array Value}{a':Addr}(I:Inv ((aaS (CX1 P w) P w K mg base N qual scope f cd A outer s0 H0 E).hnx a') pins σ H s)(Ha:H a=none)(ga:s0.heap.get? a=none)
  (ho:s.heap.get? a=some o) (hd:o.data=.fields vs) (h1:vs[1]? =some .none) (hx:Ex C d b o) (q:E (cv C b) d H):
  ((aaS (CX1 P w) P w K mg base N qual scope f cd A outer s0 H0 E).hnx a').xe (.ref a) s:=by
 refine al7 (B:=PySem.W.hideAll s.heap (frs (envOfC qual scope s0.heap.objs.size f cd::outer)++[a])) (L:=s0.heap.objs.size) (ah9 C d b) I.ok.frames rfl (PySem.W.funFrames_hide I.stack fun env he b hb=>List.mem_append_left _ (List.mem_filterMap.mpr ⟨env,he,hb⟩)) (fun b o e=>PySem.W.of_hideAll _ e) (PySem.W.hideAll_none _ (by simp)) ho hd h1 hx fun h2 fl2 up=>?_
 obtain⟨o2,vs2,T2,oT2,ts2,⟨he2,hd2,h12,_⟩,_⟩:=fl2.tr
 refine wpAny_bind (wpAny_field he2 hd2 h12 ?_)
 rw[if_neg (by simp)]
 refine abJ (some s0.heap.objs.size) fl2 fun h3 fl3 up3=>?_
 refine am6 (L:=s0.heap.objs.size) rfl fl3 fun h4 fl4 up4=>?_
 obtain⟨u2,hok2,fly2⟩:=adA (fs:=frs outer) I.base I.hok (fun b hb=>I.stkFree b (by
   obtain⟨env,he,hf⟩:=List.mem_filterMap.mp hb
   exact List.mem_filterMap.mpr ⟨env,List.mem_cons_of_mem _ he,hf⟩)) (akC I.funs) (fun b hb=>by
  rcases List.mem_append.mp hb with z | z
  ·exact amV I b z
  ·obtain rfl:b=a:=by simpa using z
   exact .inr ⟨Ha,ga⟩) fl4 ((up.trans up3).trans up4) ga Ha
 exact⟨a,C,d,b,H,rfl,I.os,I.bare,u2,hok2,fly2,q⟩
theorem aIW{a:Addr}:ax0 (aaS (CX1 P w) P w K mg base N qual scope f cd A outer s0 H0 E) a E:=fun _ _ _ _ _ _ _ _ _ _ I h1 h2 h3 h4 h5 h6 q=>ayT I h1 h2 h3 h4 h5 h6 q
end
section
variable{X:Cx}{E:XK}{x:Str}{C a:Addr}{e:Expr}{es:List Expr}{t:TA}{np cpos pos p2:Pos}{j:Nat}
end
theorem agQ:bootBuiltins "ValueError"=some (.type "ValueError"):=by decide +kernel
def tDi:TE:=fun _ H Q=>∀p,H p=none->Q (.ref p) (upd H p (.dK []))
section
variable{X:Cx}{pos:Pos}{o i:Expr}{to ti:TE}
theorem Inv.bigM{pins:List (Addr×Obj)}{σ:St}{H:Hp}{s:Shared}(I:Inv X pins σ H s):sysModules<s.heap.objs.size:=by
 have h:mainGlobals<s.heap.objs.size:=(I.mod.glob.keeps I.bk).lt
 exact Nat.lt_trans (by decide) h
theorem eDi:E X (.Dict [] [] pos) tDi:=⟨fun pins s σ H Q I h=>wpAny_Dict_empty ⟨.ref s.heap.objs.size,_,I.laid (a:=s.heap.objs.size) (o:=.dK []) (t':=s.toks) (fun _ _ q=>Heap.get?_push_of_some _ q) (Nat.le_refl _)
 ⟨Nat.zero_le _,beq_eq_false_iff_ne.mpr (Ne.symm (Nat.ne_of_lt I.bigM)),[],.nil,Heap.DictOf.new s.heap⟩,rfl,h _ (I.hok.fresh (Nat.le_refl _))⟩⟩
theorem gSb(ho:E X o to)(hi:E X i ti)(ha:∀v,assign (.Subscript o i pos) X.env v=(do
   let ov ←holding [v] (eval o X.env)
   let iv ←holding [v,ov] (eval i X.env)
   standAt pos
   holding [v,ov,iv] (setItem ov iv v)
   release [v,ov,iv] []):=by intro _;rfl):Gt X (.Subscript o i pos) (aGV to ti ax3):=⟨aAZ ho.h hi.h aq2 ha⟩
end
def Kd.wh:Kd->Bool
 |.int=>true
 |_=>false
section
variable{X:Cx}
end
section
variable{js:List Nat}{σ:St}{tt:TT}{te:TE}{Q:VK}{H1:Hp}
end
def acM(l:List Nat)(lo hi:Option Int):List Nat:=(l.drop (HT.sIx l.length 0 lo)).take (HT.sIx l.length l.length hi-HT.sIx l.length 0 lo)
theorem axN(v:Option Int)(n d:Nat):(match v with | none=>(d:Int) | some i=>max 0 (min (if i<0 then i+(n:Int) else i) (n:Int)))=((HT.sIx n d v:Nat):Int):=by
 cases v with
 |none=>rfl
 |some i=>
  show max 0 (min (if i<0 then i+(n:Int) else i) (n:Int))=(((if i<0 then (i+(n:Int)).toNat else min i.toNat n):Nat):Int)
  by_cases h:i<0
  ·rw[if_pos h,if_pos h];omega
  ·rw[if_neg h,if_neg h];omega
theorem aqI(lo hi:Option Int)(n:Nat):Builtin.Str.strSliceIndices lo hi 1 n=sliceRange ((HT.sIx n 0 lo:Nat):Int) ((HT.sIx n n hi:Nat):Int) 1:=by
 unfold Builtin.Str.strSliceIndices
 simp only[show ((1:Int)>0)=True from by simp,if_true]
 rw[←axN lo n 0,←axN hi n n]
 cases lo<;>cases hi<;>rfl
theorem al4(a b:Nat):sliceRange (a:Int) (b:Int) 1=(List.range (b-a)).map fun k=>a+k:=by
 rcases Nat.lt_or_ge a b with c | c
 ·have up:(a:Int)<b:=by omega
  have many:(((b:Int)-a+1-1) / 1).toNat=b-a:=by rw[Int.ediv_one];omega
  have e:∀k:Nat,((a:Int)+1*(k:Int)).toNat=a+k:=fun k=>by omega
  simp only[sliceRange,gt_iff_lt,Int.one_pos,if_true,up,many,e]
 ·have no:¬((a:Int)<b):=by omega
  have z:b-a=0:=by omega
  simp only[sliceRange,gt_iff_lt,Int.one_pos,if_true,no,if_false,z,List.range_zero,List.map_nil]
  rfl
theorem ao9(l:List Nat)(n a:Nat):((List.range n).map fun k=>a+k).filterMap (fun i=>(Tx l).cps[i]?)=(l.drop a).take n:=by
 rw[List.filterMap_map]
 induction n with
 |zero=>rw[List.take_zero];rfl
 |succ n ih=>
  have one:[n].filterMap ((fun i=>(Tx l).cps[i]?) ∘ fun k=>a+k)=(l[a+n]?).toList:=by
   show List.filterMap _ [n]=_
   cases e:l[a+n]? <;>simp[e]
  rw[List.range_succ,List.filterMap_append,ih,one,List.take_add_one,List.getElem?_drop]
theorem aBC(l:List Nat)(lo hi:Option Int):(Builtin.Str.strSliceIndices lo hi 1 l.length).filterMap (fun i=>(Tx l).cps[i]?)=acM l lo hi:=by
 rw[aqI,al4,ao9]
 rfl
theorem apD(l:List Nat)(lo hi:Option Int)(h:(Builtin.Str.strSliceIndices lo hi 1 l.length).length=l.length):acM l lo hi=l:=by
 rw[aqI,al4,List.length_map,List.length_range] at h
 have h1:=HT.sIx_le l.length l.length (Nat.le_refl _) hi
 have e1:HT.sIx l.length 0 lo=0∨l.length=0:=by omega
 unfold acM
 rcases e1 with e | e
 ·rw[e]
  have:HT.sIx l.length l.length hi=l.length:=by omega
  rw[this]
  simp
 ·have:l=[]:=List.eq_nil_of_length_eq_zero e
  subst this
  simp
theorem ae4(l:List Nat)(lo hi:Option Int):(acM l lo hi).length<=l.length:=by
 unfold acM
 rw[List.length_take,List.length_drop]
 omega
section
variable{X:Cx}
def rSlX:V->Option Int->Option Int->Hp->VK->Prop:=fun x lo hi H Q=>∃l:List Nat,x=.str (Tx l)/\l.length<=sizeLine/\Q (.str (Tx (acM l lo hi))) H
theorem slX:Sls X rSlX:=by
 refine⟨fun pins s σ H x v vl vu lo hi sl Q I rx hs pl pu h=>?_⟩
 obtain⟨l,rfl,hz,q⟩:=h
 obtain⟨t,rfl⟩:=rx
 refine⟨"str",_,PySem.F.slot_str_getitem.lookup,typeIs_str _ _ _,?_⟩
 obtain⟨o,ho,hc,hd⟩:=hs
 have fin:∀(a b:Option (Int×Tok)),o.data=.fields #[partValue a,partValue b,.none]->a.map (·.1)=lo->b.map (·.1)=hi->wpAny (model X.prog X.w) X.A (getItem (.str (Tx l) t) (.ref sl)) (EP X pins σ Q) X.xe s:=fun a b hd ea eb=>by
  refine wpAny_getItem_str_slice (l:=a) (u:=b) (st:=none) ⟨o,ho,hc,hd⟩ rfl ?_
  have ep:slicePicked (Tx l) a b none=Builtin.Str.strSliceIndices lo hi 1 l.length:=by unfold slicePicked;rw[ea,eb,aa2];rfl
  unfold sliceMade
  rw[ep]
  split
  ·next hw=>
   have hw2:(Builtin.Str.strSliceIndices lo hi 1 l.length).length=l.length:=by
    have:=(Bool.and_eq_true_iff.mp hw).2
    rw[aa2] at this
    exact beq_iff_eq.mp this
   show EP X pins σ Q _ s
   rw[apD l lo hi hw2] at q
   exact⟨.str (Tx l),H,I,⟨t,rfl⟩,q⟩
  ·rw[aBC]
   exact⟨by rw[aa2];exact Nat.le_trans (ae4 l lo hi) hz,⟨.str (Tx (acM l lo hi)),H,I.tok _,⟨_,rfl⟩,q⟩⟩
 cases pl with
 |none=>
  cases pu with
  |none=>exact fin none none hd rfl rfl
  |int j tj=>exact fin none (some (j,tj)) hd rfl rfl
 |int i ti=>
  cases pu with
  |none=>exact fin (some (i,ti)) none hd rfl rfl
  |int j tj=>exact fin (some (i,ti)) (some (j,tj)) hd rfl rfl
def two(n:Nat):List Nat:=(num (100+n)).drop 1
theorem aAC(m:Nat):num m≠[]:=fun e=>Nat.toDigits_ne_nil (List.map_eq_nil_iff.mp e)
end
section
variable{prog:Program}{w:World}{A:Around}{E:Value->Shared->Prop}{s:Shared}{I:Addr}{fp wr:List Addr}{G:Array GenState->Array GenState->Prop}{n:Nat}{P:Nat->Value->Prop}{St:Nat->Shared->Prop}
end
section
variable{X:Cx}{o e:Expr}{to te:TE}{p rpos apos cpos:Pos}
end
theorem eOr2{X:Cx}{e:Expr}{t u:TE}(h:E X e t)(h':E X e u):E X e (fun σ H Q=>t σ H Q∨u σ H Q):=
 ⟨fun pins s σ H Q I z=>z.elim (fun z=>h.h pins s σ H Q I z) fun z=>h'.h pins s σ H Q I z⟩
section
variable{X:Cx}
end
section
variable{κ:Type}[DecidableEq κ]
def av2(kvs:List (κ×V))(k:κ):Option V:=(kvs.find? fun kv=>decide (kv.1=k)).map (·.2)
def auI(kvs:List (κ×V))(k:κ)(v:V):List (κ×V):=
 if (kvs.any fun kv=>decide (kv.1=k))=true then kvs.map (fun kv=>if kv.1=k then (kv.1,v) else kv) else kvs++[(k,v)]
def axF(kvs:List (κ×V))(k:κ):List (κ×V):=kvs.filter fun kv=>decide (kv.1≠k)
theorem RelO.getD{o:Option V}{u:Option Value}{d:V}{d':Value}(r:RelO o u)(rd:RelV d d'):RelV (o.getD d) (u.getD d'):=by
 cases o with
 |none=>cases u with
  |none=>exact rd
  |some _=>exact (show False from r).elim
 |some _=>cases u with
  |none=>exact (show False from r).elim
  |some _=>exact r
theorem KV.any{kvs:List (κ×V)}{vs:List (κ×Value)}(r:KV kvs vs)(k:κ):(kvs.any fun kv=>decide (kv.1=k))=vs.any fun kv=>decide (kv.1=k):=by
 unfold KV at r
 induction r with
 |nil=>rfl
 |cons h t ih=>rw[List.any_cons,List.any_cons,ih,h.1]
theorem KV.drop{kvs:List (κ×V)}{vs:List (κ×Value)}(r:KV kvs vs)(k:κ):KV (axF kvs k) (without vs k):=by
 unfold KV at r ⊢
 unfold axF without
 induction r with
 |nil=>exact .nil
 |@cons p q ps qs h t ih=>
  obtain⟨h1,h2⟩:=h
  rw[List.filter_cons,List.filter_cons]
  by_cases e:p.1=k
  ·have a:¬decide (p.1≠k)=true:=by simp[e]
   have b:¬decide (q.1≠k)=true:=by simp[h1.symm.trans e]
   rw[if_neg a,if_neg b];exact ih
  ·have e':¬q.1=k:=fun z=>e (h1.trans z)
   have a:decide (p.1≠k)=true:=by simp[e]
   have b:decide (q.1≠k)=true:=by simp[e']
   rw[if_pos a,if_pos b];exact .cons ⟨h1,h2⟩ ih
theorem KV.length{kvs:List (κ×V)}{vs:List (κ×Value)}(r:KV kvs vs):kvs.length=vs.length:=Paired.length r
end
theorem axI{P:Program}{w:World}{k:Key}{u:Value}(r:RelV (kV k) u):(abW P w).is k u=true:=by
 cases k with
 |inl i=>obtain⟨t,e⟩:=(show ∃t,u=Value.int i t from r);subst e;exact alW P w i t
 |inr x=>obtain⟨t,e⟩:=(show ∃t,u=Value.str x t from r);subst e;exact alF P w x t
theorem acL{P:Program}{w:World}:∀{ks:List Key} {us:List Value},Vals (ks.map kV) us->ItemsAre (abW P w) ks us
 |[],_,r=>by rw[List.map_nil] at r;cases r;exact .nil
 |k::ks,_,r=>by
  rw[List.map_cons] at r
  cases r with
  |cons h t=>exact .cons (axI h) (acL t)
section
variable{P:Program}{w:World}{H:Hp}{h:Heap}{a:Addr}
end
def DGet(H:Hp)(a:Addr)(y:V)(r:Option V):Prop:=
 (∃kvs k,Rd H a (.dK kvs)/\y=kV k/\r=av2 kvs k)∨∃kvs k b,Rd H a (.dT kvs)/\y=.ref b/\H b=some (.tup (k.map kV))/\r=av2 kvs k
def DPut(H:Hp)(a:Addr)(y v:V)(H':Hp):Prop:=
 (∃kvs k,H a=some (.dK kvs)/\y=kV k/\kvs.length<sizeLine/\H'=upd H a (.dK (auI kvs k v)))∨
 ∃kvs k b,H a=some (.dT kvs)/\y=.ref b/\H b=some (.tup (k.map kV))/\kvs.length<sizeLine/\H'=upd H a (.dT (auI kvs k v))
theorem DGet.k{H:Hp}{a:Addr}{kvs:List (Key×V)}{k:Key}(e:H a=some (.dK kvs)):DGet H a (kV k) (av2 kvs k):=.inl ⟨kvs,k,.inl e,rfl,rfl⟩
theorem DGet.t{H:Hp}{a b:Addr}{kvs:List (List Key×V)}{k:List Key}(e:H a=some (.dT kvs))(eb:H b=some (.tup (k.map kV))):DGet H a (.ref b) (av2 kvs k):=.inr ⟨kvs,k,b,.inl e,rfl,eb,rfl⟩
theorem DPut.k{H:Hp}{a:Addr}{kvs:List (Key×V)}{k:Key}{v:V}(e:H a=some (.dK kvs))(hl:kvs.length<sizeLine):DPut H a (kV k) v (upd H a (.dK (auI kvs k v))):=.inl ⟨kvs,k,e,rfl,hl,rfl⟩
theorem DPut.t{H:Hp}{a b:Addr}{kvs:List (List Key×V)}{k:List Key}{v:V}(e:H a=some (.dT kvs))(eb:H b=some (.tup (k.map kV)))(hl:kvs.length<sizeLine):
  DPut H a (.ref b) v (upd H a (.dT (auI kvs k v))):=.inr ⟨kvs,k,b,e,rfl,eb,hl,rfl⟩
section
variable{X:Cx}{pins:List (Addr×Obj)}{σ:St}{H:Hp}{s:Shared}{a:Addr}{y v:V}{u r:Value}{o:Option V}{A:Around}{E:Value->Shared->Prop}
end
section
variable{X:Cx}{pins:List (Addr×Obj)}{σ:St}{H:Hp}{s:Shared}{a:Addr}{kvs:List (Key×V)}{k:Key}{u:Value}{A:Around}{E:Value->Shared->Prop}
end
def aGJ(i:Expr):Prop:=∀ov iv,subscripted i false ov iv=operate [ov,iv] (getItem ov iv)
theorem asQ{prog:Program}{w:World}{A:Around}{E:Value->Shared->Prop}{s:Shared}{env:Env}{value slice:Expr}{pos:Pos}{T id:String}{Q:Value->Shared->Prop}
  (hl:typeLookup (.type T) "__getitem__"=pure (some (.builtin id))) (hs:aGJ slice)
  (h:wpAny (model prog w) A (eval value env) (fun o s₁=>wpAny (model prog w) A (eval slice env) (fun i s₂=>s₂.TypeIs o T/\wpAny (model prog w) A (getItem o i) Q E s₂) E s₁) E s):
  wpAny (model prog w) A (eval (.Subscript value slice pos) env) Q E s:=by
 refine Subscript_ (wpAny_mono h (fun o s₁ h₁=>wpAny_mono h₁ (fun i s₂ h₂=>?_) fun _ _ x=>x) fun _ _ x=>x)
 obtain⟨hT,h₂⟩:=h₂
 unfold subscriptTail
 refine wpAny_bind ?_
 rw[getitemInPython_of_ne hT.not_modules]
 refine wpAny_bind (wpAny_specialOf hT hl ?_)
 have fin:wpAny (model prog w) A (subscripted slice false o i) (fun r s₃=>wpAny (model prog w) A (letTemporaryGo value o r >>=fun _=>pure r) Q E s₃) E s₂:=by
  rw[hs o i]
  exact wpAny_operating (wpAny_mono h₂ (fun r s₃ h₃=>wpAny_bind (wpAny_letTemporaryGo (wpAny_pure h₃))) fun _ _ x=>x)
 first
  |exact wpAny_pure (wpAny_bind fin)
  |exact wpAny_bind (wpAny_pure (wpAny_bind fin))
  |exact wpAny_bind fin
section
variable{X:Cx}{o i e value:Expr}{pos pos' tpos:Pos}{td ty tv:TE}
end
section
variable{X:Cx}{pos:Pos}
end
section
variable{X:Cx}{pins:List (Addr×Obj)}{σ:St}{H:Hp}{s:Shared}{a:Addr}{y d:V}{u r:Value}{o:Option V}{A:Around}{E:Value->Shared->Prop}
end
section
variable{X:Cx}{o e f:Expr}{apos cpos:Pos}{td ty tx:TE}
end
section
variable{X:Cx}{pins:List (Addr×Obj)}{σ:St}{H:Hp}{s:Shared}{a:Addr}{kvs:List (Key×V)}{A:Around}{E:Value->Shared->Prop}
end
section
variable{X:Cx}{pins:List (Addr×Obj)}{σ:St}{H:Hp}{s:Shared}{a:Addr}{y:V}{u:Value}{A:Around}{E:Value->Shared->Prop}
end
section
variable{X:Cx}{k:Nat}{o i kx vx:Expr}{td ty tk tv:TE}{pos:Pos}{keys:List (Option Expr)}{values:List Expr}{trs:List (TE×TE)}
theorem axR:Op2 X (binaryOp .Mult) aIU:=⟨aCZ⟩
theorem ajL:∀(n:Nat) (l:List Nat) (acc:Array Nat),((List.replicate n l.toArray).foldl (·++·) acc).toList=acc.toList++(List.replicate n l).flatten
 |0,l,acc=>by simp
 |n+1,l,acc=>by
  rw[List.replicate_succ,List.foldl_cons,ajL n l,List.replicate_succ,List.flatten_cons]
  simp
theorem aw9(l:List Nat)(n:Nat):Txt.mul (Tx l) n=Tx (List.replicate n l).flatten:=by
 unfold Txt.mul
 by_cases h1:(n:Int)<1
 ·obtain rfl:n=0:=by omega
  rw[if_pos h1]
  rfl
 ·rw[if_neg h1]
  by_cases h2:((n:Int)==1||(Tx l).length==0)=true
  ·rw[if_pos h2]
   rcases Bool.or_eq_true _ _▸h2 with h | h
   ·have:n=1:=by have:=beq_iff_eq.mp h;omega
    subst this
    simp
   ·have hl:l.length=0:=by have:=beq_iff_eq.mp h;rwa [aa2] at this
    rw[List.length_eq_zero_iff.mp hl]
    have:(List.replicate n ([]:List Nat)).flatten=[]:=by simp
    rw[this]
  ·rw[if_neg h2]
   show (⟨_⟩:Str)=⟨_⟩
   congr 1
   apply Array.toList_inj.mp
   rw[Int.toNat_natCast]
   have:=ajL n l #[]
   simpa using this
theorem an6:Op2 X (binaryOp .Mult) (fun x y H Q=>∃(l:List Nat) (n:Nat),x=.str (Tx l)/\y=.int n/\l.length*n<=100000/\n<=100000/\Q (.str (Tx (List.replicate n l).flatten)) H):=by
 refine⟨fun pins s σ H x y v u Q I rx ry h=>?_⟩
 obtain⟨l,n,rfl,rfl,hz,hn,q⟩:=h
 obtain⟨t,rfl⟩:=rx
 obtain⟨t2,rfl⟩:=ry
 refine SB.mul ⟨?_,fun h1 h2=>?_,fun h1 h2=>?_⟩ fun t' k=>⟨.str (Tx (List.replicate n l).flatten),H,I.tok _,⟨t',by rw[aw9]⟩,q⟩
 ·have a:¬(n:Int)< -(2^63):=by omega
  have b:¬(n:Int) ≥ 2^63:=by omega
  rw[decide_eq_false a,decide_eq_false b]
  rfl
 ·rw[aa2]
  intro z
  have hn0:0<n:=by omega
  have h3:(l.length:Int)*(n:Int)<=100000:=by
   have:((l.length*n:Nat):Int)<=((100000:Nat):Int):=Int.ofNat_le.mpr hz
   rwa [Int.natCast_mul] at this
  have h4:((2^63-1:Int) / n)<l.length:=z
  have h5:=Int.lt_ediv_add_one_mul_self (2^63-1:Int) (show (0:Int)<n by omega)
  have h6:=Int.mul_le_mul_of_nonneg_right (show (2^63-1:Int) / n+1<=l.length by omega) (show (0:Int)<=n by omega)
  omega
 ·rw[aa2,Int.toNat_natCast]
  exact decide_eq_false (by rw[sizeLine_eq];omega)
end
def Rise(xs:Array Nat):Prop:=xs.toList.Pairwise (·<·)
theorem Rise.lt{xs:Array Nat}(h:Rise xs){i k x y:Nat}(hi:xs[i]? =some x)(hk:xs[k]? =some y)(l:i<k):x<y:=by
 rw[←Array.getElem?_toList] at hi hk
 obtain⟨h1,e1⟩:=List.getElem?_eq_some_iff.mp hi
 obtain⟨h2,e2⟩:=List.getElem?_eq_some_iff.mp hk
 have:=List.pairwise_iff_getElem.mp h i k h1 h2 l
 rw[e1,e2] at this
 exact this
def Cut(xs:Array Nat)(j r:Nat):Prop:=r<=xs.size/\(∀i x,i<r->xs[i]? =some x->x<j)/\∀i x,r<=i->xs[i]? =some x->j<=x
theorem ah6{xs:Array Nat}{j:Nat}(hr:Rise xs):∀fuel lo hi:Nat,lo<=hi->hi<=xs.size->hi-lo<=fuel->(∀i x,i<lo->xs[i]? =some x->x<j)->(∀i x,hi<=i->xs[i]? =some x->j<=x)->Cut xs j (SetTable.below.go xs j fuel lo hi)
 |0,lo,hi,h1,h2,h3,a,b=>by
  have e:lo=hi:=by omega
  subst e
  exact⟨h2,a,b⟩
 |f+1,lo,hi,h1,h2,h3,a,b=>by
  unfold SetTable.below.go
  by_cases c:lo<hi
  ·rw[if_pos c]
   have hm:(lo+hi) / 2<xs.size:=by omega
   have em:xs[(lo+hi) / 2]? =some xs[(lo+hi) / 2]:=Array.getElem?_eq_getElem hm
   have eg:xs.getD ((lo+hi) / 2) j=xs[(lo+hi) / 2]:=by rw[Array.getD_eq_getD_getElem?,em];rfl
   dsimp only
   rw[eg]
   by_cases d:xs[(lo+hi) / 2]<j
   ·rw[if_pos d]
    refine ah6 hr f _ _ (by omega) h2 (by omega) (fun i x hl hx=>?_) b
    by_cases q:i=(lo+hi) / 2
    ·subst q
     rw[em] at hx
     cases hx
     exact d
    ·exact Nat.lt_trans (hr.lt hx em (by omega)) d
   ·rw[if_neg d]
    refine ah6 hr f _ _ (by omega) (by omega) (by omega) a fun i x hl hx=>?_
    by_cases q:i=(lo+hi) / 2
    ·subst q
     rw[em] at hx
     cases hx
     omega
    ·have:=hr.lt em hx (by omega)
     omega
  ·rw[if_neg c]
   have e:lo=hi:=by omega
   subst e
   exact⟨h2,a,b⟩
theorem afM{xs:Array Nat}(hr:Rise xs)(j:Nat):Cut xs j (SetTable.below xs j):=
 ah6 hr _ _ _ (Nat.zero_le _) (Nat.le_refl _) (Nat.le_refl _) (fun _ _ h=>absurd h (Nat.not_lt_zero _)) fun i x h hx=>by
  obtain⟨z,_⟩:=Array.getElem?_eq_some_iff.mp hx
  omega
theorem aw1{xs:Array Nat}{j:Nat}(hr:Rise xs)(h:(xs[SetTable.below xs j]? ==some j)=false):∀x∈xs.toList,x≠j:=fun x hx e=>by
 obtain⟨i,hi,ei⟩:=List.mem_iff_getElem.mp hx
 have e1:xs[i]? =some x:=by rw[←Array.getElem?_toList,List.getElem?_eq_getElem hi,ei]
 subst e
 obtain⟨c1,c2,c3⟩:=afM hr x
 have h1:¬i<SetTable.below xs x:=fun z=>Nat.lt_irrefl _ (c2 i x z e1)
 by_cases q:i=SetTable.below xs x
 ·rw[←q,e1] at h
  simp at h
 ·have hs:SetTable.below xs x<xs.size:=by
   obtain⟨z,_⟩:=Array.getElem?_eq_some_iff.mp e1
   omega
  have e2:xs[SetTable.below xs x]? =some xs[SetTable.below xs x]:=Array.getElem?_eq_getElem hs
  have:=c3 _ _ (Nat.le_refl _) e2
  have:=hr.lt e2 e1 (by omega)
  omega
theorem aqN{α:Type}(xs:Array α)(p:Nat)(x:α):(SetTable.insertAt xs p x).toList=xs.toList.take p++x::xs.toList.drop p:=by
 unfold SetTable.insertAt
 simp[List.extract_eq_drop_take]
 exact List.take_of_length_le (by rw[List.length_drop,Array.length_toList];exact Nat.le_refl _)
theorem apU{xs:Array Nat}{j:Nat}(hr:Rise xs)(hn:∀x∈xs.toList,x≠j):Rise (SetTable.insertAt xs (SetTable.below xs j) j):=by
 obtain⟨c1,c2,c3⟩:=afM hr j
 unfold Rise
 rw[aqN,List.pairwise_append,List.pairwise_cons]
 have hlow:∀a∈xs.toList.take (SetTable.below xs j),a<j:=fun a ha=>by
  obtain⟨i,hi,e⟩:=List.mem_iff_getElem.mp ha
  rw[List.getElem_take] at e
  rw[List.length_take] at hi
  have h2:i<xs.toList.length:=by omega
  exact c2 i a (by omega) (by rw[←Array.getElem?_toList,List.getElem?_eq_getElem h2,e])
 have hhigh:∀b∈xs.toList.drop (SetTable.below xs j),j<b:=fun b hb=>by
  have hb':=List.mem_of_mem_drop hb
  obtain⟨i,hi,e⟩:=List.mem_iff_getElem.mp hb
  rw[List.getElem_drop] at e
  rw[List.length_drop] at hi
  have h2:SetTable.below xs j+i<xs.toList.length:=by omega
  have:=c3 (SetTable.below xs j+i) b (by omega) (by rw[←Array.getElem?_toList,List.getElem?_eq_getElem h2,e])
  have:=hn b hb'
  omega
 refine⟨List.Pairwise.sublist (List.take_sublist _ _) hr,⟨hhigh,List.Pairwise.sublist (List.drop_sublist _ _) hr⟩,fun a ha b hb=>?_⟩
 rcases List.mem_cons.mp hb with rfl | hb
 ·exact hlow a ha
 ·exact Nat.lt_trans (hlow a ha) (hhigh b hb)
theorem amO(n:Nat):Rise (Array.range n):=by
 unfold Rise
 rw[Array.toList_range]
 exact List.pairwise_lt_range
structure Tab(led:Bool)(t:SetTable):Prop where
 rise:Rise t.place
 dum:t.dummies= #[]
 led:t.led=led
theorem alS(j:Nat):SetTable.has #[] j=false:=by
 unfold SetTable.has
 simp
theorem af1{t:SetTable}{led:Bool}(T:Tab led t){h:Int}:∀(f:Nat) (p:SetTable.Probe) (j:Nat) (d:Option Nat),p.dummy=none->SetTable.probe.go t (fun _=>h+1) h f p=some (.empty j d)->d=none/\(t.place[SetTable.below t.place j]? ==some j)=false
 |0,_,_,_,_,e=>by unfold SetTable.probe.go at e;cases e
 |f+1,p,j,d,hp,e=>by
  unfold SetTable.probe.go at e
  split at e
  ·next hs=>
   cases e
   refine⟨hp,?_⟩
   unfold SetTable.slot at hs
   dsimp only at hs
   split at hs
   ·cases hs
   ·next q=>simpa using q
  ·next hs=>
   unfold SetTable.slot at hs
   dsimp only at hs
   split at hs
   ·cases hs
   ·rw[T.dum,alS] at hs
    cases hs
  ·rw[if_neg (by simp;omega)] at e
   refine af1 T f _ j d ?_ e
   unfold SetTable.advance
   split
   ·exact hp
   ·exact hp
theorem adU{led:Bool}{t:SetTable}(T:Tab led t)(n:Nat):Tab led (t.standIn n):=⟨amO n,rfl,T.led⟩
theorem aC7{led:Bool}{t:SetTable}(T:Tab led t)(n:Nat):Tab led (t.orStandIn n):=by
 unfold SetTable.orStandIn
 split
 ·exact T
 ·exact adU T n
theorem avD{led:Bool}{t:SetTable}(T:Tab led t)(es:Array (Int×Value))(h:Int)(x:Value):Tab led (layNew t es h x).2.1:=by
 unfold layNew
 split
 ·next slot wd hf=>
  dsimp only
  refine aC7 ?_ _
  unfold SetTable.freeSlot at hf
  split at hf
  ·next j d hp=>
   obtain⟨rfl,hn⟩:=af1 T _ _ j d rfl hp
   cases hf
   refine⟨apU T.rise (aw1 T.rise hn),?_,T.led⟩
   show (if SetTable.has t.dummies j=true then _ else t.dummies)=_
   rw[T.dum,alS]
   rfl
  ·cases hf
 ·exact adU T _
theorem aoW{led:Bool}{t:SetTable}(T:Tab led t)(es:Array (Int×Value))(n:Nat):Tab led (relayAll t es n).2.1:=by
 unfold relayAll
 split
 ·next t' order hl=>
  dsimp only
  split
  ·unfold SetTable.relaid SetTable.laid at hl
   cases ho:SetTable.layClean (SetTable.sizeAbove n-1) (es.map (·.1)) with
   |none=>rw[ho] at hl;cases hl
   |some owner=>
    rw[ho] at hl
    cases hl
    refine⟨?_,rfl,T.led⟩
    unfold Rise
    dsimp only
    have key:∀(l:List Nat),l.Pairwise (·<·)->((l.filterMap fun j=>(owner.getD j none).map (j,·)).map (·.1)).Pairwise (·<·):=fun l hl=>by
     have e:(l.filterMap fun j=>(owner.getD j none).map (j,·)).map (·.1)=l.filter fun j=>(owner.getD j none).isSome:=by
      induction l with
      |nil=>rfl
      |cons a l ih=>
       have ih:=ih (List.pairwise_cons.mp hl).2
       cases q:owner.getD a none with
       |none=>rw[List.filterMap_cons_none (by rw[q];rfl),List.filter_cons_of_neg (by rw[q];simp),ih]
       |some b=>rw[List.filterMap_cons_some (by rw[q];rfl),List.filter_cons_of_pos (by rw[q];rfl),List.map_cons,ih]
     rw[e]
     exact List.Pairwise.sublist List.filter_sublist hl
    exact key _ List.pairwise_lt_range
  ·exact adU T _
 ·exact adU T _
def zOf:Value->Int
 |.int z _=>z
 |_=>0
def abM(es:Array (Int×Value)):List Int:=es.toList.map fun e=>zOf e.2
def ak2(w:World):Bool:= !(w.params.followText "set-order")
structure SetE(prog:Program)(w:World)(es:Array (Int×Value))(t:SetTable):Prop where
 el:ElemsOf (intKind prog w) es.toList
 nd:(abM es).Nodup
 sz:es.size<scanBound
 fit:t.fits es.size=true
 tab:Tab (ak2 w) t
abbrev aaU(es:Array (Int×Value))(ep:Nat)(t:SetTable):Obj:={cls:=.type "set",dict:=none,data:=.set es ep t,slots:= #[]}
section
variable{prog:Program}{w:World}{A:Around}{E:Value->Shared->Prop}{s:Shared}{a:Addr}{es:Array (Int×Value)}{ep:Nat}{t:SetTable}{z:Int}{tk:Tok}
theorem apS{k:Int}{v:Value}(h:(intKind prog w).is k v=true):∃t,v=.int k t:=Value.isInt_shape h
theorem aq7{e:Int×Value}(h:ElemsOf (intKind prog w) es.toList)(he:e∈es.toList):∃t,e.2=.int (zOf e.2) t:=by
 obtain⟨⟨k,hk,_⟩,_⟩:=h e he
 obtain⟨t,e2⟩:=apS hk
 exact⟨t,by rw[e2];rfl⟩
theorem an5{es es':Array (Int×Value)}(p:es'.toList.Perm es.toList):(abM es').Perm (abM es):=p.map _
theorem anW(hS:s.heap.get? a=some (aaU es ep t)){es':Array (Int×Value)}{t':SetTable}:(s.heap.update a (Obj.putSet es' t')).get? a=some (aaU es' (ep+1) t'):=
 Heap.get?_update_self (Obj.putSet es' t') hS rfl
theorem arF{Q:Bool->Shared->Prop}(hS:s.heap.get? a=some (aaU es ep t))(X:SetE prog w es t)(room:es.size+1<scanBound)
  (k:∀h' es' ep' t' b,Heap.SameBut a s.heap h'->h'.get? a=some (aaU es' ep' t')->SetE prog w es' t'->(∀x,x∈abM es'↔x∈abM es∨x=z)->es'.size<=es.size+1->Q b {s with heap:=h'}):
  wpAny (model prog w) A (setAddHashed a (.int z tk) ((intKind prog w).hash z)) Q E s:=by
 have key:(intKind prog w).is z (.int z tk)=true:=intKind_is _ _ _ _
 unfold setAddHashed setAddHashedIn
 refine wpAny_holding (wpAny_bind (wpAny_setState_of hS rfl X.fit ?_))
 dsimp only
 rw[byScan_of (knd:=intKind prog w) (x:=.int z tk) rfl X.sz X.el,if_pos rfl]
 unfold setAddByScan
 refine wpAny_bind (wpAny_bind (wpAny_rule (wpAny_bind (wpAny_setScan_of key hS rfl X.fit X.el ?_))))
 cases hr:List.findIdx? (fun e=>(intKind prog w).is z e.2) es.toList with
 |some j=>
  dsimp only
  obtain⟨hj,pj,_⟩:=List.findIdx?_eq_some_iff_getElem.mp hr
  have hz:z∈abM es:=List.mem_map.mpr ⟨es.toList[j],List.getElem_mem hj,by obtain⟨t2,e2⟩:=apS pj;rw[e2];rfl⟩
  refine wpAny_pure (wpAny_pure ?_)
  exact k s.heap es ep t _ (Heap.SameBut.refl a s.heap) hS X (fun x=>⟨.inl,fun h=>h.elim id fun e=>e▸hz⟩) (Nat.le_succ _)
 |none=>
  dsimp only
  have hz:z∉abM es:=fun hm=>by
   obtain⟨e,he,ez⟩:=List.mem_map.mp hm
   obtain⟨t2,e2⟩:=aq7 X.el he
   have:=List.findIdx?_eq_none_iff.mp hr e he
   rw[e2,ez,intKind_is] at this
   cases this
  have hperm:=layNew_perm t es ((intKind prog w).hash z) (.int z tk)
  have hfits:=layNew_fits t es ((intKind prog w).hash z) (.int z tk)
  have htab:=avD X.tab es ((intKind prog w).hash z) (.int z tk)
  generalize layNew t es ((intKind prog w).hash z) (.int z tk)=L at hperm hfits htab ⊢
  obtain⟨es1,t1,wd,gave⟩:=L
  dsimp only at hperm hfits htab ⊢
  rw[Array.toList_push] at hperm
  have el1:ElemsOf (intKind prog w) es1.toList:=(X.el.push key rfl).perm hperm
  have zp:(abM es1).Perm (abM es++[z]):=by
   have:=hperm.map fun e:Int×Value=>zOf e.2
   rw[List.map_append] at this
   exact this
  have nd1:(abM es1).Nodup:=zp.nodup_iff.mpr (List.nodup_append.mpr ⟨X.nd,by simp,fun x hx y hy e=>by
   rw[List.mem_singleton] at hy
   exact hz (hy▸e▸hx)⟩)
  have mem1:∀x,x∈abM es1↔x∈abM es∨x=z:=fun x=>by rw[zp.mem_iff,List.mem_append,List.mem_singleton]
  have sz1:es1.size=es.size+1:=by rw[←Array.length_toList,hperm.length_eq,List.length_append,Array.length_toList];rfl
  have X1:∀pl:Bool,SetE prog w es1 {t1 with plain:=pl}:=fun pl=>⟨el1,nd1,by rw[sz1];exact room,hfits,⟨htab.rise,htab.dum,htab.led⟩⟩
  have tail:∀(t2:SetTable),SetE prog w es1 t2->∀(g:Bool->Sem Unit),(∀(b:Bool) (s₁:Shared) (Q':Unit->Shared->Prop),Q' () s₁->wpAny (model prog w) A (g b) Q' E s₁)->∀R:Option Bool->Shared->Prop,
    (∀h' es' ep' t' ,Heap.SameBut a s.heap h'->h'.get? a=some (aaU es' ep' t')->SetE prog w es' t'->(∀x,x∈abM es'↔x∈abM es∨x=z)->es'.size<=es.size+1->R (some true) {s with heap:=h'})->
    wpAny (model prog w) A (do
     storeSet a es1 t2
     if (!wd&&t2.tooFull)=true then do
       g (relayAll t2 es1 (SetTable.grown es1.size)).2.2
       storeSet a (relayAll t2 es1 (SetTable.grown es1.size)).1 (relayAll t2 es1 (SetTable.grown es1.size)).2.1
       pure (some true)
      else pure (some true)) R E s:=fun t2 X2 g hg R hR=>by
   refine wpAny_bind (wpAny_storeSet_of hS rfl ?_ (fits_of_scanBound X2.sz))
   have e1:=anW hS (es':=es1) (t':=t2)
   have b1:=Heap.SameBut.update s.heap a (Obj.putSet es1 t2)
   split
   ·have hp:=relayAll_perm t2 es1 (SetTable.grown es1.size)
    have hf:=relayAll_fits t2 es1 (SetTable.grown es1.size)
    have ht:=aoW X2.tab es1 (SetTable.grown es1.size)
    generalize relayAll t2 es1 (SetTable.grown es1.size)=R2 at hp hf ht ⊢
    obtain⟨es2,t3,gave2⟩:=R2
    dsimp only at hp hf ht ⊢
    have sz2:es2.size=es1.size:=by rw[←Array.length_toList,hp.length_eq,Array.length_toList]
    have X3:SetE prog w es2 t3:=⟨X2.el.perm hp,(an5 hp).nodup_iff.mpr X2.nd,by rw[sz2];exact X2.sz,hf,ht⟩
    refine wpAny_bind (hg _ _ _ (wpAny_bind (wpAny_storeSet_of e1 rfl ?_ (fits_of_scanBound X3.sz))))
    exact wpAny_pure (hR _ es2 _ t3 (b1.trans (Heap.SameBut.update _ a _)) (anW (s:={s with heap:=s.heap.update a (Obj.putSet es1 t2)}) e1) X3 (fun x=>by rw[(an5 hp).mem_iff];exact mem1 x) (by rw[sz2,sz1];exact Nat.le_refl _))
   ·exact wpAny_pure (hR _ es1 _ t2 b1 e1 X2 mem1 (Nat.le_of_eq sz1))
  have fin:∀h' es' ep' t' ,Heap.SameBut a s.heap h'->h'.get? a=some (aaU es' ep' t')->SetE prog w es' t'->(∀x,x∈abM es'↔x∈abM es∨x=z)->es'.size<=es.size+1->Q true {s with heap:=h'}:=fun h' es' ep' t'=>k h' es' ep' t' true
  have gw:∀(b:Bool) (s₁:Shared) (Q':Unit->Shared->Prop),Q' () s₁->wpAny (model prog w) A (match b with | true=>rule "set.scan.the-table-gave-way" | false=>pure ()) Q' E s₁:=fun b s₁ Q' hq=>by
   cases b
   ·exact wpAny_pure hq
   ·exact wpAny_rule hq
  refine wpAny_bind (gw gave _ _ ?_)
  have X1':SetE prog w es1 t1:=X1 t1.plain
  split
  ·refine wpAny_bind ?_
   rw[hashByValue_scannable 8 (show (Value.int z tk).scannable=true from rfl)]
   refine wpAny_pure ?_
   exact tail t1 X1' _ gw _ fun h' es' ep' t' b e x m l=>wpAny_pure (fin h' es' ep' t' b e x m l)
  ·refine wpAny_bind (wpAny_pure ?_)
   exact tail t1 X1' _ gw _ fun h' es' ep' t' b e x m l=>wpAny_pure (fin h' es' ep' t' b e x m l)
end
section
variable{prog:Program}{w:World}{A:Around}{R:Result->Shared->Prop}{I:Addr}{fp wr:List Addr}{G:Array GenState->Array GenState->Prop}{n:Nat}{P:Nat->Value->Prop}{St:Nat->Shared->Prop}
theorem alR{args:Args}{s:Shared}(h:wpAny (model prog w) A.in1 (Builtin.«set.update.loop» args) (fun x s'=>match x with | .done q=>R (.ok q) s' | .again c=>c.quiet=true/\codeAny (model prog w) A c R s') (fun x s'=>R (.error x) s') s):codeAny (model prog w) A (.builtin "set.update.loop" args) R s:=
 codeAny_builtin F.entry_set_update_loop (by rw[Around.under_plainId F.plain_set_update_loop args];exact h)
theorem apE(W:WalksS prog w A.in1 I fp wr G n P St){S:Addr}(out:S∉fp){val:Nat->Int}(hval:∀i v,P i v->∃t,v=.int (val i) t)(hb:n+1<scanBound):
  ∀(k i:Nat) (s:Shared) (es:Array (Int×Value)) (ep:Nat) (t:SetTable),n-i=k->i<=n->St i s->s.heap.get? S=some (aaU es ep t)->SetE prog w es t->(∀x,x∈abM es↔∃j,j<i/\val j=x)->es.size<=i->
   (∀s' es' ep' t',Moved (S::wr) G s s'->s'.heap.get? S=some (aaU es' ep' t')->SetE prog w es' t'->(∀x,x∈abM es'↔∃j,j<n/\val j=x)->R (.ok (.ret .none)) s')->
   codeAny (model prog w) A (.builtin "set.update.loop" {pos:=[.ref S,.ref I]}) R s:=by
 have nw:S∉wr:=fun z=>out (W.sub _ z)
 have sub:∀b∈wr,b∈S::wr:=fun b hb=>List.mem_cons_of_mem _ hb
 intro k
 induction k with
 |zero=>
  intro i s es ep t hk hi st hS X hm hz hR
  obtain rfl:i=n:=by omega
  refine alR ?_
  unfold Builtin.«set.update.loop»
  refine wpAny_bind (W.done s _ _ st fun s' mv=>?_)
  exact wpAny_pure (hR s' es ep t (mv.mono sub) (mv.heap S _ nw hS) X hm)
 |succ k ih=>
  intro i s es ep t hk hi st hS X hm hz hR
  have lt:i<n:=by omega
  refine alR ?_
  unfold Builtin.«set.update.loop»
  refine wpAny_bind (W.item i s _ _ lt st fun v s1 hP st1 mv=>?_)
  obtain⟨tk,rfl⟩:=hval i v hP
  have S1:=mv.heap S _ nw hS
  unfold setAdd
  refine wpAny_bind (wpAny_holding (wpAny_holding (wpAny_bind ((intKind prog w).pyHash (k:=val i) (intKind_is _ _ _ _) (arF (s:={s1 with toks:=s1.toks+1}) S1 X (by omega) fun h' es' ep' t' b sb S2 X2 m2 z2=>?_)))))
  refine wpAny_pure ⟨plainId_quiet F.plain_set_update_loop _,ih (i+1) _ es' ep' t' (by omega) lt (W.frame _ s1 _ _ st1 (Nat.le_succ _) fun c hc o e=>?_) S2 X2 (fun x=>?_) (by omega) fun s2 es2 ep2 t2 mv2 S3 X3 m3=>?_⟩
  ·rw[sb.2 c fun z=>out (z▸hc)]
   exact e
  ·rw[m2,hm]
   constructor
   ·rintro (⟨j,hj,e⟩ | rfl)
    ·exact⟨j,by omega,e⟩
    ·exact⟨i,by omega,rfl⟩
   ·rintro⟨j,hj,e⟩
    by_cases c:j=i
    ·subst c;exact .inr e.symm
    ·exact .inl ⟨j,by omega,e⟩
  ·refine hR s2 es2 ep2 t2 (Moved.trans W.gtrans ((mv.mono sub).then_heap (Nat.le_succ _) fun c o hc e=>?_) mv2) S3 X3 m3
   rw[sb.2 c fun z=>hc (z▸List.mem_cons_self)]
   exact e
end
section
variable{prog:Program}{w:World}{A:Around}{E:Value->Shared->Prop}{s:Shared}
abbrev aj8(w:World):Obj:=aaU #[] 0 (.fresh 0 0 (ak2 w))
theorem aIE:SetE prog w #[] (.fresh 0 0 (ak2 w)):=⟨fun _ h=>by simp at h,by simp[abM],by decide,rfl,⟨by unfold Rise;simp[SetTable.fresh],rfl,rfl⟩⟩
theorem aqK(a:Value){Q₁:Value->Shared->Prop}(h:Q₁ (.ref s.heap.objs.size) {s with heap:=s.heap.push (aj8 w)}):codeAny (model prog w) A (.call (.builtin "set.__new__") ⟨[.type "set",a],[]⟩) (wants Q₁ E) s:=by
 have own:=sub_set_self
 refine codeAny_of_tree (wpAny_bind (m:=checkBuiltinCall "set.__new__" {pos:=[.type "set",a]}) (wpAny_of_eq (F.newCall_set_1 a) (wpAny_pure ⟨plainId_quiet F.plain_set_new _,codeAny_builtin F.entry_set_new ?_⟩)))
 rw[Around.under_plainId F.plain_set_new {pos:=[.type "set",a]}]
 simp only[Builtin.«set.__new__»,Builtin.Frozenset.newClass]
 obtain⟨h0,g0,d0,t0,o0⟩:=s
 wp_walk
 refine wpAny_askSetting (wpAny_pure ?_)
 dsimp only
 simp only[newObj]
 exact wpAny_bind (wpAny_alloc (wpAny_pure (wpAny_pure h)))
set_option maxHeartbeats 3200000 in
theorem apH{l:Addr}{items:Array Value}{ns:List Int}{Q:Value->Shared->Prop}(hh:A.handled=none)(hl:s.heap.IsList l items)(hi:IntsAre items.toList ns)(hb:items.size+1<scanBound)
  (k:∀(h':Heap) (tk:Nat) (es:Array (Int×Value)) (ep:Nat) (t:SetTable),h'.get? s.heap.objs.size=some (aaU es ep t)->SetE prog w es t->(∀x,x∈abM es↔x∈ns)->(∀b o,s.heap.get? b=some o->h'.get? b=some o)->Q (.ref s.heap.objs.size) {s with heap:=h',toks:=tk}):
  wpAny (model prog w) A (call (.type "set") [.ref l]) Q E s:=by
 obtain⟨⟨c0,tl0,m0⟩,m1,m2,m3,m4,m5⟩:=And.intro F.called_set.mro (And.intro F.called_set.made (And.intro F.called_set.sub (And.intro F.called_set.notType (And.intro F.called_set.canCreate (F.typeCall_set_1 (.ref l))))))
 refine wpAny_call (codeAny_of_tree (show wpAny _ _ (callAny (.type "set") _) _ _ _ from wpAny_pure ⟨Code.quiet_builtin _ (by decide +kernel),codeAny_builtin F.entry_type_call ?_⟩))
 rw[Around.under_plain (weight_type_call_type "set" [.ref l] []) (by rfl)]
 repeat any_goals (first | assumption | wp_step)
 refine codeAny_mono (aqK (.ref l) (E:=E) (Q₁:=fun obj s₁=>obj=.ref s.heap.objs.size/\s₁={s with heap:=s.heap.push (aj8 w)}) ⟨rfl,rfl⟩) fun r s₁ hr=>?_
 cases r with
 |error e=>exact hr
 |ok fl=>
  cases fl with
  |ret obj=>
   obtain⟨rfl,rfl⟩:=hr
   have hS:(s.heap.push (aj8 w)).get? s.heap.objs.size=some (aj8 w):=Heap.get?_push_size _ rfl
   have hT:Shared.TypeIs {s with heap:=s.heap.push (aj8 w)} (.ref s.heap.objs.size) "set":=⟨_,hS,rfl⟩
   obtain⟨i1,i2⟩:=And.intro F.called_set.init.lookup (F.called_set.init.bind (.ref s.heap.objs.size))
   repeat any_goals (first | assumption | wp_step)
   refine codeAny_mono (codeAny_call_builtin (R:=wants (fun r s₂=>r=.none/\∃h' tk es ep t,s₂={s with heap:=h',toks:=tk}/\h'.get? s.heap.objs.size=some (aaU es ep t)/\SetE prog w es t/\(∀x,x∈abM es↔x∈ns)/\(∀b o,s.heap.get? b=some o->h'.get? b=some o)) E) F.called_set.init.plain F.entry_set_init (check_set_init_1 hT ?_)) fun r₂ s₂ hr₂=>?_
   ·obtain⟨⟨oc,od,odt,osl⟩,hol,hcl,nl,hdl⟩:=hl
    cases hcl
    cases hdl
    have hol':=Heap.get?_push_of_some (aj8 w) hol
    have s1:=F.sub_list_set
    have s2:=F.sub_list_frozenset
    have ne:(Value.type "list"==Value.type "dict")=false:=by decide
    have hl1:(s.heap.push (aj8 w)).IsList l items:=⟨_,hol',rfl,nl,rfl⟩
    simp only[Builtin.«set.__init__»,noKeywords,Builtin.Frozenset.updateFrom]
    generalize hPI:pyIter=PI
    wp_walk
    subst hPI
    refine wpAny_pyIter_list hl1 (wpAny_bind (wpAny_runValue ?_))
    have ll:l<s.heap.objs.size:=Heap.lt_size hol
    have h3:A.in1.in1.in1.handled=none:=by simp[hh]
    have nI:l≠(s.heap.push (aj8 w)).objs.size:=by rw[Heap.size_push];exact Nat.ne_of_lt (Nat.lt_succ_of_lt ll)
    have out:s.heap.objs.size∉[(s.heap.push (aj8 w)).objs.size,l]:=by
     rw[Heap.size_push]
     simp only[List.mem_cons,List.not_mem_nil,or_false,not_or]
     exact⟨Nat.ne_of_lt (Nat.lt_succ_self _),Nat.ne_of_gt ll⟩
    have val:∀(i:Nat) (v:Value),items[i]? =some v->∃t,v=.int ((fun i=>ns.getD i 0) i) t:=fun i v hv=>IntsAre.int_at hi i v (by rw[Array.getElem?_toList];exact hv)
    have ln:items.size=ns.length:=by rw[←Array.length_toList];exact IntsAre.length hi
    refine apE ((Walks.list h3 _ l nI items).toS) out val hb (items.size-0) 0 _ #[] 0 (.fresh 0 0 (ak2 w)) (by omega) (Nat.zero_le _) ⟨⟨_,Heap.get?_push_size _ rfl,rfl,rfl⟩,hl1.push _⟩ (Heap.get?_push_of_some _ hS) aIE (fun x=>⟨fun z=>by simp[abM] at z,fun ⟨j,hj,_⟩=>absurd hj (Nat.not_lt_zero _)⟩) (Nat.le_refl _) fun s' es ep t mv S' X' m'=>?_
    obtain⟨h',g',d',tk',os'⟩:=s'
    have eg:g'=s.gens:=mv.gens
    have ed:d'=s.drawn:=mv.drawn
    have eo:os'=s.os:=mv.os
    subst eg;subst ed;subst eo
    refine wpAny_pure (wpAny_pure ⟨rfl,h',tk',es,ep,t,rfl,S',X',fun x=>?_,fun b o e=>?_⟩)
    ·rw[m' x,ln]
     constructor
     ·rintro⟨j,hj,rfl⟩
      have:ns.getD j 0=ns[j]:=by rw[List.getD_eq_getElem?_getD,List.getElem?_eq_getElem hj];rfl
      rw[this]
      exact List.getElem_mem hj
     ·intro hx
      obtain⟨j,hj,e⟩:=List.mem_iff_getElem.mp hx
      exact⟨j,hj,by rw[List.getD_eq_getElem?_getD,List.getElem?_eq_getElem hj];exact e⟩
    ·have lb:=Heap.lt_size e
     refine mv.heap b o ?_ (Heap.get?_push_of_some _ (Heap.get?_push_of_some _ e))
     rw[Heap.size_push]
     simp only[List.mem_cons,List.not_mem_nil,or_false,not_or]
     exact⟨Nat.ne_of_lt lb,Nat.ne_of_lt (Nat.lt_succ_of_lt lb)⟩
   ·cases r₂ with
    |error e=>exact hr₂
    |ok fl₂=>
     cases fl₂ with
     |ret r=>
      obtain⟨rfl,h',tk,es,ep,t,rfl,S',X',m',k'⟩:=hr₂
      repeat any_goals (first | assumption | wp_step)
      exact k h' tk es ep t S' X' m' k'
     |_=>exact hr₂.elim
  |_=>exact hr.elim
end
theorem aeN{α:Type}:∀(l:List α) (i:Nat) (h:i<l.length),(l[i]::l.eraseIdx i).Perm l
 |[],i,h=>by cases h
 |x::r,0,h=>List.Perm.refl _
 |x::r,i+1,h=>(List.Perm.swap x (r[i]'(by simpa using h)) _).trans (List.Perm.cons x (aeN r i (by simpa using h)))
theorem aoI{α:Type}(next:Nat->Nat):∀(f k:Nat) (left:List α) (out:Array α),left.length=f->(pickOrder.go next f k left out).toList.Perm (out.toList++left)
 |0,k,left,out,h=>by
  rw[List.length_eq_zero_iff.mp h,List.append_nil]
  exact List.Perm.refl _
 |f+1,k,left,out,h=>by
  have hl:next k%left.length<left.length:=Nat.mod_lt _ (by omega)
  unfold pickOrder.go
  rw[List.getElem?_eq_getElem hl]
  dsimp only
  refine (aoI next f (k+1) (left.eraseIdx (next k%left.length)) (out.push left[next k%left.length]) (by rw[List.length_eraseIdx_of_lt hl,h];rfl)).trans ?_
  rw[Array.toList_push,List.append_assoc]
  exact List.Perm.append_left _ (aeN _ _ hl)
theorem ao2{α:Type}(next:Nat->Nat)(xs:Array α):(pickOrder next xs).toList.Perm xs.toList:=by
 have:=aoI next xs.size 0 xs.toList #[] (Array.length_toList)
 rw[show (#[]:Array α).toList=[] from rfl,List.nil_append] at this
 exact this
section
variable{M:Model}{A:Around}{E:Value->Shared->Prop}{s:Shared}
theorem akS{src:Source}{n:Nat}{Q:Nat->Shared->Prop}(hn:n≠0)(h:∀i d,i<n->Q i {s with drawn:=d}):wpAny M A (choose src n) Q E s:=fun Γ p hΓ=>⟨hn,h _ _ (Nat.mod_lt _ (Nat.pos_of_ne_zero hn))⟩
theorem ajC{α:Type}:∀(n:Nat) (xs:List α) (s:Shared) (Q:List α->Shared->Prop),xs.length=n->(∀ys d,ys.Perm xs->Q ys {s with drawn:=d})->wpAny M A (drawOrder n xs) Q E s
 |0,xs,s,Q,hn,h=>by
  rw[List.length_eq_zero_iff.mp hn] at h ⊢
  exact wpAny_pure (h [] s.drawn (List.Perm.refl _))
 |n+1,[],s,Q,hn,h=>by cases hn
 |n+1,x::r,s,Q,hn,h=>by
  unfold drawOrder
  refine wpAny_bind (akS (by simp) fun i d hi=>?_)
  rw[List.getElem?_eq_getElem hi]
  refine wpAny_bind (ajC n _ _ _ (by rw[List.length_eraseIdx_of_lt hi,hn];rfl) fun ys d2 hp=>wpAny_pure (h _ d2 ?_))
  exact (List.Perm.cons _ hp).trans (aeN _ _ hi)
end
theorem ah3:entryFor table "set.__iter__"=some Builtin.«frozenset.__iter__»:=entryFor_alias (id':="frozenset.__iter__") (by decide +kernel) (by decide +kernel) (by decide +kernel) (by kernel_rfl)
theorem slot_set_itn:Slot "set_iterator" "__next__" "set_iterator.__next__":=
 .of (owner:="set_iterator") (n:="__next__") (by rw[typeLookup_type,builtinLookup_eq_fast];kernel_rfl) (by decide +kernel) (by decide +kernel) (by decide +kernel)
  (by first | exact .inl (by decide +kernel) | exact .inr (by decide +kernel)) (by rw[isSubtype_type];kernel_rfl)
theorem aeG:entryFor table "set_iterator.__next__"=some Builtin.«set_iterator.__next__»:=entryFor_of_tree (by kernel_rfl)
theorem aeW(a:Value):argsOk "set_iterator.__next__" ⟨[a],[]⟩:=by unfold argsOk;kernel_rfl
abbrev sit(first:Value)(i:Nat)(a:Addr)(n ep:Nat):Obj:={cls:=.type "set_iterator",dict:=none,data:=.fields #[first,rawInt i,.ref a,rawInt n,rawInt ep],slots:= #[]}
section
variable{prog:Program}{w:World}{A:Around}{E:Value->Shared->Prop}{s:Shared}{a I:Addr}{es:Array (Int×Value)}{ep:Nat}{t:SetTable}
def ac1(w:World)(a:Addr)(es:Array (Int×Value))(ep:Nat):List Value:=if w.params.followText "set-order" then (pickOrder (w.params.setOrder a ep) es).toList.map (·.2) else es.toList.map (·.2)
def aa3(w:World)(t:SetTable)(i:Nat):Nat:=if w.params.followText "set-order" then 0 else match i with
 |0=>0
 |i+1=>t.place.getD i 0+1
theorem arK:aa3 w t 0=0:=by unfold aa3;split<;>rfl
theorem arG{i:Nat}(bt:w.params.followText "set-order"=false):aa3 w t (i+1)=t.place.getD i 0+1:=by unfold aa3;rw[bt,if_neg (by simp)]
theorem ord_perm:(ac1 w a es ep).Perm (es.toList.map (·.2)):=by
 unfold ac1
 split
 ·exact (ao2 _ _).map _
 ·exact List.Perm.refl _
theorem akB:(ac1 w a es ep).length=es.size:=by rw[ord_perm.length_eq,List.length_map,Array.length_toList]
theorem aeL{Q:Bool->Shared->Prop}(h:Q (w.params.followText "set-order") s):wpAny (model prog w) A setsByText Q E s:=by
 unfold setsByText
 exact wpAny_bind (wpAny_askSetting (wpAny_pure h))
theorem ap6{Q:Option (Value×Nat)->Shared->Prop}{i:Nat}(hS:s.heap.get? a=some (aaU es ep t))(X:SetE prog w es t)(nd:w.params.followText "set-order"=true∨(!t.plain&&decide (es.size>1))=false)(hi:i<=es.size)
  (h:Q ((ac1 w a es ep)[i]?.map fun v=>(v,aa3 w t (i+1))) s):wpAny (model prog w) A (setNext a (aa3 w t i) i ep) Q E s:=by
 unfold setNext
 refine wpAny_bind (wpAny_setState_of hS rfl X.fit ?_)
 dsimp only
 refine wpAny_bind (aeL ?_)
 cases bt:w.params.followText "set-order" with
 |true=>
  rw[if_pos rfl,if_neg (by simp)]
  refine wpAny_bind ?_
  unfold setWalk
  refine wpAny_bind (wpAny_setState_of hS rfl X.fit ?_)
  dsimp only
  refine wpAny_bind (aeL ?_)
  rw[bt,if_pos rfl]
  refine wpAny_bind (wpAny_askSetting (wpAny_pure (wpAny_pure ?_)))
  have e:ac1 w a es ep=(pickOrder (w.params.setOrder a ep) es).toList.map (·.2):=by unfold ac1;rw[bt,if_pos rfl]
  rw[e,List.getElem?_map,Array.getElem?_toList,Option.map_map] at h
  have e2:aa3 w t (i+1)=aa3 w t i:=by unfold aa3;rw[bt,if_pos rfl,if_pos rfl]
  rw[e2] at h
  exact h
 |false=>
  have nd':(!t.plain&&decide (es.size>1))=false:=nd.resolve_left (by rw[bt];simp)
  have led:t.led=true:=by rw[X.tab.led];unfold ak2;rw[bt];rfl
  have fit:t.place.size=es.size:=by
   have:=X.fit
   simp only[SetTable.fits,Bool.and_eq_true,beq_iff_eq] at this
   exact this.1
  rw[if_neg (by simp)]
  change wpAny _ _ (if (!t.plain&&decide (es.size>1))=true then _ else _) _ _ _
  rw[if_neg (by rw[nd'];simp)]
  refine wpAny_bind ?_
  change wpAny _ _ (if (!t.led&& !es.isEmpty)=true then _ else _) _ _ _
  rw[if_neg (by rw[led];simp)]
  refine wpAny_pure (wpAny_pure ?_)
  have e:ac1 w a es ep=es.toList.map (·.2):=by unfold ac1;rw[bt,if_neg (by simp)]
  have cut:SetTable.below t.place (aa3 w t i)=i:=by
   obtain⟨c1,c2,c3⟩:=afM X.tab.rise (aa3 w t i)
   have at':∀k,k<t.place.size->t.place[k]? =some (t.place.getD k 0):=fun k hk=>by rw[Array.getD_eq_getD_getElem?,Array.getElem?_eq_getElem hk];rfl
   cases i with
   |zero=>
    rcases Nat.eq_zero_or_pos (SetTable.below t.place (aa3 w t 0)) with z | z
    ·exact z
    ·have:=c2 0 _ z (at' 0 (by omega))
     rw[arK] at this
     exact absurd this (Nat.not_lt_zero _)
   |succ i=>
    have e0:aa3 w t (i+1)=t.place.getD i 0+1:=arG bt
    have hi':i<t.place.size:=by omega
    have l1:¬SetTable.below t.place (aa3 w t (i+1))<=i:=fun z=>by
     have:=c3 i _ z (at' i hi')
     omega
    have l2:¬i+1<SetTable.below t.place (aa3 w t (i+1)):=fun z=>by
     have h1:i+1<t.place.size:=by omega
     have:=c2 (i+1) _ z (at' (i+1) h1)
     have:=X.tab.rise.lt (at' i hi') (at' (i+1) h1) (Nat.lt_succ_self i)
     omega
    omega
  rw[cut]
  rw[e,List.getElem?_map,Array.getElem?_toList,Option.map_map] at h
  by_cases c:i<es.size
  ·rw[Array.getElem?_eq_getElem c,Array.getElem?_eq_getElem (show i<t.place.size by omega)]
   rw[Array.getElem?_eq_getElem c] at h
   have e2:aa3 w t (i+1)=t.place[i]'(by omega)+1:=by
    rw[arG bt,Array.getD_eq_getD_getElem?,Array.getElem?_eq_getElem (show i<t.place.size by omega)]
    rfl
   rw[e2] at h
   exact h
  ·rw[Array.getElem?_eq_none (by omega),Array.getElem?_eq_none (by omega)]
   rw[Array.getElem?_eq_none (by omega)] at h
   exact h
abbrev aF0:Obj:={cls:=.type "tuple",data:=.seq #[]}
abbrev aJR(a:Addr):Obj:={cls:=.type "StopIteration",data:=.fields (#[Value.ref a,.none,.none,.none,.bool false,.none]++ownMembersOf (.type "StopIteration") [])}
theorem ai9{β:Type}{Q:β->Shared->Prop}(hh:A.handled=none)(h:E (.ref (s.heap.push aF0).objs.size) {s with heap:=(s.heap.push aF0).push (aJR s.heap.objs.size)}):
  wpAny (model prog w) A (do raiseNew (←newExc (.type "StopIteration") []):Sem β) Q E s:=by
 refine wpAny_bind ?_
 simp only[newExc,newTuple]
 refine wpAny_bind (wpAny_newObj_type (wpAny_bind (m:=firstArgMember _ _) (wpAny_of_eq (a:=Value.none) (by simp only[firstArgMember];rfl) (wpAny_newObj_type ?_ (by size_fits)))) (by size_fits))
 unfold raiseNew
 refine wpAny_bind (wpAny_handled ?_)
 rw[hh]
 exact wpAny_bind (wpAny_pure (wpAny_throw h))
theorem ab3{f:Value}{i n ep:Nat}(h:s.heap.get? I=some (sit f i a n ep)):s.TypeIs (.ref I) "set_iterator":=⟨_,h,rfl⟩
theorem alA{i:Nat}{Q:Option Value->Shared->Prop}(hh:A.handled=none)(ne:a≠I)(hI:s.heap.get? I=some (sit (rawInt (aa3 w t i)) i a es.size ep))(hS:s.heap.get? a=some (aaU es ep t))(X:SetE prog w es t)
  (nd:w.params.followText "set-order"=true∨(!t.plain&&decide (es.size>1))=false) (hi:i<=es.size)
  (k:∀v h',(ac1 w a es ep)[i]? =some v->h'.get? I=some (sit (rawInt (aa3 w t (i+1))) (i+1) a es.size ep)->(∀b o,b≠I->s.heap.get? b=some o->h'.get? b=some o)->Q (some v) {s with heap:=h'})
  (k0:(ac1 w a es ep)[i]? =none->∀h',(∀b o,b≠I->s.heap.get? b=some o->h'.get? b=some o)->Q none {s with heap:=h'}):wpAny (model prog w) A (pyNext (.ref I)) Q E s:=by
 unfold pyNext
 refine wpAny_bind (wpAny_attempt (wpAny_callSpecial?_slot (name:=Str.ofString "__next__") (ab3 hI) slot_set_itn (wpAny_call_entry slot_set_itn (ab3 hI) aeG ?_ (aeW _))))
 unfold Builtin.«set_iterator.__next__»
 refine wpAny_bind (m:=slotArgs _ _ _) (wpAny_pure ?_)
 refine wpAny_bind (wpAny_fieldsOf hI rfl ?_)
 simp only[rawInt]
 unfold setEntries
 refine wpAny_bind (wpAny_bind (wpAny_setState_of hS rfl X.fit (wpAny_pure ?_)))
 rw[if_neg (by simp)]
 simp only[Int.toNat_natCast]
 refine wpAny_bind (ap6 hS X nd hi ?_)
 cases ho:(ac1 w a es ep)[i]? with
 |some v=>
  dsimp only[Option.map]
  refine wpAny_bind (wpAny_setField hI rfl (show 0<5 by decide) ?_)
  have h1:=Heap.get?_update_self (Obj.mapFields (·.setIfInBounds 0 (Value.int (aa3 w t (i+1)) 0))) hI rfl
  refine wpAny_bind (wpAny_setField h1 rfl (show 1<5 by decide) ?_)
  have h2:=Heap.get?_update_self (Obj.mapFields (·.setIfInBounds 1 (Value.int ((i:Int)+1) 0))) h1 rfl
  refine wpAny_pure ⟨v,rfl,wpAny_pure (k v _ ho ?_ fun b o nb e=>?_)⟩
  ·rw[h2]
   show some _=some _
   congr 1
  ·rw[Heap.get?_update_other _ _ (Ne.symm nb),Heap.get?_update_other _ _ (Ne.symm nb)]
   exact e
 |none=>
  dsimp only[Option.map]
  refine wpAny_bind (wpAny_setField hI rfl (show 2<5 by decide) (ai9 hh ?_))
  refine wpAny_bind (wpAny_isInstance (T:="StopIteration") (b:=true) ⟨_,Heap.get?_push_size _ rfl,rfl⟩ isSubtype_stop (wpAny_pure (k0 ho _ fun b o nb e=>?_)))
  refine Heap.get?_push_of_some _ (Heap.get?_push_of_some _ ?_)
  rw[Heap.get?_update_other _ _ (Ne.symm nb)]
  exact e
theorem ajM{i:Nat}{T:Addr}{ys:List Nat}{Q:Option Value->Shared->Prop}(hh:A.handled=none)(hI:s.heap.get? I=some (sit (.ref T) i a es.size ep))(hT:s.heap.get? T=some {cls:=.type "tuple",data:=.seq (ys.map fun (y:Nat)=>rawInt y).toArray})(hS:s.heap.get? a=some (aaU es ep t))(X:SetE prog w es t)
  (hy:∀y∈ys,y<es.size)
  (k:∀y v h',ys[i]? =some y->(es.toList.map (·.2))[y]? =some v->h'.get? I=some (sit (.ref T) (i+1) a es.size ep)->(∀b o,b≠I->s.heap.get? b=some o->h'.get? b=some o)->Q (some v) {s with heap:=h'})
  (k0:ys[i]? =none->∀h',(∀b o,b≠I->s.heap.get? b=some o->h'.get? b=some o)->Q none {s with heap:=h'}):wpAny (model prog w) A (pyNext (.ref I)) Q E s:=by
 unfold pyNext
 refine wpAny_bind (wpAny_attempt (wpAny_callSpecial?_slot (name:=Str.ofString "__next__") (ab3 hI) slot_set_itn (wpAny_call_entry slot_set_itn (ab3 hI) aeG ?_ (aeW _))))
 unfold Builtin.«set_iterator.__next__»
 refine wpAny_bind (m:=slotArgs _ _ _) (wpAny_pure (wpAny_bind (wpAny_fieldsOf hI rfl ?_)))
 simp only[rawInt]
 unfold setEntries
 refine wpAny_bind (wpAny_bind (wpAny_setState_of hS rfl X.fit (wpAny_pure ?_)))
 rw[if_neg (by simp)]
 refine wpAny_bind (wpAny_seqItems hT rfl ?_)
 have eg:((ys.map fun (y:Nat)=>rawInt y).toArray)[(i:Int).toNat]? =(ys[i]?).map fun (y:Nat)=>rawInt y:=by
  rw[Int.toNat_natCast,List.getElem?_toArray,List.getElem?_map]
 dsimp only
 rw[eg]
 cases ho:ys[i]? with
 |some y=>
  have hlt:=hy y (List.mem_of_getElem? ho)
  have ev:(es.toList.map (·.2))[y]? =some es[y].2:=by rw[List.getElem?_map,Array.getElem?_toList,Array.getElem?_eq_getElem hlt];rfl
  dsimp only[Option.map,rawInt]
  unfold setNextDrawn
  refine wpAny_bind (wpAny_bind (wpAny_setState_of hS rfl X.fit ?_))
  dsimp only
  rw[if_neg (by simp)]
  simp only[Int.toNat_natCast]
  rw[Array.getElem?_eq_getElem hlt]
  refine wpAny_pure (wpAny_bind (wpAny_setField hI rfl (show 1<5 by decide) ?_))
  have h2:=Heap.get?_update_self (Obj.mapFields (·.setIfInBounds 1 (Value.int ((i:Int)+1) 0))) hI rfl
  refine wpAny_pure ⟨es[y].2,rfl,wpAny_pure (k y _ _ ho ev ?_ fun b o nb e=>?_)⟩
  ·rw[h2]
   show some _=some _
   congr 1
  ·rw[Heap.get?_update_other _ _ (Ne.symm nb)]
   exact e
 |none=>
  dsimp only[Option.map]
  refine wpAny_bind (wpAny_setField hI rfl (show 0<5 by decide) ?_)
  have h1:=Heap.get?_update_self (Obj.mapFields (·.setIfInBounds 0 (Value.int 0 0))) hI rfl
  refine wpAny_bind (wpAny_setField h1 rfl (show 2<5 by decide) (ai9 hh ?_))
  refine wpAny_bind (wpAny_isInstance (T:="StopIteration") (b:=true) ⟨_,Heap.get?_push_size _ rfl,rfl⟩ isSubtype_stop (wpAny_pure (k0 ho _ fun b o nb e=>?_)))
  refine Heap.get?_push_of_some _ (Heap.get?_push_of_some _ ?_)
  rw[Heap.get?_update_other _ _ (Ne.symm nb),Heap.get?_update_other _ _ (Ne.symm nb)]
  exact e
theorem aeU:Slot "set_iterator" "__iter__" "set_iterator.__iter__":=
 .of (owner:="set_iterator") (n:="__iter__") (by rw[typeLookup_type,builtinLookup_eq_fast];kernel_rfl) (by decide +kernel) (by decide +kernel) (by decide +kernel)
  (by first | exact .inl (by decide +kernel) | exact .inr (by decide +kernel)) (by rw[isSubtype_type];kernel_rfl)
theorem aiG:entryFor table "set_iterator.__iter__"=some Builtin.«dict_keyiterator.__iter__»:=entryFor_alias (id':="dict_keyiterator.__iter__") (by decide +kernel) (by decide +kernel) (by decide +kernel) (by kernel_rfl)
theorem akE(a:Value):argsOk "set_iterator.__iter__" ⟨[a],[]⟩:=by unfold argsOk;kernel_rfl
theorem ak4{f:Value}{i n:Nat}{Q:Value->Shared->Prop}(hI:s.heap.get? I=some (sit f i a n ep))(h:Q (.ref I) s):wpAny (model prog w) A (pyIter (.ref I)) Q E s:=by
 refine wpAny_pyIter_slot (ab3 hI) aeU (wpAny_call_entry aeU (ab3 hI) aiG ?_ (akE _))
 unfold Builtin.«dict_keyiterator.__iter__»
 exact wpAny_bind (m:=slotArgs _ _ _) (wpAny_pure (wpAny_pure ⟨_,rfl,"set_iterator",_,ab3 hI,slot_set_itn.lookup,h⟩))
theorem aoY(hh:A.handled=none)(ne:a≠I)(X:SetE prog w es t)(nd:w.params.followText "set-order"=true∨(!t.plain&&decide (es.size>1))=false):
  Walks prog w A I [I,a] [I] es.size (fun i v=>(ac1 w a es ep)[i]? =some v) (fun i h=>i<=es.size/\h.get? I=some (sit (rawInt (aa3 w t i)) i a es.size ep)/\h.get? a=some (aaU es ep t)) where
 sub:=fun b hb=>by simp at hb;simp[hb]
 frame:=fun i h h' st k=>⟨st.1,k I (by simp) _ st.2.1,k a (by simp) _ st.2.2⟩
 item:=fun i s Q E hi st k=>alA hh ne st.2.1 st.2.2 X nd st.1 (fun v h' ho hI' kp=>k v h' s.toks ho ⟨hi,hI',kp a _ ne st.2.2⟩ fun b o nb e=>kp b o (fun z=>nb (by simp[z])) e) fun ho=>by
  have:=List.getElem?_eq_none_iff.mp ho
  have hl:=akB (w:=w) (a:=a) (es:=es) (ep:=ep)
  omega
 done:=fun s Q E st k=>alA hh ne st.2.1 st.2.2 X nd st.1 (fun v h' ho=>by
  obtain⟨z,_⟩:=List.getElem?_eq_some_iff.mp ho
  have hl:=akB (w:=w) (a:=a) (es:=es) (ep:=ep)
  omega) fun _ h' kp=>k h' s.toks fun b o nb e=>kp b o (fun z=>nb (by simp[z])) e
 self:=fun i s Q E st k=>ak4 st.2.1 k
theorem anG{T:Addr}{ys:List Nat}(hh:A.handled=none)(ne:a≠I)(nT:T≠I)(X:SetE prog w es t)(hp:ys.Perm (List.range es.size)):
  Walks prog w A I [I,a,T] [I] es.size (fun i v=>∃y,ys[i]? =some y/\(es.toList.map (·.2))[y]? =some v) (fun i h=>h.get? I=some (sit (.ref T) i a es.size ep)/\h.get? a=some (aaU es ep t)/\h.get? T=some {cls:=.type "tuple",data:=.seq (ys.map fun (y:Nat)=>rawInt y).toArray}) where
 sub:=fun b hb=>by simp at hb;simp[hb]
 frame:=fun i h h' st k=>⟨k I (by simp) _ st.1,k a (by simp) _ st.2.1,k T (by simp) _ st.2.2⟩
 item:=fun i s Q E hi st k=>ajM hh st.1 st.2.2 st.2.1 X (fun y hy=>by simpa using hp.mem_iff.mp hy) (fun y v h' h1 h2 hI' kp=>k v h' s.toks ⟨y,h1,h2⟩ ⟨hI',kp a _ ne st.2.1,kp T _ nT st.2.2⟩ fun b o nb e=>kp b o (fun z=>nb (by simp[z])) e) fun ho=>by
  have:=List.getElem?_eq_none_iff.mp ho
  have hl:=hp.length_eq
  rw[List.length_range] at hl
  omega
 done:=fun s Q E st k=>ajM hh st.1 st.2.2 st.2.1 X (fun y hy=>by simpa using hp.mem_iff.mp hy) (fun y v h' ho=>by
  obtain⟨z,_⟩:=List.getElem?_eq_some_iff.mp ho
  have hl:=hp.length_eq
  rw[List.length_range] at hl
  omega) fun _ h' kp=>k h' s.toks fun b o nb e=>kp b o (fun z=>nb (by simp[z])) e
 self:=fun i s Q E st k=>ak4 st.1 k
theorem aqZ{Q:Value->Shared->Prop}(hS:s.heap.get? a=some (aaU es ep t))(X:SetE prog w es t)
  (k:(w.params.followText "set-order"=true∨(!t.plain&&decide (es.size>1))=false)->Q (.ref s.heap.objs.size) {s with heap:=s.heap.push (sit (rawInt 0) 0 a es.size ep)})
  (kD:∀(ys:List Nat) (d:Drawn),ys.Perm (List.range es.size)->Q (.ref (s.heap.objs.size+1)) {s with heap:=(s.heap.push {cls:=.type "tuple",data:=.seq (ys.map fun (y:Nat)=>rawInt y).toArray}).push (sit (.ref s.heap.objs.size) 0 a es.size ep),drawn:=d}):
  wpAny (model prog w) A (pyIter (.ref a)) Q E s:=by
 have hT:s.TypeIs (.ref a) "set":=⟨_,hS,rfl⟩
 refine wpAny_pyIter_slot hT F.slot_set_iter (wpAny_call_entry F.slot_set_iter hT ah3 ?_ (F.args_set_iter_1 _))
 unfold Builtin.«frozenset.__iter__» Builtin.Frozenset.slot0
 refine wpAny_bind (wpAny_bind (m:=slotArgs _ _ _) (wpAny_pure (wpAny_pure ?_)))
 unfold Builtin.Frozenset.sizeOf setEntries
 refine wpAny_bind (wpAny_bind (wpAny_bind (wpAny_setState_of hS rfl X.fit (wpAny_pure (wpAny_pure ?_)))))
 unfold setDrawn
 refine wpAny_bind (wpAny_bind (wpAny_setState_of hS rfl X.fit ?_))
 refine wpAny_bind (aeL (wpAny_pure ?_))
 have sl:=fits_of_scanBound X.sz
 dsimp only
 change wpAny _ _ (if (!w.params.followText "set-order"&&(!t.plain&&decide (es.size>1)))=true then _ else _) _ _ _
 by_cases c:(!w.params.followText "set-order"&&(!t.plain&&decide (es.size>1)))=true
 ·rw[if_pos c]
  refine wpAny_bind (ajC es.size (List.range es.size) s _ List.length_range fun ys d hp=>?_)
  unfold newTuple
  refine wpAny_bind (wpAny_newObj_type ?_ (by show (ys.map fun (y:Nat)=>rawInt y).toArray.size<=_;rw[List.size_toArray,List.length_map,hp.length_eq,List.length_range];omega))
  refine wpAny_bind (wpAny_setEpoch_of (Heap.get?_push_of_some _ hS) rfl X.fit ?_)
  unfold newFields
  refine wpAny_bind (wpAny_newObj_type (wpAny_pure ⟨_,rfl,"set_iterator",_,⟨_,Heap.get?_push_size _ rfl,rfl⟩,slot_set_itn.lookup,?_⟩))
  have:=kD ys d hp
  rw[Heap.size_push]
  exact this
 ·rw[if_neg c]
  refine wpAny_bind (wpAny_pure (wpAny_bind (wpAny_setEpoch_of hS rfl X.fit ?_)))
  unfold newFields
  refine wpAny_bind (wpAny_newObj_type (wpAny_pure ⟨_,rfl,"set_iterator",_,⟨_,Heap.get?_push_size _ rfl,rfl⟩,slot_set_itn.lookup,k ?_⟩))
  cases q:w.params.followText "set-order" with
  |true=>exact .inl rfl
  |false=>
   refine .inr ?_
   rw[q] at c
   simpa using c
theorem alO{Q:Bool->Shared->Prop}(hT:s.TypeIs (.ref a) "set")(h:Q false s):wpAny (model prog w) A (Builtin.List.listLengthHint (.ref a)) Q E s:=by
 unfold Builtin.List.listLengthHint
 refine wpAny_bind (wpAny_specialOf hT F.slot_set_len.lookup ?_)
 generalize hid:("set.__len__":String)=id0
 wp_delta
 have parts:splitId id0=some ("set","__len__"):=by subst hid;decide +kernel
 rw[parts]
 subst hid
 refine wpAny_bind (wpAny_isInstance (T:="set") (b:=true) hT (by rw[isSubtype_type];kernel_rfl) ?_)
 refine wpAny_ite_split (fun z=>absurd z (by decide)) (fun _=>wpAny_ite_split (fun _=>wpAny_bind (wpAny_typeOf hT (wpAny_pure h))) fun z=>absurd (by decide +kernel) z)
end
section
variable{prog:Program}{w:World}{A:Around}{E:Value->Shared->Prop}{s:Shared}{a I:Addr}{es:Array (Int×Value)}{ep:Nat}{t:SetTable}
theorem amH{xs:List Value}{acc:Array Value}{n:Nat}(hn:xs.length=n)(its:ItemsOf (fun i v=>xs[i]? =some v) acc n):acc.toList=xs:=by
 refine List.ext_getElem? fun i=>?_
 rw[Array.getElem?_toList]
 by_cases c:i<acc.size
 ·have e:=Array.getElem?_eq_getElem c
  rw[e,its.2 i _ e]
 ·rw[Array.getElem?_eq_none (by omega),List.getElem?_eq_none (by have:=its.1;omega)]
theorem anB{R:Result->Shared->Prop}{S:Addr}(hh:A.handled=none)(hS:s.heap.get? a=some (aaU es ep t))(X:SetE prog w es t)(ne:S≠a)(hL:s.heap.get? S=some {cls:=.type "list",data:=.seq #[]})
  (k:∀(s':Shared) (acc:Array Value) (c:Nat),acc.toList.Perm (es.toList.map (·.2))->(∀b o,b≠S->s.heap.get? b=some o->s'.heap.get? b=some o)->s'.gens=s.gens->s'.os=s.os->s'.heap.get? S=some {cls:=.type "list",data:=.seq acc c}->R (.ok (.ret (.ref S))) s'):
  wpAny (model prog w) A.in1 (Builtin.List.listExtendWith (.ref S) (.ref a) (.ref S)) (fun fin s'=>match fin with | .done f=>R (.ok f) s' | .again c'=>c'.quiet=true/\codeAny (model prog w) A c' R s') (fun e s'=>R (.error e) s') s:=by
 have sl:=fits_of_scanBound X.sz
 have la:a<s.heap.objs.size:=Heap.lt_size hS
 have lS:S<s.heap.objs.size:=Heap.lt_size hL
 have apart:Builtin.List.listSameRef (.ref S) (.ref a)=false:=by simp[Builtin.List.listSameRef,ne]
 unfold Builtin.List.listExtendWith
 refine wpAny_bind (wpAny_typeOf (T:="set") ⟨_,hS,rfl⟩ ?_)
 rw[if_neg (by rw[apart];decide)]
 refine wpAny_bind (aqZ hS X (fun nd=>?_) fun ys d hp=>?_)
 ·have HS:(s.heap.push (sit (rawInt 0) 0 a es.size ep)).get? a=some (aaU es ep t):=Heap.get?_push_of_some _ hS
  have LS:(s.heap.push (sit (rawInt 0) 0 a es.size ep)).get? S=some {cls:=.type "list",data:=.seq #[]}:=Heap.get?_push_of_some _ hL
  have W:=aoY (A:=A.in1) (ep:=ep) (I:=s.heap.objs.size) hh (Nat.ne_of_lt la) X nd
  have ST:0<=es.size/\(s.heap.push (sit (rawInt 0) 0 a es.size ep)).get? s.heap.objs.size=some (sit (rawInt (aa3 w t 0)) 0 a es.size ep)/\(s.heap.push (sit (rawInt 0) 0 a es.size ep)).get? a=some (aaU es ep t):=⟨Nat.zero_le _,by rw[arK];exact Heap.get?_push_size s.heap (o:=sit (rawInt 0) 0 a es.size ep) rfl,HS⟩
  refine wpAny_bind (wpAny_holding (alO ⟨_,HS,rfl⟩ ?_))
  rw[if_pos (by decide)]
  refine wpAny_bind (wpAny_rule (wpAny_bind (show wpAny _ _ (updateSeq S (fun l=>l.push Value.none) >>=fun _=>updateSeq S fun l=>l.pop) _ _ _ from wpAny_bind (wpAny_updateSeq LS rfl ?_))))
  have S1:=Heap.get?_update_self (Obj.mapSeq (·.push Value.none)) LS rfl
  refine wpAny_updateSeq (hz:=by seq_fits) S1 rfl ?_
  have S2:=Heap.get?_update_self (Obj.mapSeq (·.pop)) S1 rfl
  have oth:∀b o,b≠S->(s.heap.push (sit (rawInt 0) 0 a es.size ep)).get? b=some o->(((s.heap.push (sit (rawInt 0) 0 a es.size ep)).update S (Obj.mapSeq (·.push Value.none))).update S (Obj.mapSeq (·.pop))).get? b=some o:=fun b o nb e=>by
   rw[Heap.get?_update_other _ _ (Ne.symm nb),Heap.get?_update_other _ _ (Ne.symm nb)]
   exact e
  have out:S∉[s.heap.objs.size,a]:=by
   simp only[List.mem_cons,List.not_mem_nil,or_false,not_or]
   exact⟨Nat.ne_of_lt lS,ne⟩
  refine wpAny_pure ⟨plainId_quiet PySem.F.plain_extend_loop _,codeAny_extend_loopS W.toS sl S out _ es.size 0 _ #[] _ rfl (Nat.zero_le _) (W.frame 0 _ _ ST fun b hb o e=>oth b o (fun z=>out (z▸hb)) e) S2 (ItemsOf.nil _) fun s' acc c mv S3 its=>?_⟩
  exact k s' acc c (by rw[amH akB its];exact ord_perm) (fun b ob nb e=>mv.heap b ob (by simp[nb,Nat.ne_of_lt (Heap.lt_size e)]) (oth b ob nb (Heap.get?_push_of_some _ e))) mv.gens mv.os S3
 ·have nT:s.heap.objs.size≠s.heap.objs.size+1:=Nat.ne_of_lt (Nat.lt_succ_self _)
  have HS:((s.heap.push ({cls:=.type "tuple",data:=.seq (ys.map fun (y:Nat)=>rawInt y).toArray}:Obj)).push (sit (.ref s.heap.objs.size) 0 a es.size ep)).get? a=some (aaU es ep t):=Heap.get?_push_of_some _ (Heap.get?_push_of_some _ hS)
  have LS:((s.heap.push ({cls:=.type "tuple",data:=.seq (ys.map fun (y:Nat)=>rawInt y).toArray}:Obj)).push (sit (.ref s.heap.objs.size) 0 a es.size ep)).get? S=some {cls:=.type "list",data:=.seq #[]}:=Heap.get?_push_of_some _ (Heap.get?_push_of_some _ hL)
  have W:=anG (A:=A.in1) (ep:=ep) (I:=s.heap.objs.size+1) (T:=s.heap.objs.size) hh (Nat.ne_of_lt (Nat.lt_succ_of_lt la)) nT X hp
  have eI:((s.heap.push ({cls:=.type "tuple",data:=.seq (ys.map fun (y:Nat)=>rawInt y).toArray}:Obj)).push (sit (.ref s.heap.objs.size) 0 a es.size ep)).get? (s.heap.objs.size+1)=some (sit (.ref s.heap.objs.size) 0 a es.size ep):=by
   have:=Heap.get?_push_size (s.heap.push ({cls:=.type "tuple",data:=.seq (ys.map fun (y:Nat)=>rawInt y).toArray}:Obj)) (o:=sit (.ref s.heap.objs.size) 0 a es.size ep) rfl
   rw[Heap.size_push] at this
   exact this
  have ST:((s.heap.push ({cls:=.type "tuple",data:=.seq (ys.map fun (y:Nat)=>rawInt y).toArray}:Obj)).push (sit (.ref s.heap.objs.size) 0 a es.size ep)).get? (s.heap.objs.size+1)=some (sit (.ref s.heap.objs.size) 0 a es.size ep)/\((s.heap.push ({cls:=.type "tuple",data:=.seq (ys.map fun (y:Nat)=>rawInt y).toArray}:Obj)).push (sit (.ref s.heap.objs.size) 0 a es.size ep)).get? a=some (aaU es ep t)/\((s.heap.push ({cls:=.type "tuple",data:=.seq (ys.map fun (y:Nat)=>rawInt y).toArray}:Obj)).push (sit (.ref s.heap.objs.size) 0 a es.size ep)).get? s.heap.objs.size=some {cls:=.type "tuple",data:=.seq (ys.map fun (y:Nat)=>rawInt y).toArray}:=⟨eI,HS,Heap.get?_push_of_some _ (Heap.get?_push_size _ rfl)⟩
  refine wpAny_bind (wpAny_holding (alO ⟨_,HS,rfl⟩ ?_))
  rw[if_pos (by decide)]
  refine wpAny_bind (wpAny_rule (wpAny_bind (show wpAny _ _ (updateSeq S (fun l=>l.push Value.none) >>=fun _=>updateSeq S fun l=>l.pop) _ _ _ from wpAny_bind (wpAny_updateSeq LS rfl ?_))))
  have S1:=Heap.get?_update_self (Obj.mapSeq (·.push Value.none)) LS rfl
  refine wpAny_updateSeq (hz:=by seq_fits) S1 rfl ?_
  have S2:=Heap.get?_update_self (Obj.mapSeq (·.pop)) S1 rfl
  have oth:∀b o,b≠S->((s.heap.push ({cls:=.type "tuple",data:=.seq (ys.map fun (y:Nat)=>rawInt y).toArray}:Obj)).push (sit (.ref s.heap.objs.size) 0 a es.size ep)).get? b=some o->((((s.heap.push ({cls:=.type "tuple",data:=.seq (ys.map fun (y:Nat)=>rawInt y).toArray}:Obj)).push (sit (.ref s.heap.objs.size) 0 a es.size ep)).update S (Obj.mapSeq (·.push Value.none))).update S (Obj.mapSeq (·.pop))).get? b=some o:=fun b o nb e=>by
   rw[Heap.get?_update_other _ _ (Ne.symm nb),Heap.get?_update_other _ _ (Ne.symm nb)]
   exact e
  have out:S∉[s.heap.objs.size+1,a,s.heap.objs.size]:=by
   simp only[List.mem_cons,List.not_mem_nil,or_false,not_or]
   exact⟨Nat.ne_of_lt (Nat.lt_succ_of_lt lS),ne,Nat.ne_of_lt lS⟩
  refine wpAny_pure ⟨plainId_quiet PySem.F.plain_extend_loop _,codeAny_extend_loopS W.toS sl S out _ es.size 0 _ #[] _ rfl (Nat.zero_le _) (W.frame 0 _ _ ST fun b hb o e=>oth b o (fun z=>out (z▸hb)) e) S2 (ItemsOf.nil _) fun s' acc c mv S3 its=>?_⟩
  have el:acc.toList=ys.map fun y=>((es.toList.map (·.2))[y]?).getD .none:=by
   refine amH (by rw[List.length_map,hp.length_eq,List.length_range]) ⟨its.1,fun i v hv=>?_⟩
   obtain⟨y,h1,h2⟩:=its.2 i v hv
   rw[List.getElem?_map,h1]
   show some (((es.toList.map (·.2))[y]?).getD .none)=_
   rw[h2]
   rfl
  have er:(List.range es.size).map (fun y=>((es.toList.map (·.2))[y]?).getD Value.none)=es.toList.map (·.2):=by
   refine List.ext_getElem? fun i=>?_
   rw[List.getElem?_map]
   by_cases c:i<es.size
   ·rw[List.getElem?_range c]
    show some (((es.toList.map (·.2))[i]?).getD .none)=(es.toList.map (·.2))[i]?
    rw[List.getElem?_eq_getElem (by rw[List.length_map,Array.length_toList];exact c)]
    rfl
   ·rw[List.getElem?_eq_none (by rw[List.length_range];omega),List.getElem?_eq_none (by rw[List.length_map,Array.length_toList];omega)]
    rfl
  refine k s' acc c (by rw[el];exact (hp.map _).trans (List.Perm.of_eq er)) (fun b ob nb e=>mv.heap b ob ?_ (oth b ob nb (Heap.get?_push_of_some _ (Heap.get?_push_of_some _ e)))) mv.gens mv.os S3
  simp only[List.mem_cons,List.not_mem_nil,or_false,not_or]
  exact⟨nb,Nat.ne_of_lt (Nat.lt_succ_of_lt (Heap.lt_size e))⟩
theorem alU{Q:List Value->Shared->Prop}(hh:A.handled=none)(hS:s.heap.get? a=some (aaU es ep t))(X:SetE prog w es t)
  (k:∀(s':Shared) (vs:List Value),vs.Perm (es.toList.map (·.2))->(∀b o,s.heap.get? b=some o->s'.heap.get? b=some o)->s.heap.objs.size<s'.heap.objs.size->s'.gens=s.gens->s'.os=s.os->Q vs s'):wpAny (model prog w) A (collect (.ref a)) Q E s:=by
 let nl:Obj:={cls:=.type "list",data:=.seq ([]:List Value).toArray}
 have S1:(s.heap.push nl).get? s.heap.objs.size=some nl:=Heap.get?_push_size _ rfl
 unfold collect
 refine wpAny_bind (wpAny_runValue (codeAny_builtin F.entry_proto_collect ?_))
 rw[Around.under_plainId F.plain_proto_collect _]
 refine wpAny_bind (wpAny_newObj_type (wpAny_pure ⟨plainId_quiet F.plain_list_iadd _,codeAny_builtin F.entry_list_iadd ?_⟩))
 rw[Around.under_plainId F.plain_list_iadd _]
 have key:=anB (A:=A) (s:={s with heap:=s.heap.push nl}) (S:=s.heap.objs.size) (R:=fun q s'=>∃acc c,q=.ok (.ret (.ref s.heap.objs.size))/\acc.toList.Perm (es.toList.map (·.2))/\(∀b o,s.heap.get? b=some o->s'.heap.get? b=some o)/\s'.gens=s.gens/\s'.os=s.os/\s'.heap.get? s.heap.objs.size=some {cls:=.type "list",data:=.seq acc c})
  hh (Heap.get?_push_of_some _ hS) X (Nat.ne_of_gt (Heap.lt_size hS)) S1 fun s' acc c p kp g o e=>⟨acc,c,rfl,p,fun b ob q=>kp b ob (Nat.ne_of_lt (Heap.lt_size q)) (Heap.get?_push_of_some _ q),g,o,e⟩
 have fin:∀s' acc c,acc.toList.Perm (es.toList.map (·.2))->(∀b o,s.heap.get? b=some o->s'.heap.get? b=some o)->s'.gens=s.gens->s'.os=s.os->s'.heap.get? s.heap.objs.size=some {cls:=.type "list",data:=.seq acc c}->
   wpAny (model prog w) A (do let o ←load s.heap.objs.size;match o.data with | .seq xs _=>pure xs.toList | _=>unsupported "internal:collect") Q E s':=fun s' acc c p kp g o e=>wpAny_bind (wpAny_load e (wpAny_pure (k s' acc.toList p kp (Heap.lt_size e) g o)))
 refine wpAny_mono key (fun f s' x=>?_) fun e s' x=>?_
 ·cases f with
  |done f=>
   obtain⟨acc,c,e,p,kp,g,o,q⟩:=x
   cases e
   exact fin s' acc c p kp g o q
  |again c1=>
   refine⟨x.1,codeAny_mono x.2 fun r s2 y=>?_⟩
   obtain⟨acc,c,rfl,p,kp,g,o,q⟩:=y
   exact fin s2 acc c p kp g o q
 ·obtain⟨_,_,e',_⟩:=x
  cases e'
theorem am5{Q:Value->Shared->Prop}(hh:A.handled=none)(hS:s.heap.get? a=some (aaU es ep t))(X:SetE prog w es t)(h64:es.size<64)
  (k:∀(s':Shared) (D:Addr) (vs:List Value) (ns:List Int) (c:Nat),s.heap.objs.size<=D->s'.heap.get? D=some {cls:=.type "list",data:=.seq vs.toArray c}->IntsAre vs ns->ns.Pairwise (·<·)->(∀x,x∈ns↔x∈abM es)->(∀b o,s.heap.get? b=some o->s'.heap.get? b=some o)->s'.gens=s.gens->s'.os=s.os->Q (.ref D) s'):
  wpAny (model prog w) A (call (.builtin "sorted") [.ref a]) Q E s:=by
 refine Calls.call_function_entry kind_sorted plain_sorted entry_sorted (args_sorted1 _) ?_
 unfold Builtin.«sorted»
 refine wpAny_bind (m:=checkCount "sorted" 1 1 _) (wpAny_pure (wpAny_bind (alU (A:=A.in1) hh hS X fun s1 vs hp k1 sz1 g1 o1=>?_)))
 have hl:vs.length=es.size:=by rw[hp.length_eq,List.length_map,Array.length_toList]
 refine wpAny_bind (wpAny_newList ?_ (by rw[hl,sizeLine_eq];omega))
 have hin:IntsAre vs (vs.map zOf):=by
  have all:∀v∈vs,∃t,v=.int (zOf v) t:=fun v hv=>by
   obtain⟨e,he,rfl⟩:=List.mem_map.mp (hp.mem_iff.mp hv)
   exact aq7 X.el he
  clear hp hl
  induction vs with
  |nil=>exact .nil
  |cons v r ih=>
   obtain⟨t,e⟩:=all v (by simp)
   rw[List.map_cons]
   rw[e]
   exact .cons _ _ (ih fun u hu=>all u (List.mem_cons_of_mem _ hu))
 have zp:(vs.map zOf).Perm (abM es):=by
  have:=hp.map zOf
  rw[List.map_map] at this
  exact this
 have hoL:(s1.heap.push (seqObj "list" vs.toArray 0)).get? s1.heap.objs.size=some (seqObj "list" vs.toArray 0):=Heap.get?_push_size _ rfl
 refine wpAny_bind (wpAny_holding (wpAny_call_entry slot_list_sort ⟨_,hoL,rfl⟩ entry_list_sort (list_sort_tree hoL hin (by omega) fun out ns' a1 a2 a3=>⟨_,rfl,?_⟩) (args_list_sort _)))
 obtain⟨e,he⟩:=sortedHeap_at (out:=out) hoL
 refine wpAny_pure ⟨_,rfl,k _ s1.heap.objs.size out.toList ns' e (Nat.le_of_lt sz1) (by rw[Array.toArray_toList];exact he) a1 ?_ (fun x=>by rw[a2.mem_iff,zp.mem_iff]) (fun b ob q=>?_) g1 o1⟩
 ·have nd:ns'.Nodup:=a2.nodup_iff.mpr (zp.nodup_iff.mpr X.nd)
  exact (List.pairwise_and_iff.mpr ⟨a3,nd⟩).imp fun ⟨h1,h2⟩=>by omega
 ·have q1:=k1 b ob q
  have lb:=Heap.lt_size q1
  rw[sortedHeap_old (Nat.ne_of_lt lb) (by rw[size_push'];exact Nat.lt_succ_of_lt lb)]
  exact Heap.get?_push_of_some _ q1
end
def stO(P:Program)(w:World)(q:Addr)(ns:List Int):HO:=.ext fun h=>∃es ep t,h.get? q=some (aaU es ep t)/\SetE P w es t/\∀x,x∈abM es↔x∈ns
theorem Inv.other{X:Cx}{pins:List (Addr×Obj)}{σ:St}{H:Hp}{s s':Shared}(I:Inv X pins σ H s)(e1:s'.heap=s.heap)(e2:s'.gens=s.gens)(e3:s'.os=s.os):Inv X pins σ H s':=by
 obtain⟨h,g,d,t,o⟩:=s
 obtain⟨h',g',d',t',o'⟩:=s'
 cases e1
 cases e2
 cases e3
 exact⟨I.ok,I.os,I.bare,I.base,I.loc,I.cell,I.free,I.freeC,I.pin,I.hok,I.len⟩
theorem ak0:∀{ns:List Int} {us:List Value},Vals (ns.map V.int) us->IntsAre us ns
 |[],_,r=>by cases r;exact .nil
 |n::ns,_,.cons h r=>by
  obtain⟨t,rfl⟩:=h
  exact .cons n t (ak0 r)
theorem ae9:∀(n:Nat) {zs:List Int},zs.Nodup->(∀x∈zs,0<=x/\x<n)->zs.length<=n
 |0,zs,_,hb=>by
  cases zs with
  |nil=>exact Nat.le_refl _
  |cons x r=>
   have:=hb x (by simp)
   omega
 |n+1,zs,hn,hb=>by
  by_cases c:(n:Int)∈zs
  ·have h1:=ae9 n (hn.erase (n:Int)) fun x hx=>by
    obtain⟨h2,h3⟩:=hn.mem_erase_iff.mp hx
    have:=hb x h3
    omega
   rw[List.length_erase_of_mem c] at h1
   omega
  ·have h1:=ae9 n hn fun x hx=>by
    have:=hb x hx
    have:x≠n:=fun e=>c (e▸hx)
    omega
   omega
section
variable{X:Cx}
theorem cSet(hc:X.calm=true:=by rfl):Cl1 X (.type "set") (fun xs H Q=>∃(p:Addr) (ns:List Int),xs=[.ref p]/\SqL X.K H p (ns.map V.int)/\ns.length+1<4096/\∀q,H q=none->Q (.ref q) (upd H q (stO X.prog X.w q ns))):=by
 refine⟨fun pins s σ H xs us Q I r h=>?_⟩
 obtain⟨p,ns,rfl,hS,hl,k⟩:=h
 obtain⟨u,rfl,ru⟩:=abL r
 cases ru
 obtain⟨its,rv,pl,hlen⟩:=I.list hS
 have hi:=ak0 rv
 refine apH (I.ok.hd hc) pl.isList (by simpa using hi) (by have:=IntsAre.length hi;show its.toArray.size+1<4096;rw[List.size_toArray];omega) fun h' tk es ep t e SE m kp=>?_
 refine⟨.ref s.heap.objs.size,_,I.laid (a:=s.heap.objs.size) (o:=stO X.prog X.w s.heap.objs.size ns) kp (Nat.le_refl _) ⟨⟨es,ep,t,e,SE,m⟩,⟨_,e⟩,fun h1 h2 ⟨es,ep,t,e,SE,m⟩ kk=>⟨es,ep,t,kk _ e,SE,m⟩⟩,rfl,k _ (I.hok.fresh (Nat.le_refl _))⟩
theorem cSrt(hc:X.calm=true:=by rfl):Cl1 X (.builtin "sorted") (fun xs H Q=>∃(q:Addr) (ns:List Int),xs=[.ref q]/\H q=some (stO X.prog X.w q ns)/\(∀x∈ns,0<=x/\x<63)/\∀(D:Addr) (zs:List Int),H D=none->zs.Pairwise (·<·)->(∀x,x∈zs↔x∈ns)->Q (.ref D) (upd H D (.lst (zs.map V.int)))):=by
 refine⟨fun pins s σ H xs us Q I r h=>?_⟩
 obtain⟨q,ns,rfl,hq,hb,k⟩:=h
 obtain⟨u,rfl,ru⟩:=abL r
 cases ru
 obtain⟨es,ep,t,e,SE,m⟩:=(I.hok q _ hq).1
 have h63:=ae9 63 SE.nd fun x hx=>hb x ((m x).mp hx)
 have hes:es.size<64:=by
  unfold abM at h63
  rw[List.length_map,Array.length_toList] at h63
  omega
 refine am5 (I.ok.hd hc) e SE hes fun s' D vs zs c lD eD hi hp hm kp g o=>?_
 have vz:=afS hi
 have lz:zs.length<=63:=ae9 63 (hp.imp fun h=>by omega) fun x hx=>hb x ((m x).mp ((hm x).mp hx))
 have J:=(I.laid (a:=D) (o:=.lst (zs.map V.int)) (t':=s.toks) (h':=s'.heap) kp lD ⟨by rw[List.length_map,sizeLine_eq];omega,vs,c,vz,eD⟩).other (s':=s') rfl g o
 exact⟨.ref D,_,J,rfl,k D zs (I.hok.fresh lD) hp fun x=>(hm x).trans (m x)⟩
end
section
variable{X:Cx}
end
section
variable{js:List Nat}{σ:St}{tt:TT}{te:TE}{Q:VK}{H1:Hp}
end
theorem ifX{a b:List Nat}{A B:Prop}(h1:a=b->A)(h2:¬a=b->B):if decide (V.str (Tx a)=V.str (Tx b))=true then A else B:=by
 rw[apZ]
 exact ifD h1 h2
end L2
namespace KM
open PySem PySem.Spec PyProof.Rows L2
inductive Mk where
 |num (m:Int) | lst (b:Int) | nea (d:Int) | wrk | wkd (m:Int) | nth (w m:Int) | one (w:Int) | nil
 deriving DecidableEq
def adL(ds:List Int):Int:=(ds.map fun d=>1*2^d.toNat).sum
theorem anU(ds:List Int):0<=adL ds:=by
 unfold adL
 induction ds with
 |nil=>exact Int.le_refl 0
 |cons d ds ih=>
  have:=ahD d.toNat
  rw[List.map_cons,List.sum_cons]
  omega
theorem an8{n:Nat}:∀{ds:List Int} (a:Nat),ds.Pairwise (·<·)->(∀d∈ds,(a:Int)<=d/\d<(n:Int))->a<=n->adL ds+2^a<=2^n
 |[],a,_,_,h=>by
  have:=Nat.pow_le_pow_right (show 0<2 by decide) h
  have e:((2:Int)^a)<=2^n:=by exact_mod_cast this
  show (0:Int)+2^a<=2^n
  omega
 |d::ds,a,hp,hb,h=>by
  have p:=List.pairwise_cons.mp hp
  have hd:=hb d (List.mem_cons_self ..)
  have ih:=an8 (n:=n) (d.toNat+1) p.2 (fun z hz=>by
   have:=p.1 z hz
   have:=hb z (List.mem_cons_of_mem _ hz)
   omega) (by omega)
  have hm:=Nat.pow_le_pow_right (show 0<2 by decide) (show a<=d.toNat by omega)
  have e:((2:Int)^a)<=2^d.toNat:=by exact_mod_cast hm
  have e2:(2:Int)^(d.toNat+1)=2^d.toNat*2:=Int.pow_succ ..
  unfold adL at ih ⊢
  rw[List.map_cons,List.sum_cons]
  omega
theorem aqV{n:Nat}:∀{ds:List Int} (a:Nat),ds.Pairwise (·<·)->(∀d∈ds,(a:Int)<=d/\d<(n:Int))->a<=n->ds.length+a<=n
 |[],a,_,_,h=>by simpa using h
 |d::ds,a,hp,hb,h=>by
  have p:=List.pairwise_cons.mp hp
  have hd:=hb d (List.mem_cons_self ..)
  have ih:=aqV (n:=n) (d.toNat+1) p.2 (fun z hz=>by
   have:=p.1 z hz
   have:=hb z (List.mem_cons_of_mem _ hz)
   omega) (by omega)
  rw[List.length_cons]
  omega
theorem at2{i:Int}{x y:V}(h0:0<=i)(h1:i<2):∃v,atI [x,y] i=some v/\(v=x∨v=y):=by
 have:i=0∨i=1:=by omega
 rcases this with rfl | rfl
 ·exact⟨x,rfl,.inl rfl⟩
 ·exact⟨y,rfl,.inr rfl⟩
def nw(d l f:Int):Int:=if (f+d-1)%7=6 then (if 1<d then d-1 else 3) else if (f+d-1)%7=0 then (if d<l then d+1 else l-2) else d
def wk(f:Int)(n:Nat):Bool:=decide (1<=(f+(1+(n:Int))-1)%7)&&decide ((f+(1+(n:Int))-1)%7<=5)
def ab(i:Int):Int:=if i<0 then -i else i
theorem rng{l:Int}(hl:28<=l/\l<=31):(-(2^62)<=(1:Int)/\(1:Int)<2^62/\ -(2^62)<=l+1/\l+1<2^62)/\(l+1-1).toNat=l.toNat/\(l+1-1).toNat<=sizeLine:=by
 obtain⟨h0,h1⟩:=hl
 refine⟨⟨by decide,by decide,by omega,by omega⟩,by omega,?_⟩
 rw[sizeLine_eq]
 omega
def aI0(w m:Int):List (Str×V):=aaM "many" (.int m) (aaM "weekday" (.int w) [])
def Mk.ok:Mk->Prop
 |.num m=>0<=m
 |.lst b=>0<=b/\b<=30
 |.nea d=>1<=d/\d<=31
 |.wrk=>True
 |.wkd m=>0<=m/\m<=127
 |.nth w m=>(0<=w/\w<=6)/\1<=m/\m<=5
 |.one w=>0<=w/\w<=6
 |.nil=>True
def Mk.wk:Mk->Bool
 |.wkd _ | .nth _ _ | .one _=>true
 |_=>false
def Mk.tup:Mk->List V
 |.num m=>[.str (Tx [112,108,97,105,110]),.int m,.int 0]
 |.wkd m=>[.str (Tx [112,108,97,105,110]),.int m,.int 0]
 |.lst b=>[.str (Tx [108,97,115,116]),.int b,.int 0]
 |.nea d=>[.str (Tx [110,101,97,114]),.int d,.int 0]
 |.wrk=>[.str (Tx [119,111,114,107]),.int 0,.int 0]
 |.nth w m=>[.str (Tx [110,116,104]),.int w,.int m]
 |.one w=>[.str (Tx [108,97,115,116,111,110,101]),.int w,.int 0]
 |.nil=>[]
def Mk.sp:Mk->Bool
 |.nil=>false
 |_=>true
structure Cs where
 (nu la ne lw we nt lo ma:Addr)
def MkAt(c:Cs)(H:Hp)(x:Addr):Mk->Prop
 |.num m=>∃dx,H x=some (.ins c.nu dx [("mask",.int m)])
 |.lst b=>∃dx,H x=some (.ins c.la dx [("back",.int b)])
 |.nea d=>∃dx,H x=some (.ins c.ne dx [("day",.int d)])
 |.wrk=>∃dx,H x=some (.ins c.lw dx [])
 |.wkd m=>∃dx,H x=some (.ins c.we dx [("mask",.int m)])
 |.nth w m=>∃dx,H x=some (.ins c.nt dx (aI0 w m))
 |.one w=>∃dx,H x=some (.ins c.lo dx [("weekday",.int w)])
 |.nil=>∃dx,H x=some (.ins c.ma dx [])
theorem MkAt.keep{c:Cs}{H H':Hp}(s:Keep H H'){x:Addr}{k:Mk}(h:MkAt c H x k):MkAt c H' x k:=by
 cases k<;>(obtain⟨dx,h⟩:=h;exact⟨dx,s.ins h⟩)
def PrAt(H:Hp)(p:Addr)(k:Mk):Prop:=k.ok/\k.sp=true/\∃u,H p=some (.tup [.ref u,.bl k.wk])/\H u=some (.tup k.tup)
theorem PrAt.keep{H H':Hp}(s:Keep H H'){p:Addr}{k:Mk}(h:PrAt H p k):PrAt H' p k:=by
 obtain⟨o,e,u,h1,h2⟩:=h
 exact⟨o,e,u,s.tup h1,s.tup h2⟩
abbrev Ft(R:Addr->Mk->Prop):List Addr->List Mk->Prop:=Paired R
theorem Ft.keepM{c:Cs}{H H':Hp}(s:Keep H H'){ps:List Addr}{ks:List Mk}(h:Ft (MkAt c H) ps ks):Ft (MkAt c H') ps ks:=Paired.imp' (fun _ _ z=>z.keep s) h
theorem Ft.app{R:Addr->Mk->Prop}:∀{ps:List Addr} {ks:List Mk} {ps':List Addr} {ks':List Mk},Ft R ps ks->Ft R ps' ks'->Ft R (ps++ps') (ks++ks')
 |_,_,_,_,.nil,h=>h
 |_,_,_,_,.cons r t,h=>.cons r (Ft.app t h)
end KM
namespace L2
open PySem
theorem aeH{us:List Value}(h:us.length=1):∃a,us=[a]:=by
 cases us with
 |nil=>cases h
 |cons a r=>cases r with
  |nil=>exact⟨a,rfl⟩
  |cons b r=>cases h
theorem atH{us:List Value}{n:Nat}(h:us.length=n+1):∃a r,us=a::r/\r.length=n:=by
 cases us with
 |nil=>cases h
 |cons a r=>exact⟨a,r,rfl,Nat.succ.inj h⟩
theorem ac7{us:List Value}(h:us.length=2):∃a b,us=[a,b]:=by
 obtain⟨a,r,rfl,h'⟩:=atH h
 obtain⟨b,rfl⟩:=aeH h'
 exact⟨a,b,rfl⟩
theorem aiH{us:List Value}(h:us.length=3):∃a b c,us=[a,b,c]:=by
 obtain⟨a,r,rfl,h'⟩:=atH h
 obtain⟨b,c,rfl⟩:=ac7 h'
 exact⟨a,b,c,rfl⟩
theorem auE{us:List Value}(h:us.length=4):∃a b c d,us=[a,b,c,d]:=by
 obtain⟨a,r,rfl,h'⟩:=atH h
 obtain⟨b,c,d,rfl⟩:=aiH h'
 exact⟨a,b,c,d,rfl⟩
theorem len5{us:List Value}(h:us.length=5):∃a b c d e,us=[a,b,c,d,e]:=by
 obtain⟨a,r,rfl,h'⟩:=atH h
 obtain⟨b,c,d,e,rfl⟩:=auE h'
 exact⟨a,b,c,d,e,rfl⟩
structure DfA(P:Program)(w:World)(K:PySem.W.Frag)(mg:Str->Option Value)(base:Heap)(f:Addr)(k:Nat)(ps:List Str)(sp:Sp):Prop where
 ex:∃fd:FuncData,FnOk P w K mg base CX0 k f fd ps sp/\Binds K fd ps []/\PySem.W.keepIn K (.ref f)=true
theorem Df.at_{P:Program}{w:World}{K:PySem.W.Frag}{mg:Str->Option Value}{base:Heap}{x:Str}{k:Nat}{ps:List Str}{sp:Sp}{f:Addr}(D:Df P w K mg base x k ps sp)(hm:mg x=some (.ref f)):DfA P w K mg base f k ps sp:=by
 obtain⟨f',fd,F,hb,hm',kp⟩:=D.ex
 rw[hm] at hm'
 cases hm'
 exact⟨fd,F,hb,kp⟩
def aAE(f:Addr)(sp:Sp)(tv:TE)(t:TA):TE:=fun σ H Q=>tv σ H fun v H1=>v=.ref f/\ajE sp [] E0 t σ H1 Q
section
variable{X:Cx}{f:Addr}{k k':Nat}{ps:List Str}{sp:Sp}{y:Str}{e:Expr}{es:List Expr}{t:TA}{tv:TE}{p pos:Pos}
theorem eDV(D:DfA X.prog X.w X.K X.mg X.base f k ps sp)(hr:Room k' X.A)(hv:E X (.Name y p) tv)(ha:As X (e::es) t)(hk:k<=k':=by decide)
  (he:starEach (e::es) X.env=(false,eval e X.env)::starEach es X.env:=by rfl) (hpl:(backTo pos (starEach es X.env)).any (·.1)=false:=by rfl):E X (.Call (.Name y p) (e::es) [] pos) (aAE f sp tv t):=by
 obtain⟨fd,F,hb,kp⟩:=D.ex
 refine⟨fun pins s σ H Q I h=>?_⟩
 refine wpAny_Call_Name_kw (thn (hv.h pins s σ H _ I h) fun v s1 ⟨x,H1,I1,r1,ex,q⟩=>?_)
 subst ex
 cases r1
 refine PySem.W.callWith_K (h₀:=X.base) I1.ok.mod.kin kp (thn (ha.h pos pins s1 σ H1 _ I1 q) fun us s2 ⟨vs,H2,I2,r,q2⟩=>⟨I2.kIn,?_⟩) he hpl
 exact arV F (hr.mono hk) hb .nil anL I2 r q2
end
section
variable{X:Cx}
def aF5:V->List V->Hp->VK->Prop:=fun x vs H Q=>∃l p:List Nat,x=.str (Tx l)/\vs=[.str (Tx p)]/\Q (.bl (decide (l.take p.length=p))) H
theorem ay7(l p:List Nat):(decide (0+(Tx p).length<=(Tx l).length)&&Builtin.Str.subAt (Tx l) (Tx p) 0)=decide (l.take p.length=p):=by
 rw[aa2,aa2]
 have e:(Tx l).cps.extract 0 (0+(Tx p).length)=(l.take p.length).toArray:=by
  rw[aa2]
  show l.toArray.extract 0 (0+p.length)=_
  simp
 have e2:(((l.take p.length).toArray==p.toArray:Bool))=decide (l.take p.length=p):=by
  by_cases h:l.take p.length=p
  ·rw[h];simp
  ·rw[decide_eq_false h]
   exact beq_eq_false_iff_ne.mpr fun z=>h (by simpa using congrArg Array.toList z)
 unfold Builtin.Str.subAt
 rw[e]
 show (_&&((l.take p.length).toArray==p.toArray))=_
 rw[e2]
 by_cases h:l.take p.length=p
 ·have:0+p.length<=l.length:=by
   have:=congrArg List.length h
   rw[List.length_take] at this
   omega
  rw[decide_eq_true this,Bool.true_and]
 ·rw[decide_eq_false h,Bool.and_false]
theorem aA2:MtR X "str.startswith" aF5:=by
 intro pins s σ H x xs v us Q I rx rv h
 obtain⟨l,p,rfl,rfl,q⟩:=h
 obtain⟨u,rfl,r1⟩:=abL rv
 obtain⟨t',rfl⟩:=r1
 obtain⟨t,rfl⟩:=rx
 refine call_gives PySem.F.slot_str_startswith (typeIs_str _ _ _) PySem.F.entry_str_startswith (PySem.F.args_str_startswith_2 _ _) (gives_str_startswith (Tx l) (Tx p) t t') ?_
 rw[ay7]
 exact⟨.bl _,H,I,rfl,q⟩
theorem eSwN{o e:Expr}{to te:TE}{apos cpos:Pos}(ho:E X o to)(he:E X e te)(hbase:attributeBase o "startswith" X.env (eval o X.env)=eval o X.env:=by rfl)
  (hfew:((backTo cpos (starEach [e] X.env)).all (fun x=> !x.1)&&(backToKw cpos (keywordEach [] X.env)).all (fun x=>x.1.isSome)&&decide (([e]:List Expr).length+([]:List Keyword).length+(if ([]:List Keyword).isEmpty then 0 else 1)<30))=true:=by rfl)
  (hline:(apos.endLine==cpos.line)=true:=by rfl) (hs:starEach [e] X.env=(false,eval e X.env)::starEach [] X.env:=by rfl) (hplain:(backTo cpos (starEach [] X.env)).any (·.1)=false:=by rfl):
  E X (.Call (.Attribute o "startswith" apos) [e] [] cpos) (tBM X.K "str" aF5 to (agH te aiO)):=
 ⟨al5 PySem.F.plainAttrs_str PySem.F.slot_str_startswith PySem.F.type_str_startswith aA2 ho.h (acB he.h adD hs) hbase hfew hline hs hplain⟩
def rEw:V->List V->Hp->VK->Prop:=fun x vs H Q=>∃(l:List Nat) (c:Nat),x=.str (Tx l)/\vs=[.str (Tx [c])]/\Q (.bl (decide (l.getLast? =some c))) H
theorem aG3(l:List Nat)(c:Nat):(decide (0+(Tx [c]).length<=(Tx l).length)&&Builtin.Str.subAt (Tx l) (Tx [c]) ((Tx l).length-(Tx [c]).length))=decide (l.getLast? =some c):=by
 rw[aa2,aa2]
 rcases List.eq_nil_or_concat l with rfl | ⟨r,x,rfl⟩
 ·simp
 ·rw[List.concat_eq_append]
  have e:(Tx (r++[x])).cps.extract ((r++[x]).length - [c].length) ((r++[x]).length - [c].length+(Tx [c]).length)= #[x]:=by
   show (r++[x]).toArray.extract ((r++[x]).length-1) ((r++[x]).length-1+1)= #[x]
   rw[List.length_append,List.length_singleton,Nat.add_sub_cancel]
   simp
  unfold Builtin.Str.subAt
  rw[e]
  have e2:decide (0+[c].length<=(r++[x]).length)=true:=by simp
  rw[e2,Bool.true_and,List.getLast?_append,List.getLast?_singleton]
  show (#[x]== #[c])=decide (some x=some c)
  by_cases h:x=c
  ·subst h;simp
  ·have h2:¬some x=some c:=fun z=>h (Option.some.inj z)
   rw[decide_eq_false h2]
   exact beq_eq_false_iff_ne.mpr fun z=>h (by simpa using z)
theorem aJ0:MtR X "str.endswith" rEw:=by
 intro pins s σ H x xs v us Q I rx rv h
 obtain⟨l,c,rfl,rfl,q⟩:=h
 obtain⟨u,rfl,r1⟩:=abL rv
 obtain⟨t',rfl⟩:=r1
 obtain⟨t,rfl⟩:=rx
 refine call_gives PySem.F.slot_str_endswith (typeIs_str _ _ _) PySem.F.entry_str_endswith (PySem.F.args_str_endswith_2 _ _) (gives_str_endswith (Tx l) (Tx [c]) t t') ?_
 rw[aG3]
 exact⟨.bl _,H,I,rfl,q⟩
theorem eEw{o e:Expr}{to te:TE}{apos cpos:Pos}(ho:E X o to)(he:E X e te)(hbase:attributeBase o "endswith" X.env (eval o X.env)=eval o X.env:=by rfl)
  (hfew:((backTo cpos (starEach [e] X.env)).all (fun x=> !x.1)&&(backToKw cpos (keywordEach [] X.env)).all (fun x=>x.1.isSome)&&decide (([e]:List Expr).length+([]:List Keyword).length+(if ([]:List Keyword).isEmpty then 0 else 1)<30))=true:=by rfl)
  (hline:(apos.endLine==cpos.line)=true:=by rfl) (hs:starEach [e] X.env=(false,eval e X.env)::starEach [] X.env:=by rfl) (hplain:(backTo cpos (starEach [] X.env)).any (·.1)=false:=by rfl):
  E X (.Call (.Attribute o "endswith" apos) [e] [] cpos) (tBM X.K "str" rEw to (agH te aiO)):=
 ⟨al5 PySem.F.plainAttrs_str PySem.F.slot_str_endswith PySem.F.type_str_endswith aJ0 ho.h (acB he.h adD hs) hbase hfew hline hs hplain⟩
end
end L2
namespace KM
open PySem PySem.Spec PyProof.Rows L2
def ab8(t:List Nat):Option Mk:=
 if t=[76] then some (.lst 0) else if t=[76,87] then some .wrk
 else if t.take ([76,45]:List Nat).length=[76,45] then (aaO 1 30 (acM t (some 2) none)).map Mk.lst
 else if t.getLast? =some 87 then (aaO 1 31 (acM t none (some (-1)))).map Mk.nea else none
def wdN(t:List Nat):Option Int:=(aaO 0 7 t).map fun n=>if n=7 then 0 else n
def ax1:Option Int->Option Int->Option Mk
 |some w,some m=>some (.nth w m)
 |_,_=>none
def ah4(t:List Nat):Option Mk:=
 if t.getLast? =some 76 then (wdN (acM t none (some (-1)))).map Mk.one
 else match spl 35 t with
  |[a,b]=>ax1 (wdN a) (aaO 1 5 b)
  |_=>none
def rdM(wk:Bool)(t:List Nat):Option Mk:=if wk=true then ah4 t else ab8 t
def MkV(c:Cs)(H:Hp)(v:V):Option Mk->Prop
 |none=>v=.non
 |some k=>∃x,v=.ref x/\MkAt c H x k
theorem abB(c:Nat):∀(l:List Nat),∀w∈spl c l,w.length<=l.length
 |[],w,hw=>by simp[spl] at hw;simp[hw]
 |x::r,w,hw=>by
  have ih:=abB c r
  unfold spl at hw
  split at hw
  ·rcases List.mem_cons.mp hw with z | z
   ·subst z;simp
   ·have:=ih w z;simp;omega
  ·split at hw
   ·rename_i h t e
    rcases List.mem_cons.mp hw with z | z
    ·subst z
     have:=ih h (by rw[e];simp)
     simp;omega
    ·have:=ih w (by rw[e];simp[z])
     simp;omega
   ·have:w=[x]:=by simpa using hw
    subst this;simp
def plP(lo hi:Int)(ws:List (List Nat)):List Int:=ws.filterMap (aaD lo hi)
def mkP(wk:Bool)(lo hi:Int)(ws:List (List Nat)):List Mk:=ws.filterMap fun w=>if (aaD lo hi w).isSome=true then none else rdM wk w
theorem atO{wk:Bool}{lo hi:Int}{ws:List (List Nat)}{w:List Nat}{k:Mk}(h:aaD lo hi w=none)(hk:rdM wk w=some k):mkP wk lo hi (ws++[w])=mkP wk lo hi ws++[k]:=by
 unfold mkP
 rw[List.filterMap_append]
 simp[h,hk]
structure ItemsOk(wk:Bool)(lo hi:Int)(l:List Nat):Prop where
 len:l.length<=300
 few:(spl 44 l).length<=40
 all:∀w∈spl 44 l,(aaD lo hi w).isSome=true∨(rdM wk w).isSome=true
 most:(mkP wk lo hi (spl 44 l)).length<=20
def RunV(H:Hp)(r:V):Option (Int×Int)->Prop
 |none=>r=.non
 |some (a,b)=>∃p,r=.ref p/\H p=some (.tup [.int a,.int b])
theorem aw2(es:List (Option Int)):(es.map oV).all aeB=true:=by
 rw[List.all_map]
 refine List.all_eq_true.mpr fun x _=>?_
 cases x<;>rfl
def wk7(m:Int):Int:=Builtin.bitAnd (Builtin.bitOr m (m / 2^(7:Int).toNat)) 127
def ax5(wk:Bool)(m:Int):List Mk:=if m=0 then [] else if wk=true then [.wkd (wk7 m)] else [.num m]
def ap7(wk:Bool)(lo hi:Int)(l:List Nat):List Mk:=ax5 wk (orM (plP lo hi (spl 44 l)))++mkP wk lo hi (spl 44 l)
def Cl(t:List Nat):Prop:=(44∉t/\32∉t)/\t≠[]/\t.length<=8
instance (t:List Nat):Decidable (Cl t):=by unfold Cl;exact inferInstance
def ac3(lo hi:Int)(t:List Nat)(ns:List Int):Prop:=aaD lo hi t=some (aa4 ns)/\Cl t/\(∀n∈ns,lo<=n/\n<=hi)/\ns≠[]/\ns.length<=64
theorem acQ{c:Nat}{a b:List Nat}{d:Nat}(h1:c∉a)(h2:c∉b)(h3:c≠d):c∉a++d::b:=by
 simp only[List.mem_append,List.mem_cons,not_or]
 exact⟨h1,h3,h2⟩
theorem akI{a b:List Nat}{d:Nat}(ha:(44∉a/\32∉a)/\a≠[]/\a.length<=5)(hb:(44∉b/\32∉b)/\b.length<=2)(h1:44≠d)(h2:32≠d):Cl (a++d::b):=by
 refine⟨⟨acQ ha.1.1 hb.1.1 h1,acQ ha.1.2 hb.1.2 h2⟩,by simp,?_⟩
 have:=ha.2.2
 have:=hb.2
 rw[List.length_append,List.length_cons]
 omega
theorem acW{n:Nat}(h:n<100):(44∉num n/\32∉num n)/\num n≠[]/\(num n).length<=2:=⟨⟨aa0 h (by decide),aa0 h (by decide)⟩,aAC n,(afK n h).2.2.2⟩
theorem aeO{a b s lo hi:Int}(h0:0<=a)(h1:b<=63)(hab:a<=b)(hs:0<s)(hl:lo<=a)(hb:b<=hi):(∀n∈ab5 a b s,lo<=n/\n<=hi)/\ab5 a b s≠[]/\(ab5 a b s).length<=64:=by
 refine⟨fun n hn=>?_,fun e=>?_,?_⟩
 ·have:=(agW hs).mp hn
  omega
 ·have:a∈ab5 a b s:=(agW hs).mpr ⟨Int.le_refl _,hab,by rw[Int.sub_self];rfl⟩
  rw[e] at this
  cases this
 ·rw[abV,List.length_map,List.length_range,agZ hs,if_pos hab]
  have:=Int.ediv_le_self (a:=b-a) s (by omega)
  omega
theorem at1(a:Int):ab5 a a 1=[a]:=by
 rw[abV,agZ (by decide),if_pos (Int.le_refl a),Int.sub_self]
 show [a+((0:Nat):Int)*1]=[a]
 simp
theorem i1{lo hi a:Int}(h0:0<=lo)(h1:lo<=a)(h2:a<=hi)(h3:hi<=63):ac3 lo hi (num a.toNat) [a]:=by
 have ha:a.toNat<100:=by omega
 have e:=aoC (lo:=lo) (hi:=hi) ha (by omega) (by omega)
 rw[Int.toNat_of_nonneg (by omega)] at e
 have c:=acW ha
 have r:=aeO (a:=a) (b:=a) (s:=1) (lo:=lo) (hi:=hi) (by omega) (by omega) (by omega) (by decide) h1 h2
 have e2:=ag1 (aa0 ha (by decide)) e
 unfold ad1 at e2
 rw[at1] at e2 r
 exact⟨e2,⟨c.1,c.2.1,by have:=c.2.2;omega⟩,r⟩
theorem i2{lo hi a b:Int}(h0:0<=lo)(h1:lo<=a)(h2:a<=b)(h4:b<=hi)(h3:hi<=63):ac3 lo hi (num a.toNat++45::num b.toNat) (ab5 a b 1):=by
 have ha:a.toNat<100:=by omega
 have hb:b.toNat<100:=by omega
 have e:=aoA (lo:=lo) (hi:=hi) ha hb (by omega) (by omega) (by omega)
 rw[Int.toNat_of_nonneg (by omega),Int.toNat_of_nonneg (by omega)] at e
 have ca:=acW ha
 have cb:=acW hb
 exact⟨ag1 (acQ (aa0 ha (by decide)) (aa0 hb (by decide)) (by decide)) e,akI ⟨ca.1,ca.2.1,by have:=ca.2.2;omega⟩ ⟨cb.1,cb.2.2⟩ (by decide) (by decide),aeO (by omega) (by omega) h2 (by decide) h1 h4⟩
theorem i0{lo hi:Int}(h0:0<=lo)(h1:lo<=hi)(h3:hi<=63):ac3 lo hi [42] (ab5 lo hi 1):=
 ⟨ag1 (by decide) amK,by decide,aeO h0 h3 h1 (by decide) (Int.le_refl _) (Int.le_refl _)⟩
theorem i3{lo hi s:Int}(h0:0<=lo)(h1:lo<=hi)(h3:hi<=63)(hs:1<=s/\s<=99):ac3 lo hi ([42]++47::num s.toNat) (ab5 lo hi s):=by
 have hs':s.toNat<100:=by omega
 have e:=ahB (show 47∉[42] by decide) (amK (lo:=lo) (hi:=hi)) hs' (by omega)
 rw[if_neg (by decide),Int.toNat_of_nonneg (by omega)] at e
 have cs:=acW hs'
 exact⟨e,akI (by decide) ⟨cs.1,cs.2.2⟩ (by decide) (by decide),aeO h0 h3 h1 (by omega) (Int.le_refl _) (Int.le_refl _)⟩
theorem i4{lo hi a s:Int}(h0:0<=lo)(h1:lo<=a)(h2:a<=hi)(h3:hi<=63)(hs:1<=s/\s<=99):ac3 lo hi (num a.toNat++47::num s.toNat) (ab5 a hi s):=by
 have ha:a.toNat<100:=by omega
 have hs':s.toNat<100:=by omega
 have e1:=aoC (lo:=lo) (hi:=hi) ha (by omega) (by omega)
 have e:=ahB (aa0 ha (by decide)) e1 hs' (by omega)
 rw[if_pos (afK _ ha).1,Int.toNat_of_nonneg (by omega),Int.toNat_of_nonneg (by omega)] at e
 have ca:=acW ha
 have cs:=acW hs'
 exact⟨e,akI ⟨ca.1,ca.2.1,by have:=ca.2.2;omega⟩ ⟨cs.1,cs.2.2⟩ (by decide) (by decide),aeO (by omega) h3 h2 (by omega) h1 (Int.le_refl _)⟩
theorem i5{lo hi a b s:Int}(h0:0<=lo)(h1:lo<=a)(h2:a<=b)(h4:b<=hi)(h3:hi<=63)(hs:1<=s/\s<=99):ac3 lo hi ((num a.toNat++45::num b.toNat)++47::num s.toNat) (ab5 a b s):=by
 have ha:a.toNat<100:=by omega
 have hb:b.toNat<100:=by omega
 have hs':s.toNat<100:=by omega
 have e1:=aoA (lo:=lo) (hi:=hi) ha hb (by omega) (by omega) (by omega)
 have e:=ahB (acQ (aa0 ha (by decide)) (aa0 hb (by decide)) (by decide)) e1 hs' (by omega)
 rw[if_neg (by rw[aAV (c:=45) (by simp) (by decide)];exact Bool.false_ne_true),Int.toNat_of_nonneg (by omega),Int.toNat_of_nonneg (by omega),Int.toNat_of_nonneg (by omega)] at e
 have ca:=acW ha
 have cb:=acW hb
 have cs:=acW hs'
 refine⟨e,akI ⟨⟨acQ ca.1.1 cb.1.1 (by decide),acQ ca.1.2 cb.1.2 (by decide)⟩,by simp,?_⟩ ⟨cs.1,cs.2.2⟩ (by decide) (by decide),aeO (by omega) (by omega) h2 (by omega) h1 h4⟩
 have:=ca.2.2
 have:=cb.2.2
 rw[List.length_append,List.length_cons]
 omega
theorem aCK:∀{zs:List Int},zs.Pairwise (·<·)->(∀z∈zs,0<=z)->∀i,0<=adL zs/\tb (adL zs) i=zs.any fun z=>decide (z.toNat=i):=by
 intro zs hp hn i
 have key:∀(n:Nat) (ys:List Int),ys.length=n->ys.Pairwise (·<·)->(∀z∈ys,0<=z)->adL ys=aa4 ys:=by
  intro n
  induction n with
  |zero=>intro ys h _ _;rw[List.length_eq_zero_iff.mp h];rfl
  |succ n ih=>
   intro ys hl hp hn
   rcases List.eq_nil_or_concat ys with rfl | ⟨r,z,rfl⟩
   ·cases hl
   rw[List.concat_eq_append] at hl hp hn ⊢
   have hpa:=List.pairwise_append.mp hp
   have er:=ih r (by rw[List.length_append,List.length_singleton] at hl;omega) hpa.1 fun x hx=>hn x (List.mem_append_left _ hx)
   have hz:=hn z (List.mem_append_right _ (List.mem_singleton.mpr rfl))
   have hb:tb (aa4 r) z.toNat=false:=by
    rw[abF,List.any_eq_false]
    intro x hx
    have h1:=hpa.2.2 x hx z (List.mem_singleton.mpr rfl)
    have h2:=hn x (List.mem_append_left _ hx)
    have:¬x.toNat=z.toNat:=by omega
    simpa using this
   have e1:adL (r++[z])=adL r+1*2^z.toNat:=by unfold adL;rw[List.map_append,List.sum_append];show _+(1*2^z.toNat+0)=_;omega
   have hnn:=aa8 r
   have hp2:=Int.le_of_lt (ahD z.toNat)
   rw[e1,er,ahY]
   refine acJ (by omega) (alC hnn (by omega)) fun j=>?_
   have e3:(1*2^z.toNat:Int)=2^z.toNat:=by omega
   have hz0:Builtin.bitAnd (aa4 r) (2^z.toNat)=0:=by
    refine acJ (arB hnn hp2) (Int.le_refl 0) fun k=>?_
    rw[apO hnn hp2,aq4,acC]
    by_cases c:z.toNat=k
    ·subst c;rw[hb];rfl
    ·simp[c]
   have ea:aa4 r+2^z.toNat=Builtin.bitOr (aa4 r) (2^z.toNat):=by rw[bitOr_and,hz0];omega
   rw[e3,ea]
 rw[key _ zs rfl hp hn]
 exact⟨aa8 _,abF _ _⟩
theorem adT{zs ns:List Int}(hp:zs.Pairwise (·<·))(hm:∀x,x∈zs↔x∈ns)(hn:∀n∈ns,0<=n):adL zs=aa4 ns:=by
 have h:=aCK hp fun z hz=>hn z ((hm z).mp hz)
 refine acJ (h 0).1 (aa8 _) fun i=>?_
 rw[(h i).2,abF,Bool.eq_iff_iff,List.any_eq_true,List.any_eq_true]
 exact⟨fun ⟨z,hz,e⟩=>⟨z,(hm z).mp hz,e⟩,fun ⟨z,hz,e⟩=>⟨z,(hm z).mpr hz,e⟩⟩
theorem acX{m:Int}(h:0<=m)(i:Nat):0<=wk7 m/\tb (wk7 m) i=((tb m i||tb m (7+i))&&decide (i<7)):=by
 have h1:(0:Int)<=m / 2^(7:Int).toNat:=Int.ediv_nonneg h (by decide)
 unfold wk7
 refine⟨arB (alC h h1) (by decide),?_⟩
 rw[apO (alC h h1) (by decide),arL h h1,aDX h]
 have e:tb 127 i=decide (i<7):=auY 7 i
 rw[e]
 rfl
theorem amI{ms:List Int}(h:∀m∈ms,0<=m):orM ms=0↔∀m∈ms,m=0:=by
 constructor
 ·intro e m hm
  refine acJ (h m hm) (Int.le_refl 0) fun i=>?_
  have z:=aeM h i
  rw[e,acC] at z
  have:=List.any_eq_false.mp z.symm m hm
  rw[acC]
  simpa using this
 ·intro e
  refine acJ (aeP h) (Int.le_refl 0) fun i=>?_
  rw[aeM h,acC,List.any_eq_false]
  intro m hm
  rw[e m hm,acC]
  exact Bool.false_ne_true
theorem apW{ms:List Int}(h:∀m∈ms,0<=m):wk7 (orM ms)=orM (ms.map wk7):=by
 have h':∀m∈ms.map wk7,0<=m:=fun m hm=>by
  obtain⟨z,hz,rfl⟩:=List.mem_map.mp hm
  exact (acX (h z hz) 0).1
 refine acJ (acX (aeP h) 0).1 (aeP h') fun i=>?_
 rw[(acX (aeP h) i).2,aeM h,aeM h,aeM h',List.any_map,Bool.eq_iff_iff]
 simp only[Bool.and_eq_true,Bool.or_eq_true,List.any_eq_true,decide_eq_true_eq,Function.comp]
 constructor
 ·rintro⟨⟨m,hm,e⟩ | ⟨m,hm,e⟩,hi⟩
  ·exact⟨m,hm,by rw[(acX (h m hm) i).2,e,decide_eq_true hi];rfl⟩
  ·exact⟨m,hm,by rw[(acX (h m hm) i).2,e,decide_eq_true hi,Bool.or_true];rfl⟩
 ·rintro⟨m,hm,e⟩
  rw[(acX (h m hm) i).2,Bool.and_eq_true,Bool.or_eq_true,decide_eq_true_eq] at e
  rcases e with ⟨e | e,hi⟩
  ·exact⟨.inl ⟨m,hm,e⟩,hi⟩
  ·exact⟨.inr ⟨m,hm,e⟩,hi⟩
theorem aGB{m:Int}(h0:0<m)(h1:m<=255):wk7 m≠0/\0<=wk7 m/\wk7 m<=127:=by
 have all:∀n:Nat,n<256->0<n->wk7 (n:Int)≠0/\0<=wk7 (n:Int)/\wk7 (n:Int)<=127:=by decide +kernel
 have e:m=((m.toNat:Nat):Int):=by omega
 rw[e]
 exact all m.toNat (by omega) (by omega)
def SpT(b:Bool)(t:List Nat):Mk->Prop
 |.num m=>b=false/\aaD 1 31 t=some m/\0<m
 |.wkd m=>b=true/\∃M,aaD 0 7 t=some M/\(0<M/\M<=255)/\m=wk7 M
 |.nil=>False
 |k=>aaD (if b=true then 0 else 1) (if b=true then 7 else 31) t=none/\rdM b t=some k
theorem aqP:SpT false [76] (.lst 0)/\Cl [76]:=by
 refine⟨⟨?_,?_⟩,by decide⟩<;>decide +kernel
theorem apR:SpT false [76,87] .wrk/\Cl [76,87]:=by
 refine⟨⟨?_,?_⟩,by decide⟩<;>decide +kernel
theorem ay8:∀n:Nat,n<31->1<=n->(aaD 1 31 ([76,45]++num n)=none/\rdM false ([76,45]++num n)=some (.lst n))/\Cl ([76,45]++num n):=by decide +kernel
theorem aCU:∀n:Nat,n<32->1<=n->(aaD 1 31 (num n++[87])=none/\rdM false (num n++[87])=some (.nea n))/\Cl (num n++[87]):=by decide +kernel
theorem aHV:∀n:Nat,n<8->(aaD 0 7 (num n++[76])=none/\rdM true (num n++[76])=some (.one ((n:Int)%7)))/\Cl (num n++[76]):=by decide +kernel
theorem aHW:∀n:Nat,n<8->∀m:Nat,m<6->1<=m->(aaD 0 7 (num n++[35]++num m)=none/\rdM true (num n++[35]++num m)=some (.nth ((n:Int)%7) m))/\Cl (num n++[35]++num m):=by decide +kernel
theorem avI{zs ns:List Int}(hp:zs.Pairwise (·<·))(hm:∀x,x∈zs↔x∈ns.map fun d=>d%7)(hn:∀n∈ns,0<=n/\n<=7):adL zs=wk7 (aa4 ns):=by
 rw[adT hp hm fun n hn'=>by obtain⟨d,_,rfl⟩:=List.mem_map.mp hn';show 0<=d%7;omega]
 refine acJ (aa8 _) (acX (aa8 _) 0).1 fun i=>?_
 rw[(acX (aa8 ns) i).2,abF,abF,abF,Bool.eq_iff_iff]
 simp only[Bool.and_eq_true,Bool.or_eq_true,List.any_eq_true,decide_eq_true_eq,List.mem_map]
 constructor
 ·rintro⟨_,⟨d,hd,rfl⟩,e⟩
  have:=hn d hd
  by_cases c:d=7
  ·exact⟨.inr ⟨d,hd,by omega⟩,by omega⟩
  ·exact⟨.inl ⟨d,hd,by omega⟩,by omega⟩
 ·rintro⟨⟨d,hd,e⟩ | ⟨d,hd,e⟩,hi⟩
  ·have:=hn d hd
   exact⟨d%7,⟨d,hd,rfl⟩,by omega⟩
  ·have:=hn d hd
   exact⟨d%7,⟨d,hd,rfl⟩,by omega⟩
theorem adW{ns:List Int}(h:ns≠[])(hn:∀n∈ns,0<=n):0<aa4 ns:=by
 have h0:=aa8 ns
 rcases Int.lt_or_eq_of_le h0 with h1 | h1
 ·exact h1
 ·cases ns with
  |nil=>exact absurd rfl h
  |cons n r=>
   have z:=abF (n::r) n.toNat
   rw[←h1,acC,List.any_cons] at z
   simp at z
theorem aeY{ns:List Int}{n:Nat}(hn:∀z∈ns,0<=z/\z<(n:Int)):aa4 ns<2^n:=by
 have e:aa4 ns=mk_ (tb (aa4 ns)) n:=by
  refine acJ (aa8 _) (axK _ _) fun i=>?_
  rw[ax2]
  by_cases c:i<n
  ·rw[decide_eq_true c,Bool.true_and]
  ·rw[decide_eq_false c,Bool.false_and,abF,List.any_eq_false]
   intro z hz
   have:=hn z hz
   have:¬z.toNat=i:=by omega
   simpa using this
 rw[e]
 exact ax6 _ _
end KM
namespace L2
open PySem PySem.Spec PyProof.Rows PySem.SeqAt
section
variable{X:Cx}
theorem cIn:Cl1 X (.builtin "isinstance") (fun xs H Q=>∃(v:V) (t:Value) (C':Addr) (b:Bool),xs=[v,.ref C']/\TyOf X.K H v t/\PySem.W.kitOne X.K t (.ref C')=some b/\Q (.bl b) H):=by
 refine⟨fun pins s σ H xs us Q I r h=>?_⟩
 obtain⟨v,t,C',b,rfl,ty,e,q⟩:=h
 obtain⟨u,w',rfl,r1,r2⟩:=ag4 r
 cases r2
 exact apK I r1 ty e fun tk=>⟨.bl b,H,I.tok _,rfl,q⟩
structure IsC(K:PySem.W.Frag)(C:Addr):Prop where
 ha:PySem.W.findIn K (.ref C) "__class__"=some (some (.builtin "object.__class__"))
 hn:PySem.W.specialIn K (.builtin "object.__class__") "__get__"=some (some (.builtin "getset_descriptor.__get__"))
 htk:PySem.W.takesIn K (.builtin "object.__class__")=some true
 hm:PySem.W.mroIn K C (.type "object")=some true
theorem IsC.ty{K:PySem.W.Frag}{C a dx:Addr}{H:Hp}{fs:List (Str×V)}(i:IsC K C)(c:Cls K C)(h:H a=some (.ins C dx fs)):TyOf K H (.ref a) (.ref C):=.ins h c i.ha i.hn i.htk i.hm
end
end L2
namespace KM
open PySem PySem.Spec PyProof.Rows L2
def TpAt(b:Bool)(H:Hp)(u:Addr)(k:Mk):Prop:=H u=some (.tup k.tup)/\k.sp=true/\k.wk=b/\k.ok
theorem TpAt.keep{b:Bool}{H H':Hp}(s:Keep H H'){u:Addr}{k:Mk}(h:TpAt b H u k):TpAt b H' u k:=⟨s.tup h.1,h.2⟩
theorem Ft.keepT{b:Bool}{H H':Hp}(s:Keep H H'){ps:List Addr}{ks:List Mk}(h:Ft (TpAt b H) ps ks):Ft (TpAt b H') ps ks:=Paired.imp' (fun _ _ z=>z.keep s) h
theorem Ft.okT{b:Bool}{H:Hp}:∀{ps:List Addr} {ks:List Mk},Ft (TpAt b H) ps ks->∀k∈ks,k.sp=true/\k.wk=b/\k.ok
 |_,_,.nil,k,hk=>nomatch hk
 |_,_,.cons r t,k,hk=>by
  rcases List.mem_cons.mp hk with rfl | hk
  ·exact r.2
  ·exact Ft.okT t k hk
def Mk.pl:Mk->Option Int
 |.num m=>some m
 |.wkd m=>some m
 |_=>none
def plK(ks:List Mk):List Int:=ks.filterMap Mk.pl
def otK(ks:List Mk):List Mk:=ks.filter fun k=>k.pl.isNone
def axQ(b:Bool)(M:Int):List Mk:=if M=0 then [] else if b=true then [.wkd M] else [.num M]
def aAK(b:Bool)(ks:List Mk):List Mk:=axQ b (orM (plK ks))++otK ks
theorem orM_lt{ms:List Int}{n:Nat}(h:∀m∈ms,0<=m/\m<2^n):orM ms<2^n:=by
 have h0:∀m∈ms,0<=m:=fun m hm=>(h m hm).1
 have e:orM ms=mk_ (tb (orM ms)) n:=by
  refine acJ (aeP h0) (axK _ _) fun i=>?_
  rw[ax2]
  by_cases c:i<n
  ·rw[decide_eq_true c,Bool.true_and]
  ·rw[decide_eq_false c,Bool.false_and,aeM h0,List.any_eq_false]
   intro m hm
   rw[an2 (h m hm).2 (by omega)]
   exact Bool.false_ne_true
 rw[e]
 exact ax6 _ _
abbrev Ws(b:Bool):List (List Nat)->List Mk->Prop:=Paired fun w k=>Cl w/\SpT b w k
def lo_(b:Bool):Int:=if b=true then 0 else 1
def hi_(b:Bool):Int:=if b=true then 7 else 31
theorem ar8(k:Mk)(ks:List Mk):plK (k::ks)=(match k.pl with | some m=>m::plK ks | none=>plK ks)/\otK (k::ks)=(match k.pl with | some _=>otK ks | none=>k::otK ks):=by
 unfold plK otK
 rw[List.filterMap_cons,List.filter_cons]
 cases k.pl<;>exact⟨rfl,rfl⟩
theorem av1(b:Bool)(lo hi:Int)(w:List Nat)(ws:List (List Nat)):plP lo hi (w::ws)=(match aaD lo hi w with | some m=>m::plP lo hi ws | none=>plP lo hi ws)/\mkP b lo hi (w::ws)=(match aaD lo hi w with | some _=>mkP b lo hi ws | none=>match rdM b w with | some k=>k::mkP b lo hi ws | none=>mkP b lo hi ws):=by
 unfold plP mkP
 rw[List.filterMap_cons,List.filterMap_cons]
 cases aaD lo hi w with
 |some m=>exact⟨rfl,rfl⟩
 |none=>exact⟨rfl,by cases rdM b w<;>rfl⟩
def WsI(b:Bool)(ws:List (List Nat))(ks:List Mk):Prop:=mkP b (lo_ b) (hi_ b) ws=otK ks/\plK ks=(plP (lo_ b) (hi_ b) ws).map (fun m=>if b=true then wk7 m else m)/\(∀m∈plP (lo_ b) (hi_ b) ws,0<m/\(b=true->m<=255))/\∀w∈ws,(aaD (lo_ b) (hi_ b) w).isSome=true∨(rdM b w).isSome=true
theorem aqQ(b:Bool):∀{ws:List (List Nat)} {ks:List Mk},Ws b ws ks->WsI b ws ks
 |_,_,.nil=>⟨rfl,rfl,fun m hm=>(nomatch hm),fun w hw=>(nomatch hw)⟩
 |w::ws,k::ks,.cons r t=>by
  obtain⟨i1,i2,i3,i4⟩:=aqQ b t
  have c1:=ar8 k ks
  have c2:=av1 b (lo_ b) (hi_ b) w ws
  have plain:∀(m M:Int),k.pl=some m->aaD (lo_ b) (hi_ b) w=some M->(m=if b=true then wk7 M else M)->(0<M/\(b=true->M<=255))->WsI b (w::ws) (k::ks):=fun m M e1 e2 e3 e4=>by
   unfold WsI
   rw[e1] at c1
   rw[e2] at c2
   rw[c1.1,c1.2,c2.1,c2.2]
   refine⟨i1,by rw[List.map_cons,←e3,←i2],fun z hz=>?_,fun v hv=>?_⟩
   ·rcases List.mem_cons.mp hz with rfl | hz
    ·exact e4
    ·exact i3 z hz
   ·rcases List.mem_cons.mp hv with rfl | hv
    ·exact .inl (by rw[e2];rfl)
    ·exact i4 v hv
  have mark:k.pl=none->aaD (lo_ b) (hi_ b) w=none->rdM b w=some k->WsI b (w::ws) (k::ks):=fun e1 e2 e3=>by
   unfold WsI
   rw[e1] at c1
   rw[e2,e3] at c2
   rw[c1.1,c1.2,c2.1,c2.2]
   refine⟨by rw[i1],i2,i3,fun v hv=>?_⟩
   rcases List.mem_cons.mp hv with rfl | hv
   ·exact .inr (by rw[e3];rfl)
   ·exact i4 v hv
  cases k with
  |num m=>
   obtain⟨_,hb,hr,h0⟩:=r
   subst hb
   exact plain m m rfl hr rfl ⟨h0,fun z=>nomatch z⟩
  |wkd m=>
   obtain⟨_,hb,M,hr,h0,hm⟩:=r
   subst hb
   exact plain m M rfl hr hm ⟨h0.1,fun _=>h0.2⟩
  |lst z=>exact mark rfl r.2.1 r.2.2
  |nea z=>exact mark rfl r.2.1 r.2.2
  |wrk=>exact mark rfl r.2.1 r.2.2
  |nth z y=>exact mark rfl r.2.1 r.2.2
  |one z=>exact mark rfl r.2.1 r.2.2
  |nil=>exact r.2.elim
theorem aqT{b:Bool}{ws:List (List Nat)}{ks:List Mk}{l:List Nat}(h:Ws b ws ks)(hl:spl 44 l=ws):ap7 b (lo_ b) (hi_ b) l=aAK b ks:=by
 obtain⟨i1,i2,i3,_⟩:=aqQ b h
 have hz:∀m∈plP (lo_ b) (hi_ b) ws,0<=m:=fun m hm=>Int.le_of_lt (i3 m hm).1
 unfold ap7 aAK
 rw[hl,i1,i2]
 congr 1
 cases b with
 |false=>
  have e:(plP (lo_ false) (hi_ false) ws).map (fun m=>if false=true then wk7 m else m)=plP (lo_ false) (hi_ false) ws:=List.map_id'' (fun _=>rfl) _
  rw[e]
  rfl
 |true=>
  have e:orM ((plP (lo_ true) (hi_ true) ws).map (fun m=>if true=true then wk7 m else m))=wk7 (orM (plP (lo_ true) (hi_ true) ws)):=(apW hz).symm
  rw[e]
  unfold ax5 axQ
  by_cases c:orM (plP (lo_ true) (hi_ true) ws)=0
  ·rw[if_pos c,c]
   rfl
  ·have c2:¬wk7 (orM (plP (lo_ true) (hi_ true) ws))=0:=fun z=>c (by
    rw[apW hz] at z
    have h0:∀m∈(plP (lo_ true) (hi_ true) ws).map wk7,0<=m:=fun m hm=>by
     obtain⟨y,hy,rfl⟩:=List.mem_map.mp hm
     exact (acX (hz y hy) 0).1
    rw[amI hz]
    intro m hm
    have:=(amI h0).mp z (wk7 m) (List.mem_map.mpr ⟨m,hm,rfl⟩)
    exact absurd this (aGB (i3 m hm).1 ((i3 m hm).2 rfl)).1)
   rw[if_neg c,if_neg c2]
   rfl
theorem adN:∀(ws:List (List Nat)),(∀w∈ws,w.length<=8)->(aaF 44 ws).length<=9*ws.length
 |[],_=>Nat.zero_le _
 |[w],h=>by
  have:=h w (List.mem_cons_self ..)
  show w.length<=9
  omega
 |w::v::ws,h=>by
  have ih:=adN (v::ws) fun z hz=>h z (List.mem_cons_of_mem _ hz)
  have:=h w (List.mem_cons_self ..)
  show (w++44::aaF 44 (v::ws)).length<=_
  rw[List.length_append,List.length_cons,List.length_cons]
  omega
theorem Ws.cl{b:Bool}:∀{ws:List (List Nat)} {ks:List Mk},Ws b ws ks->∀w∈ws,Cl w
 |_,_,.nil,w,hw=>nomatch hw
 |_,_,.cons r t,w,hw=>by
  rcases List.mem_cons.mp hw with rfl | hw
  ·exact r.1
  ·exact Ws.cl t w hw
theorem axH{b:Bool}{ws:List (List Nat)}{ks:List Mk}(h:Ws b ws ks)(hne:ws≠[])(hn:ws.length<=20):spl 44 (aaF 44 ws)=ws/\ItemsOk b (lo_ b) (hi_ b) (aaF 44 ws):=by
 have hs:=abN 44 ws hne fun w hw=>(h.cl w hw).1.1
 have hl:=adN ws fun w hw=>(h.cl w hw).2.2
 refine⟨hs,by omega,by rw[hs];omega,?_,?_⟩
 ·rw[hs]
  exact (aqQ b h).2.2.2
 ·rw[hs]
  exact Nat.le_trans (List.length_filterMap_le ..) hn
theorem ajG(c:Nat):∀(a b:List (List Nat)),a≠[]->b≠[]->aaF c (a++b)=aaF c a++c::aaF c b
 |[],_,h,_=>absurd rfl h
 |[p],b,_,hb=>by
  cases b with
  |nil=>exact absurd rfl hb
  |cons q r=>rfl
 |p::q::r,b,_,hb=>by
  have ih:=ajG c (q::r) b (by simp) hb
  show p++c::aaF c ((q::r)++b)=(p++c::aaF c (q::r))++c::aaF c b
  rw[ih]
  simp
def PrT(H:Hp)(ts:List Addr)(prs:List (Nat×Nat)):Prop:=Paired (fun (t:Addr) (pr:Nat×Nat)=>H t=some (.tup [.int pr.1,.int pr.2])) ts prs
theorem PrT.keep{H H':Hp}{ts:List Addr}{prs:List (Nat×Nat)}(h:PrT H ts prs)(k:Keep H H'):PrT H' ts prs:=Paired.mapP h fun _ _ z=>k.tup z
theorem Paired.at{α β:Type}{F:α->β->Prop}:∀{l:List α} {r:List β} {i:Nat} {a:α},Paired F l r->l[i]? =some a->∃b,r[i]? =some b/\F a b
 |_,_,_,_,.nil,e=>by simp at e
 |_,_,0,_,.cons h _,e=>by
  have:=Option.some.inj e
  subst this
  exact⟨_,rfl,h⟩
 |_,_,i+1,_,.cons _ t,e=>Paired.at (i:=i) t e
def rt(x:Nat×Nat):List Nat:=if x.1=x.2 then num x.1 else num x.1++45::num x.2
theorem ak9{α:Type}{p q:α->Bool}:∀{l:List α},(∀x∈l,p x=q x)->l.any p=l.any q
 |[],_=>rfl
 |x::r,h=>by rw[List.any_cons,List.any_cons,h x (List.mem_cons_self ..),ak9 fun y hy=>h y (List.mem_cons_of_mem _ hy)]
end KM
namespace L2
open PySem PySem.Spec PyProof.Rows
section
variable{X:Cx}{f:Addr}{k k':Nat}{ps:List Str}{sp:Sp}{x y e:Expr}{es:List Expr}{t:TA}{tv:TE}{p pos:Pos}
end
section
variable{X:Cx}{C:Addr}{m:Str}{k k':Nat}{ps:List Str}{sp:Sp}{o:Expr}{ta:TE}{apos pos:Pos}
end
section
variable{X:Cx}{body:List Stmt}{tb:TS}{h:ExceptHandler}{hs:List ExceptHandler}{pos:Pos}
end
section
variable{js:List Nat}{σ:St}{tt:TT}{te:TE}{Q:VK}{H1:Hp}
theorem anC{K K':PySem.W.Frag}{a:Addr}{xs:List V}(R:Addr->Nat->List V->Hp->Prop)(hm:∀D i l H l',R D i l H->R D i l (upd H D (.lst l')))(hS:∀D i l H H',Same H H'->R D i l H->R D i l H')(hn:xs.length<=sizeLine)(h0:∀D,H1 D=none->R D 0 [] H1)(hq:SqL K H1 a xs)
  (hs:∀(i:Nat) (x:V) (l:List V) (D:Addr) (H2:Hp) (E:V->Hp->Prop) (F:Hp->Prop),xs[i]? =some x->R D i l H2->H1 D=none->Same H1 H2->H2 D=some (.lst l)->(∀y H5,Same H2 H5->R D (i+1) (l++[y]) H5->E y H5)->(∀H4,Same H2 H4->R D (i+1) l H4->F H4)->
   tt (some (.int i)::some x::aaT js σ) H2 fun b H4=>if b=true then te (some (.int i)::some x::aaT js σ) H4 E else F H4)
  (hd:∀(D:Addr) (H2:Hp) (l:List V),R D xs.length l H2->H1 D=none->Same H1 H2->H2 D=some (.lst l)->Q (.ref D) H2):
  azG (Ite K a) 2 js (arP K' 2 (ajA (abS 0) (ajA (abS 1) atU))) σ tt te Q H1:=by
 intro D hD
 refine⟨fun i m H2=>m=xs.length-i/\i<=xs.length/\Same H1 H2/\∃l,H2 D=some (.lst l)/\l.length<=i/\R D i l H2,⟨xs.length,by simp,Nat.zero_le _,aaB hD _,[],aaA,Nat.le_refl _,hm _ _ _ _ _ (h0 D hD)⟩,?_⟩
 rintro i m H2 ⟨rfl,hi,s2,l,h2,hll,hR⟩
 by_cases hlt:i<xs.length
 ·refine .inr ⟨⟨xs,xs[i],s2.seq hq,by simp[hlt]⟩,fun v H3 y τ hτ=>?_⟩
  obtain⟨T,rfl,hT,ev⟩:=y
  obtain⟨x,hx,rfl⟩:=ev xs (s2.seq hq)
  have sT:=aaB hT (.tup [.int i,x])
  have s3:=s2.trans sT
  have h3:=sT _ _ h2
  obtain⟨t0,t1,rfl⟩:∃t0 t1,τ=[t0,t1]:=by
   match τ,hτ with
   |[a,b],_=>exact⟨a,b,rfl⟩
  have h:=hs i x l D _ (fun y H5=>∃ys,H5 D=some (.lst ys)/\ys.length<sizeLine/\∃m',m'<xs.length-i/\(m'=xs.length-(i+1)/\i+1<=xs.length/\Same H1 (upd H5 D (.lst (ys++[y])))/\∃l,(upd H5 D (.lst (ys++[y]))) D=some (.lst l)/\l.length<=i+1/\R D (i+1) l (upd H5 D (.lst (ys++[y]))))) (fun H4=>∃m',m'<xs.length-i/\(m'=xs.length-(i+1)/\i+1<=xs.length/\Same H1 H4/\∃l,H4 D=some (.lst l)/\l.length<=i+1/\R D (i+1) l H4)) hx (hS _ _ _ _ _ sT hR) hD s3 h3
   (fun z H5 s5 r5=>by
    refine⟨l,s5 _ _ h3,Nat.lt_of_le_of_lt hll (Nat.lt_of_lt_of_le hlt hn),xs.length-(i+1),by omega,rfl,hlt,fun b o hb=>?_,l++[z],aaA,by rw[List.length_append,List.length_singleton];omega,hm _ _ _ _ _ r5⟩
    rw[aaE (aaG hb hD)]
    exact s5 _ _ (s3 _ _ hb))
   (fun H4 s4 r4=>⟨xs.length-(i+1),by omega,rfl,hlt,s3.trans s4,l,s4 _ _ h3,by omega,r4⟩)
  exact⟨T,[.int i,x],rfl,SqT.of aaA,rfl,.int i,[x],rfl,x,[],rfl,rfl,⟨[some (.int i),some x],rfl,rfl⟩,h⟩
 ·have e:i=xs.length:=by omega
  subst e
  exact .inl ⟨⟨xs,s2.seq hq,rfl⟩,hd D H2 l hR hD s2 h2⟩
end
def KD(K:PySem.W.Frag)(a:Addr)(kvs:List (Int×V)):Prop:=
 ∃(es:Array DictEntry) (ep:Nat) (vs:List (Key×Value)),K.lookup a=some ⟨.type "dict",none,.dict es ep,#[]⟩/\KV (kvs.map fun x=>((Sum.inl x.1:Key),x.2)) vs/\(vs.map (·.1)).Nodup/\∀(P:Program) (w:World),KeysOf (abW P w) es/\PySem.Pairs (abW P w) es.toList vs
def aA4(K:PySem.W.Frag)(td ty:TE):TE:=fun σ H Q=>td σ H fun x H1=>ty σ H1 fun y H2=>∃a kvs k v,x=.ref a/\KD K a kvs/\y=.int k/\kvs.lookup k=some v/\Q v H2
theorem axV{k:Int}{v:V}:∀{kvs:List (Int×V)} {vs:List (Key×Value)},KV (kvs.map fun x=>((Sum.inl x.1:Key),x.2)) vs->kvs.lookup k=some v->∃w',valueAt vs (Sum.inl k:Key)=some w'/\RelV v w'
 |[],_,_,h=>by cases h
 |(k0,v0)::r,_,.cons (b:=(k1,w1)) h t,hl=>by
  obtain⟨e1,e2⟩:=h
  have e1:(Sum.inl k0:Key)=k1:=e1
  subst e1
  rw[List.lookup_cons] at hl
  unfold valueAt
  by_cases c:k=k0
  ·subst c
   rw[show (k==k)=true from beq_self_eq_true k] at hl
   cases hl
   refine⟨w1,?_,e2⟩
   rw[List.find?_cons_of_pos (by simp)]
   rfl
  ·rw[show (k==k0)=false from beq_false_of_ne c] at hl
   obtain⟨w',h1,h2⟩:=axV t hl
   refine⟨w',?_,h2⟩
   rw[List.find?_cons_of_neg (by simp;exact fun z=>c z.symm)]
   exact h1
section
variable{X:Cx}{o i:Expr}{td ty:TE}{pos:Pos}
theorem eDgK(ho:E X o td)(hi:E X i ty)(hs:aGJ i:=by intro _ _;rfl):E X (.Subscript o i pos) (aA4 X.K td ty):=by
 refine⟨fun pins s σ H Q I h=>?_⟩
 refine asQ PySem.F.slot_dict_getitem.lookup hs (thn (ho.h pins s σ H _ I h) fun u s1 ⟨x,H1,I1,rx,q1⟩=>thn (hi.h pins s1 σ H1 _ I1 q1) fun iv s2 ⟨y,H2,I2,ry,a,kvs,k,v,ex,hk,ey,l,q2⟩=>?_)
 subst ex
 subst ey
 obtain rfl:u=Value.ref a:=rx
 obtain⟨es,ep,vs,lk,kv,nd,kp⟩:=hk
 obtain⟨k1,k2⟩:=kp X.prog X.w
 have dd:s2.heap.DictOf (abW X.prog X.w) a vs:=⟨_,es,ep,I2.kIn _ _ lk,⟨rfl,rfl,rfl⟩,rfl,k1,k2,nd⟩
 obtain⟨w',hw,rw'⟩:=axV kv l
 exact⟨dd.typeIs,wpAny_getItem_of (axI (k:=Sum.inl k) ry) dd.mapOf hw ⟨v,H2,I2.tok _,rw',q2⟩⟩
end
end L2
namespace KM
open PySem PySem.Spec PyProof.Rows L2
def DV(c:Cs)(H:Hp)(v:V):Option (List Mk)->Prop
 |none=>v=.non
 |some ks=>∃p qs,v=.ref p/\H p=some (.lst (qs.map V.ref))/\Ft (MkAt c H) qs ks/\∀k∈ks,k.ok
theorem DV.keep{c:Cs}{H H':Hp}(s:Same H H'){v:V}:∀{ko:Option (List Mk)},DV c H v ko->DV c H' v ko
 |none,h=>h
 |some _,⟨p,qs,e,h1,h2,h3⟩=>⟨p,qs,e,s _ _ h1,h2.keepM s.keep,h3⟩
def DT(b:Bool)(t:List Nat)(ko:Option (List Mk)):Prop:=(32∉t/\t≠[])/\ItemsOk b (lo_ b) (hi_ b) t/\match ko with
 |none=>t=[42]
 |some ks=>t≠[42]/\(∀k∈ks,k.sp=true/\k.wk=b/\k.ok)/\ap7 b (lo_ b) (hi_ b) t=aAK b ks
theorem afW{c d:Nat}(hcd:c≠d):∀{ws:List (List Nat)},(∀w∈ws,c∉w)->c∉aaF d ws
 |[],_=>List.not_mem_nil
 |[w],h=>h w (List.mem_cons_self ..)
 |w::v::ws,h=>by
  show c∉w++d::aaF d (v::ws)
  rw[List.mem_append,List.mem_cons,not_or,not_or]
  exact⟨h w (List.mem_cons_self ..),hcd,afW hcd fun z hz=>h z (List.mem_cons_of_mem _ hz)⟩
theorem aoM:∀{ws:List (List Nat)},ws≠[]->(∀w∈ws,w≠[])->∀d,aaF d ws≠[]
 |[],h,_,_=>absurd rfl h
 |[w],_,h,_=>h w (List.mem_cons_self ..)
 |w::v::ws,_,h,d=>fun e=>by
  have e:w++d::aaF d (v::ws)=[]:=e
  rw[List.append_eq_nil_iff] at e
  cases e.2
theorem aEE{b:Bool}{ws:List (List Nat)}{ks:List Mk}(h:Ws b ws ks)(hne:ws≠[])(hn:ws.length<=20)(hs:∀w∈ws,w≠[42])(ho:∀k∈ks,k.sp=true/\k.wk=b/\k.ok):DT b (aaF 44 ws) (some ks):=by
 have w:=axH h hne hn
 refine⟨⟨afW (by decide) fun x hx=>(h.cl x hx).1.2,aoM hne (fun x hx=>(h.cl x hx).2.1) 44⟩,w.2,fun e=>?_,ho,aqT h w.1⟩
 have e1:=w.1
 rw[e] at e1
 have e2:spl 44 [42]=[[42]]:=rfl
 rw[e2] at e1
 exact hs [42] (by rw[←e1];exact List.mem_singleton.mpr rfl) rfl
theorem auP(b:Bool):DT b [42] none:=by
 refine⟨by decide,?_,rfl⟩
 have c:Cl [42]/\SpT b [42] (if b=true then .wkd 127 else .num 4294967294):=by
  cases b with
  |true=>exact⟨by decide,rfl,255,by decide +kernel,by decide,by decide +kernel⟩
  |false=>exact⟨by decide,rfl,by decide +kernel,by decide⟩
 exact (axH (.cons c .nil:Ws b [[42]] _) (List.cons_ne_nil _ _) (by show 1<=20;decide)).2
structure FT(lo hi:Int)(t:List Nat)(m:Int):Prop where
 ok:anV lo hi t
 len:t.length<=300
 is:orM (abP lo hi t)=m
 sp:32∉t
 ne:t≠[]
 nn:0<=m
theorem alV{lo hi:Int}{ws:List (List Nat)}{nss:List (List Int)}(h:Paired (ac3 lo hi) ws nss)(hne:ws≠[])(hn:ws.length<=20):FT lo hi (aaF 44 ws) (aa4 nss.flatten):=by
 have all:∀{ws:List (List Nat)} {nss:List (List Int)},Paired (ac3 lo hi) ws nss->(∀w∈ws,Cl w/\(aaD lo hi w).isSome=true)/\(ws.map fun w=>(aaD lo hi w).getD 0)=nss.map aa4:=by
  intro ws nss h
  induction h with
  |nil=>exact⟨fun w hw=>(nomatch hw),rfl⟩
  |cons r t ih=>
   refine⟨fun w hw=>?_,?_⟩
   ·rcases List.mem_cons.mp hw with z | z
    ·subst z;exact⟨r.2.1,by rw[r.1];rfl⟩
    ·exact ih.1 w z
   ·rw[List.map_cons,List.map_cons,ih.2,r.1];rfl
 have a:=all h
 have hs:=abN 44 ws hne fun w hw=>(a.1 w hw).1.1.1
 have hl:=adN ws fun w hw=>(a.1 w hw).1.2.2
 refine⟨⟨by rw[hs];omega,by rw[hs];exact fun w hw=>(a.1 w hw).2⟩,by omega,?_,afW (by decide) fun x hx=>(a.1 x hx).1.1.2,aoM hne (fun x hx=>(a.1 x hx).1.2.1) 44,aa8 _⟩
 unfold abP
 rw[hs,a.2]
 have nn:∀m∈nss.map aa4,0<=m:=fun m hm=>by
  obtain⟨z,_,rfl⟩:=List.mem_map.mp hm
  exact aa8 _
 refine acJ (aeP nn) (aa8 _) fun i=>?_
 rw[aeM nn,abF,List.any_map,List.any_flatten]
 exact ak9 fun z _=>abF z i
end KM
namespace L2
open PySem PySem.Spec PyProof.Rows
def aBL(l:List Value):Bool:=match l with
 |.ref _:: .ref _::r=>decide (r=ayO)
 |_=>false
structure XS(K:PySem.W.Frag)(C:Addr)(f:Str):Prop where
 xf:XF K C
 cd:((PySem.W.clsIn K C).any fun c=>c.hasDict&&aBL c.mro)=true
 sa:PySem.W.findIn K (.ref C) "__setattr__"=some (some (.builtin "object.__setattr__"))
 no:PySem.W.findIn K (.ref C) f=some none
theorem aqB(self:Value){l:List Value}(e:aBL l=true):refuseLoop self "__setattr__" l=pure ():=by
 unfold aBL at e
 split at e
 ·rw[of_decide_eq_true e,refuseLoop_ref,refuseLoop_ref]
  exact PySem.F.store_ValueError.passes self
 ·cases e
section
open PySem.W Builtin Builtin.ObjectAttr
variable{prog:Program}{w:World}{A:Around}{E:Value->Shared->Prop}{s:Shared}{K:PySem.W.Frag}{x C:Addr}{f:Str}{v:Value}{o:Obj}{vs:Array Value}
theorem aqX{od:Option Obj}(hx:s.heap.get? x=some o)(hc:o.cls=.ref C)(hd:o.data=.fields vs)(hdi:match o.dict,od with | some dx,some q=>s.heap.get? dx=some q | none,none=>True | _,_=>False):PySem.W.InstAt s.heap x o C od:=
 ⟨hx,hc,by unfold notCls;rw[hd],hdi⟩
theorem aF1{Q:Unit->Shared->Prop}(X:K.In s.heap)(F:XS K C f)(hx:s.heap.get? x=some o)(hc:o.cls=.ref C)(hd:o.data=.fields vs)(hn:o.dict=none)
  (k:∀h' tk,s.heap.get? s.heap.objs.size=none->s.heap.objs.size≠x->h'.get? x=some {o with dict:=some s.heap.objs.size}->h'.Ns1 s.heap.objs.size (fun y=>if y=f then some v else none)->
   (∀b u,b≠x->s.heap.get? b=some u->h'.get? b=some u)->Q () {s with heap:=h',toks:=tk}):
  wpAny (model prog w) A (setAttr (.ref x) f v) Q E s:=by
 have J:PySem.W.InstAt s.heap x o C none:=aqX hx hc hd (by rw[hn];exact True.intro)
 have SF:=PySem.F.store_object
 obtain⟨cd,hcl,hh⟩:=PySem.W.any_some F.cd
 obtain⟨hdct,hm⟩:=Bool.and_eq_true_iff.mp hh
 refine PySem.W.set_plain X J F.sa ?_
 have sub:Looks (model prog w) s.heap (isInstance (.ref x) (.type "object")) true:=J.type.andThen (PySem.W.looks_mroIn X F.xf.mo)
 refine codeAny_call_builtin SF.slot.plain SF.entry (@PySem.W.check_slot (model prog w) _ _ {s with toks:=s.toks+1} "object.__setattr__" "object" "__setattr__" (.ref x) [.str f s.toks,v] [] _ SF.kind SF.split sub (SF.args (.ref x) (.str f s.toks) v) ?_)
 have mr:Looks (model prog w) s.heap (mroOf (.ref C)) cd.mro:=(PySem.W.looks_clsIn X hcl).andThen .now
 have L3:Looks (model prog w) s.heap (storeTaker? none) none:=.now
 rw[PySem.W.osa_eq,refuse_eq]
 refine wpAny_bind (wpAny_bind (J.type.here (s:={s with toks:=s.toks+1}) (wpAny_bind (mr.here (s:={s with toks:=s.toks+1}) ?_))))
 rw[aqB _ hm]
 refine wpAny_pure (wpAny_bind (J.type.here (s:={s with toks:=s.toks+1}) (wpAny_bind ((PySem.W.looks_findIn X F.no).here (s:={s with toks:=s.toks+1}) (wpAny_bind (L3.here (s:={s with toks:=s.toks+1}) ?_))))))
 have hp:s.heap.objs.size≠x:=Nat.ne_of_gt (Heap.lt_size hx)
 have fr:s.heap.get? s.heap.objs.size=none:=Heap.get?_none_of_le (Nat.le_refl _)
 obtain⟨oc,od,oda,osl⟩:=o
 obtain rfl:oc=.ref C:=hc
 obtain rfl:od=none:=hn
 obtain rfl:oda=.fields vs:=hd
 refine wpAny_bind (wpAny_pure (wpAny_bind (wpAny_bind (wpAny_loadPart hx (wpAny_bind (PySem.W.Looks.here (s:={s with toks:=s.toks+1}) (PySem.W.looks_clsIn X hcl) ?_))))))
 rw[hdct,if_neg (by decide)]
 dsimp only
 rw[if_neg (by simp[typeHasDict])]
 have hx1:=Heap.get?_push_of_some {cls:=.type "dict",data:=.dict #[]} hx
 refine wpAny_bind (wpAny_alloc' (wpAny_bind (wpAny_update' hx1 (wpAny_pure ?_))))
 have gD:((s.heap.push {cls:=.type "dict",data:=.dict #[]}).update x fun o=>{o with dict:=some s.heap.objs.size}).get? s.heap.objs.size=some {cls:=.type "dict",data:=.dict #[]}:=
  (Heap.get?_update_ne _ _ _ _ hp).trans (Heap.get?_push_at rfl rfl)
 refine wpAny_bind (wpAny_pure (wpAny_bind (wpAny_nsSet1 (Heap.Ns1.of_empty ⟨_,#[],_,gD,rfl,fun e he=>absurd he (by simp),fun _=>rfl⟩) fun h' n' sb=>?_)))
 obtain⟨oD,eD,pD,goD,dD,cD⟩:=n'.count (Within.cons f v Within.nil)
 refine wpAny_bind (wpAny_lookBehind goD (by rw[dD];exact pastItsLine_dict (Nat.le_trans cD (by rw[List.length_cons,List.length_nil,sizeLine_eq];omega))) (wpAny_pure ?_))
 refine k h' _ fr hp ((sb.2 x hp.symm).trans ?_) n' fun b u hb q=>(sb.2 b (Nat.ne_of_lt (Heap.lt_size q))).trans ((Heap.get?_update_ne _ _ _ _ hb).trans (Heap.get?_push_of_some _ q))
 exact Heap.get?_update_self _ hx1 rfl
theorem aHX{expr:Bool}{dx:Addr}{mA:Str->Option Value}{Q:Value->Shared->Prop}(X:K.In s.heap)(F:XS K C f)(hx:s.heap.get? x=some o)(hc:o.cls=.ref C)(hd:o.data=.fields vs)(hn:o.dict=some dx)(ns:s.heap.Ns1 dx mA)(hv:mA f=some v)(hh:PySem.W.handedIn v=true)
  (h:Q v {s with toks:=s.toks+1}):wpAny (model prog w) A (getAttr (.ref x) f expr) Q E s:=by
 obtain⟨od,ho,hl⟩:=ajO ns
 have J:PySem.W.InstAt s.heap x o C (some od):=aqX hx hc hd (by rw[hn];exact ho)
 have I:AtC x C s.heap:=⟨o,vs,hx,hc,hd⟩
 obtain⟨cd,hcl,hh2⟩:=PySem.W.any_some F.cd
 obtain⟨hdct,hm⟩:=Bool.and_eq_true_iff.mp hh2
 have L0:=I.ty (M:=model prog w)
 have L1:=PySem.W.looks_findIn (M:=model prog w) X F.xf.ga
 have L2:=PySem.W.looks_findIn (M:=model prog w) X F.xf.nga
 have f3:=PySem.F.attr_ValueError.ga.bind (.ref x)
 have e4:PySem.W.findObj K C (some od) f=some (.value v):=PySem.W.findObj_own (by unfold PySem.W.hasDictIn;rw[hcl];exact hdct) F.no rfl (by rw[hl,hv])
 have L4:=PySem.W.looks_find (M:=model prog w) X J e4
 have hx0:(expr&&onTheHeap (Value.builtin "BaseException.__getattribute__"))=false:=by cases expr<;>rfl
 unfold getAttr getAttrBy
 refine wpAny_bind (wpAny_mkText (wpAny_holding ?_))
 refine wpAny_bind (L0.at ?_)
 refine wpAny_bind (L1.at ?_)
 show wpAny _ _ (getAttrByItsOwn _ _ _ _ _ _) _ _ _
 unfold getAttrByItsOwn
 repeat (first | assumption | with_reducible refine Looks.at (by assumption) ?_ | wp_step)
 refine codeAny_call_builtin PySem.F.attr_ValueError.ga.plain PySem.F.entry_bexc_ga (ae8 F.xf X I ?_)
 unfold Builtin.«object.__getattribute__»
 repeat (first | assumption | with_reducible refine Looks.at (by assumption) ?_ | wp_step)
 show wpAny _ _ (handedOut v) _ _ _
 exact wpAny_of_eq (PySem.W.handedOut_of hh) h
end
def PY(e C:Addr)(d:Option Addr)(h:Heap):Prop:=∃(vs:Array Value) (sl:Array (Option Value)),h.get? e=some ⟨.ref C,d,.fields vs,sl⟩/\vs[1]? =some .none/\vs[2]? =some .none/\4<vs.size
def xn(a C:Addr)(d:Option Addr):HO:=.ext (PY a C d)
theorem PY.ok{P:Program}{w:World}{H:Hp}{h:Heap}{a C:Addr}{d:Option Addr}(x:PY a C d h):ObjOk P w H h a (xn a C d):=by
 obtain⟨vs,sl,e,r⟩:=id x
 exact⟨x,⟨_,e⟩,fun h1 h2 ⟨vs,sl,e,r⟩ k=>⟨vs,sl,k _ e,r⟩⟩
section
variable{X:Cx}{pins:List (Addr×Obj)}{σ:St}{H:Hp}{s:Shared}{a C:Addr}{f:Str}
theorem atN{A:Around}{E:Value->Shared->Prop}{y:V}{u:Value}{Q:Unit->Shared->Prop}(I:Inv X pins σ H s)(e:H a=some (xn a C none))(F:XS X.K C f)(ry:RelV y u)
  (k:∀dx s',H dx=none->dx≠a->Inv X pins σ (upd (upd H dx (.xd [(f,y)])) a (xn a C (some dx))) s'->Q () s'):wpAny (model X.prog X.w) A (setAttr (.ref a) f u) Q E s:=by
 obtain⟨⟨vs,sl,ha,h1,h2,h4⟩,_,_⟩:=I.hok a _ e
 refine aF1 I.kIn F ha rfl rfl rfl fun h' tk fr ne hx' ns kp=>?_
 have nD:H s.heap.objs.size=none:=I.hok.fresh (Nat.le_refl _)
 have nt:∀{b:Addr} {o:HO},H b=some o->(∀φ,o≠ .ext φ)->b≠a:=fun q n z=>by rw[z,e] at q;exact n _ (Option.some.inj q).symm
 have same:∀{b:Addr} {o:HO},H b=some o->b≠a->upd (upd H s.heap.objs.size (.xd [(f,y)])) a (xn a C (some s.heap.objs.size)) b=some o:=fun q n=>by
  rw[aaE n,aaE (aaG q nD)]
  exact q
 refine k s.heap.objs.size _ nD ne (I.un ⟨fun b o q n _ _=>kp b o (fun z=>by rw[z,e] at n;cases n) q,fun b o q n _ _=>⟨o.slots,kp b o (fun z=>by rw[z,e] at n;cases n) q⟩,fun b o q n _=>?_,fun b o q _=>?_,fun b xs q=>same q (nt q fun _ z=>nomatch z),fun b o v q=>same q (nt q fun _ z=>nomatch z),fun b ps q=>⟨#[],by rw[Array.append_empty];exact same q (nt q fun _ z=>nomatch z)⟩⟩ fun b o q=>?_)
 ·rw[aaE (fun z=>by rw[z,e] at n;cases n),aaE (fun z=>by rw[z,fr] at q;cases q)]
  exact n
 ·by_cases hb:b=a
  ·subst hb
   exact⟨_,hx'⟩
  ·exact⟨o,kp b o hb q⟩
 ·by_cases hb:b=a
  ·subst hb
   rw[aaA] at q
   cases q
   exact PY.ok ⟨vs,sl,hx',h1,h2,h4⟩
  ·rw[aaE hb] at q
   by_cases hd:b=s.heap.objs.size
   ·subst hd
    rw[aaA] at q
    cases q
    refine⟨_,ns,fun g=>?_⟩
    by_cases hg:g=f
    ·subst hg
     rw[List.lookup_cons,show (g==g)=true from beq_self_eq_true g,if_pos rfl]
     exact ry
    ·rw[List.lookup_cons,show (g==f)=false from beq_false_of_ne hg,if_neg hg]
     exact True.intro
   ·rw[aaE hd] at q
    refine (I.hok b o q).stay (fun c v hc z=>kp c v ?_ z) (fun c z=>same z (nt z fun _ y=>nomatch y)) fun c xs z=>same z (nt z fun _ y=>nomatch y)
    rcases hc with rfl | hc
    ·exact hb
    ·exact nt hc fun _ y=>nomatch y
theorem atR{A:Around}{E:Value->Shared->Prop}{expr b:Bool}{dx:Addr}{fs:List (Str×V)}{v:V}{Q:Value->Shared->Prop}(I:Inv X pins σ H s)(e:H a=some (xo a C (some dx) b))(ed:H dx=some (.xd fs))(F:XS X.K C f)(l:fs.lookup f=some v)
  (k:∀u s',RelV v u->Inv X pins σ H s'->Q u s'):wpAny (model X.prog X.w) A (getAttr (.ref a) f expr) Q E s:=by
 obtain⟨⟨o,ha,hc,hd,vs,hv,_⟩,_,_⟩:=I.hok a _ e
 obtain⟨mA,ns,r⟩:=I.hok dx _ ed
 have rf:=r f
 rw[l] at rf
 cases em:mA f with
 |none=>rw[em] at rf;exact False.elim rf
 |some u=>
  rw[em] at rf
  exact aHX I.kIn F ha hc hv hd ns em (ajN rf) (k u _ rf (I.tok _))
end
def aHS(K:PySem.W.Frag)(ta tv:TE)(f:Str):TS:=fun D σ H=>tv σ H fun y H1=>ta σ H1 fun x H2=>∃a C,x=.ref a/\H2 a=some (xn a C none)/\XS K C f/\∀dx,H2 dx=none->dx≠a->D.nx σ (upd (upd H2 dx (.xd [(f,y)])) a (xn a C (some dx)))
def aJI(K:PySem.W.Frag)(ta:TE)(f:Str):TE:=fun σ H Q=>ta σ H fun x H1=>∃a C dx b fs v,x=.ref a/\H1 a=some (xo a C (some dx) b)/\H1 dx=some (.xd fs)/\XS K C f/\fs.lookup f=some v/\Q v H1
section
variable{X:Cx}{o e value:Expr}{ta tv:TE}{f:Str}{pos pos':Pos}
theorem aC0(ha:E X o ta)(hv:E X value tv)(hs:swapsWith value (some (.Attribute o f pos')) pos.line X.env=pure false:=by rfl):S X (.Assign [.Attribute o f pos'] value pos) (aHS X.K ta tv f):=by
 refine⟨fun pins s σ H D I h=>?_⟩
 refine plainObj_wpAny_Assign_Attribute (thn (hv.h pins s σ H _ I h) fun u s1 ⟨y,H1,I1,ry,q⟩=>thn (ha.h pins s1 σ H1 _ I1 q) fun ov s2 ⟨x,H2,I2,rx,a,C,ex,ea,F,q2⟩=>?_) hs
 subst ex
 obtain rfl:ov=Value.ref a:=rx
 exact atN I2 ea F ry fun dx s3 n1 n2 I3=>⟨σ,_,I3,q2 dx n1 n2⟩
theorem aEF(he:E X e ta)(hb:attributeBase e f X.env (eval e X.env)=eval e X.env:=by rfl):E X (.Attribute e f pos) (aJI X.K ta f):=by
 refine⟨fun pins s σ H Q I h=>?_⟩
 refine anT hb (thn (he.h pins s σ H _ I h) fun u s1 ⟨x,H1,I1,rx,a,C,dx,b,fs,v,ex,ea,ed,F,l,q⟩=>?_)
 subst ex
 obtain rfl:u=Value.ref a:=rx
 exact atR I1 ea ed F l fun u' s2 ru I2=>⟨v,H1,I2,ru,q⟩
end
def ahF(K:PySem.W.Frag)(C:Addr):Bool:=match K.lookup C with
 |some o=>(match o.cls,o.data with
  |.type t,.cls cd=>(match cd.mro,o.slots.toList with
   |.ref C'::bm,[_,_,_,_,some (.builtin n),_]=>t=="type"&&C'==C&&n=="ValueError.__new__"&& !cd.hasDel&&PySem.W.tailIn K ayO bm
   |_,_=>false)
  |_,_=>false)
 |none=>false
theorem aeZ{K:PySem.W.Frag}{C:Addr}{h:Heap}(X:K.In h)(q:ahF K C=true):
  ∃bm N nm qn bs hdct sn sub ab col dd k0 k1 k2 k3 k5,h.get? C=some (excClassObj nm qn C N bs bm hdct sn sub ab col dd k0 k1 k2 k3 k5 "ValueError.__new__")/\OwnTail h ayO bm:=by
 unfold ahF at q
 split at q
 ·next o ho=>
  obtain⟨oc,od,oda,sl⟩:=o
  dsimp only at q
  split at q
  ·next t cd=>
   split at q
   ·next C' bm k0 k1 k2 k3 n k5 hm hs=>
    simp only[Bool.and_eq_true,beq_iff_eq,Bool.not_eq_true'] at q
    obtain⟨⟨⟨⟨rfl,rfl⟩,rfl⟩,hdel⟩,ht⟩:=q
    obtain⟨nm,bs,mro,ns,qn,hd,sn,sub,ab,col,del⟩:=cd
    dsimp only at hm hdel hs
    subst hm hdel
    obtain⟨l⟩:=sl
    have hs:l=[k0,k1,k2,k3,some (.builtin "ValueError.__new__"),k5]:=hs
    subst hs
    exact⟨bm,ns,nm,qn,bs,hd,sn,sub,ab,col,od,k0,k1,k2,k3,k5,X _ _ ho,PySem.W.tail_of_in X ht⟩
   ·cases q
  ·cases q
 ·cases q
section
open PySem.W
variable{prog:Program}{w:World}{A:Around}{E:Value->Shared->Prop}{s:Shared}{K:PySem.W.Frag}{C fI:Addr}
theorem amA{rest:List Value}{Q:Value->Shared->Prop}(X:K.In s.heap)(hq:ahF K C=true)(hi:findIn K (.ref C) "__init__"=some (some (.ref fI)))(hf:typeIn K (.ref fI)=some (.type "function"))(hz:rest.length<=sizeLine)
  (k:∀h' e,Heap.MadeExcOf s.heap h' e (.ref C) rest->wpAny (model prog w) (A.under (.builtin "type.__call__" ⟨.ref C::rest,[]⟩)) (call (.ref fI) (.ref e::rest)) (fun r s'=>r=.none/\Q (.ref e) s') E {s with heap:=h'}):
  wpAny (model prog w) A (call (.ref C) rest) Q E s:=by
 obtain⟨h,g,d,t,os⟩:=s
 obtain⟨bm,N,nm,qn,bs,hdct,sn,sub,ab,col,dd,k0,k1,k2,k3,k5,hC,T⟩:=aeZ X hq
 have VE:=PySem.F.excBase_ValueError
 have c1:=tc_lookup
 have c2:=tc_bind (.ref C)
 have cT:(⟨h,g,d,t,os⟩:Shared).TypeIs (.ref C) "type":=⟨_,hC,rfl⟩
 refine wpAny_call (codeAny_of_tree (show wpAny _ _ (callAny (.ref C) _) _ _ _ from ?_))
 repeat (any_goals (first | with_reducible refine wpAny_loadPart_at hC ?_ | assumption | wp_step))
 refine⟨rfl,codeAny_call_builtin_at (Code.quiet_builtin _ (by decide +kernel)) entry_typeCall (wpAny_check_type_call_sub hC ?_)⟩
 repeat (first | with_reducible refine wpAny_madeBy_exc hC ?_ | with_reducible refine wpAny_loadPart_at hC ?_ | wp_step)
 refine codeAny_call_builtin_code (Code.quiet_builtin _ VE.quiet) (wpAny_check_new_subT VE T hC (codeAny_exc_new_subT VE T hC ?_ hz))
 have kp:∀b o,h.get? b=some o->((h.push {cls:=.type "tuple",data:=.seq rest.toArray}).push {cls:=.ref C,data:=.fields #[.ref h.objs.size,.none,.none,.none,.bool false,.none]}).get? b=some o:=fun b o e=>Heap.get?_push_of_some _ (Heap.get?_push_of_some _ e)
 have he:((h.push {cls:=.type "tuple",data:=.seq rest.toArray}).push {cls:=.ref C,data:=.fields #[.ref h.objs.size,.none,.none,.none,.bool false,.none]}).get? (h.objs.size+1)=some {cls:=.ref C,data:=.fields #[.ref h.objs.size,.none,.none,.none,.bool false,.none]}:=by heap_get
 have ht:((h.push {cls:=.type "tuple",data:=.seq rest.toArray}).push {cls:=.ref C,data:=.fields #[.ref h.objs.size,.none,.none,.none,.bool false,.none]}).get? h.objs.size=some {cls:=.type "tuple",data:=.seq rest.toArray}:=Heap.get?_push_of_some _ (Heap.get?_push_at rfl rfl)
 show wpAny _ _ _ _ _ _
 have kk:=k _ (h.objs.size+1) ⟨kp,Heap.get?_none_of_le (Nat.le_succ _),h.objs.size,he,Heap.get?_none_of_le (Nat.le_refl _),ht⟩
 have hC2:=kp _ _ hC
 have inC:(Value.ref C::bm).contains (.ref C)=true:=by simp
 have X2:K.In _:=X.keeps kp
 have L1:=PySem.W.looks_findIn (M:=model prog w) X2 hi
 have L2:=PySem.W.bind_fn (M:=model prog w) X2 (.ref (h.objs.size+1)) hf
 have L0:Looks (model prog w) _ (typeOf (.ref (h.objs.size+1))) (.ref C):=(PySem.W.Looks.ld he).andThen .now
 unfold isInstance
 repeat (first | with_reducible refine wpAny_loadPart_at he ?_ | wp_step)
 dsimp only
 refine wpAny_isSubtype_exc hC2 ?_
 rw[inC]
 repeat (first | with_reducible refine wpAny_loadPart_at he ?_ | with_reducible refine Looks.at (by assumption) ?_ | wp_step)
 dsimp only
 refine L1.at (wpAny_holding (wpAny_bind (L2.at (wpAny_bind (wpAny_mono kk (fun r s' hr=>?_) fun _ _ z=>z)))))
 obtain⟨rfl,hQ⟩:=hr
 wp_walk
 exact hQ
end
def rem(H:Hp)(a:Addr):Hp:=fun b=>if b=a then none else H b
theorem adC{H:Hp}{a:Addr}:rem H a a=none:=if_pos rfl
theorem adH{H:Hp}{a b:Addr}(h:b≠a):rem H a b=H b:=if_neg h
section
variable{X:Cx}{pins:List (Addr×Obj)}{σ:St}{H:Hp}{s:Shared}
theorem Inv.forget{a:Addr}{φ:Heap->Prop}(I:Inv X pins σ H s)(e:H a=some (.ext φ)):Inv X pins σ (rem H a) s:=by
 have nt:∀{b:Addr} {o:HO},H b=some o->(∀φ,o≠ .ext φ)->rem H a b=some o:=fun {b o} q n=>by
  rw[adH (fun z=>by rw[z,e] at q;exact n _ (Option.some.inj q).symm)]
  exact q
 have fr:∀{b:Addr},H b=none->rem H a b=none:=fun {b} n=>by
  by_cases hb:b=a
  ·rw[hb];exact adC
  ·rw[adH hb];exact n
 exact I.un (t':=s.toks) ⟨fun b o q _ _ _=>q,fun b o q _ _ _=>⟨o.slots,q⟩,fun b o _ n _=>fr n,fun b o q _=>⟨o,q⟩,fun b xs q=>nt q (fun _ z=>nomatch z),fun b o v q=>nt q (fun _ z=>nomatch z),fun b ps q=>⟨#[],(by rw[Array.append_empty];exact nt q fun _ z=>nomatch z)⟩⟩ fun b o q=>by
  by_cases hb:b=a
  ·rw[hb,adC] at q;cases q
  ·rw[adH hb] at q
   exact (I.hok b o q).stay (fun _ _ _ z=>z) (fun c z=>nt z fun _ y=>nomatch y) fun c xs z=>nt z fun _ y=>nomatch y
theorem Inv.born{a:Addr}{o:HO}{h':Heap}{t':Nat}(I:Inv X pins σ H s)(k:∀b u,s.heap.get? b=some u->h'.get? b=some u)(n:s.heap.get? a=none)(new:ObjOk X.prog X.w (upd H a o) h' a o):Inv X pins σ (upd H a o) {s with heap:=h',toks:=t'}:=by
 have nH:H a=none:=by
  cases q:H a with
  |none=>rfl
  |some u=>
   obtain⟨ob,z⟩:=(I.hok a u q).at
   rw[n] at z;cases z
 have same:∀{b:Addr} {u:HO},H b=some u->upd H a o b=some u:=fun q=>by rw[aaE (aaG q nH)];exact q
 refine I.un ⟨fun b u q _ _ _=>k b u q,fun b u q _ _ _=>⟨u.slots,k b u q⟩,fun b u q m _=>?_,fun b u q _=>⟨u,k b u q⟩,fun b xs q=>same q,fun b u v q=>same q,fun b ps q=>⟨#[],(by rw[Array.append_empty];exact same q)⟩⟩ fun b u q=>?_
 ·rw[aaE (fun z=>by rw[z,n] at q;cases q)]
  exact m
 ·by_cases hb:b=a
  ·subst hb
   rw[aaA] at q
   cases q
   exact new
  ·rw[aaE hb] at q
   exact (I.hok b u q).stay (fun c v _ z=>k c v z) (fun c z=>same z) fun c xs z=>same z
end
section
variable{prog:Program}{w:World}{A:Around}{E:Value->Shared->Prop}{s:Shared}{env:Env}
theorem amW{x:Sem Value}{Q:Flow->Shared->Prop}(hh:A.handled=none)(h:wpAny (model prog w) A x (fun v s1=>∃e C d,v=.ref e/\aET C s1.heap/\PX e C d s1.heap/\E (.ref e) s1) E s):wpAny (model prog w) A (raiseStmt env (some x) none) Q E s:=by
 unfold raiseStmt
 refine wpAny_bind (wpAny_mono h (fun v s1 h1=>?_) fun _ _ z=>z)
 obtain⟨e,C,d,rfl,⟨nm,q,N,bs,bm,hdct,sn,sub,ab,col,dd,k0,k1,k2,k3,k5,newId,hC,hB⟩,⟨vs,sl,he,hn,hz⟩,hE⟩:=h1
 have inB:(Value.ref C::bm).contains (.type "BaseException")=true:=by rw[List.contains_cons,hB,Bool.or_true]
 obtain⟨hp,g,dr,tk,os⟩:=s1
 generalize hsf:@setFlight=sf
 repeat (first | with_reducible refine wpAny_loadPart_at he ?_ | with_reducible refine wpAny_loadPart_at hC ?_ | (with_reducible refine wpAny_isSubtype_exc hC ?_;rw[inB]) | wp_step)
 subst hsf
 unfold setFlight
 refine wpAny_bind (wpAny_field he rfl hn ?_)
 rw[if_neg (by decide)]
 exact wpAny_pure (wpAny_raiseNew_none hh hE)
end
def avO(C:Addr)(sp:Sp)(E:XK)(t:TA):TS:=fun _ σ H=>t σ H fun vs H1=>vs.length<=sizeLine/\∀e,H1 e=none->sp (.ref e::vs) (upd H1 e (xn e C none)) (fun v H2=>v=.non/\∃dx,H2 e=some (xn e C (some dx))/\E (.ref C) (some dx) (rem H2 e)) E0
section
variable{X:Cx}{E:XK}{x:Str}{C:Addr}{e:Expr}{es:List Expr}{t:TA}{np cpos pos:Pos}{k k':Nat}{ps:List Str}{sp:Sp}
theorem alI(hM:aEL X E)(hm:X.mg x=some (.ref C))(hq:ahF X.K C=true)(D:DfM X.prog X.w X.K X.mg X.base C "__init__" k ps sp)(hr:Room k' X.A)(ha:As X (e::es) t)(hk:k+1<=k':=by decide)(hex:X.ex=[]:=by rfl)(hc:X.calm=true:=by rfl)(hg:Gl X x:=by rfl)(hdb:(x==("__debug__":Str))=false:=by decide)
  (he:starEach (e::es) X.env=(false,eval e X.env)::starEach es X.env:=by rfl) (hpl:(backTo cpos (starEach es X.env)).any (·.1)=false:=by rfl):
  S X (.Raise (some (.Call (.Name x np) (e::es) [] cpos)) none pos) (avO C sp E t):=by
 obtain⟨f,fd,F,hb,hme⟩:=D.ex
 refine⟨fun pins s σ H De I h=>?_⟩
 have pl:(backTo cpos ((false,eval e X.env)::starEach es X.env)).any (·.1)=false:=hpl
 rw[arm_exec_Raise]
 simp only[evalOpt,Option.map]
 refine wpAny_bind (wpAny_standAt (amW (I.ok.hd hc) ?_))
 refine wpAny_bind (wpAny_mono (wpAny_Call_ofName (abG I hg hm ?_ hdb)) (fun v s3 h3=>wpAny_bind (wpAny_standAt (wpAny_pure h3))) fun _ _ z=>z)
 unfold callWith
 have hw:=ha.h cpos pins s σ H _ I h
 rw[he] at hw ⊢
 refine wpAny_bind (wpAny_holding (Calls.evalArgs_plain (thn hw fun us s2 ⟨vs,H2,I2,r,hz,q⟩=>wpAny_bind (wpAny_standAt ?_))))
 obtain⟨bm,N,nm,qn,bs,hdct,sn,sub,ab,col,dd,k0,k1,k2,k3,k5,hC,T⟩:=aeZ I2.kIn hq
 simp only[pl]
 refine wpAny_bind (wpAny_keeperOf_exc (h:=s2.heap) (g:=s2.gens) (d:=s2.drawn) (t:=s2.toks) (os:=s2.os) hC ?_)
 refine wpAny_bind (amA I2.kIn hq hme.at_ (beq_iff_eq.mp hme.fn) (by rw[List.nil_append,←r.length];exact hz) fun h' n mk=>?_)
 obtain⟨t0,there,_,_⟩:=mk.there
 obtain⟨Hn,gn⟩:=I2.newX hex mk.new
 have I3:Inv X pins σ (upd H2 n (xn n C none)) {s2 with heap:=h'}:=I2.born (t':=s2.toks) mk.keeps mk.new (PY.ok ⟨_,_,there,rfl,rfl,(show 4<6 by decide)⟩)
 have sp':=q n Hn
 have r2:Vals (V.ref n::vs) (Value.ref n::us):=.cons rfl r
 have hl:(Value.ref n::us).length=ps.length:=by rw[←r2.length];exact F.len _ _ _ _ sp'
 have hbd:=hb {s2 with heap:=h'} (Value.ref n::us) I3.kIn (by rw[List.append_nil];exact hl)
 rw[List.append_nil] at hbd
 refine wpAny_call (codeAny_mono (F.run _ X.stack _ _ ⟨Value.ref n::us,[]⟩ (Value.ref n::us) (V.ref n::vs) _ E0 ((hr.mono hk).make C us []) (I3.env0.make C us []) hbd r2 sp') fun rr s' hq'=>?_)
 cases rr with
 |error e=>exact False.elim hq'
 |ok fl=>
  cases fl with
  |next=>exact False.elim hq'
  |brk=>exact False.elim hq'
  |cont=>exact False.elim hq'
  |ret u=>
   obtain⟨v,H4,I4,rv,rfl,dx,hx,qE⟩:=I3.after hq'
   obtain⟨⟨vs4,sl4,e4,n1,n2,z4⟩,_,_⟩:=I4.hok n _ hx
   refine⟨rv,wpAny_bind (wpAny_holding (wpAny_point (wpAny_pure ⟨n,C,some dx,rfl,?_,⟨vs4,sl4,e4,n1,z4⟩,?_⟩)))⟩
   ·obtain⟨bm,N,nm,qn,bs,hdct,sn,sub,ab,col,dd,k0,k1,k2,k3,k5,hC4,T4⟩:=aeZ I4.kIn hq
    exact⟨nm,qn,N,bs,bm,hdct,sn,sub,ab,col,dd,k0,k1,k2,k3,k5,_,hC4,T4.hasType (by decide)⟩
   ·have I5:=I4.forget hx
    exact hM pins σ _ _ n C (some dx) true _ vs4 I5 adC gn e4 rfl n1 ⟨rfl,rfl,vs4,rfl,fun _=>n2⟩ qE
end
structure RoomQ(k:Nat)(A:Around):Prop where
 dp:A.depth+3*k+5<recursionLimit
 un:A.units+16*k+200<cLine
theorem Room.q{k:Nat}{A:Around}(r:Room k A):RoomQ k A:=⟨r.dp,r.un⟩
theorem RoomQ.mono{j k:Nat}{A:Around}(r:RoomQ k A)(h:j<=k):RoomQ j A:=⟨by have:=r.dp;omega,by have:=r.un;omega⟩
theorem RoomQ.mark{k:Nat}{A:Around}(r:RoomQ k A)(v:Option Value):RoomQ k (A.mark v):=⟨r.dp,r.un⟩
theorem RoomQ.deeper{k:Nat}{A:Around}(r:RoomQ (k+1) A)(env:Env):RoomQ k (A.deeper env):=
 ⟨by have:=r.dp;show A.depth+1+3*k+5<_;omega,by have:=r.un;show A.units+3+16*k+200<_;omega⟩
def aq9(P:Program)(w:World)(K:PySem.W.Frag)(mg:Str->Option Value)(base:Heap)(N:List Str)(qual:Str)(scope:Scope)(f:Addr)(cd:Value)(A:Around)(outer:List Env)(s:Shared)(H:Hp):Cx:=
 { (aaS CX0 P w K mg base N qual scope f cd A outer s H E0).nox with calm:=false}
section
variable{P:Program}{w:World}{K:PySem.W.Frag}{mg:Str->Option Value}{base:Heap}{N ps:List Str}{qual:Str}{scope:Scope}{f:Addr}{cd:Value}{A:Around}{outer:List Env}{s s1:Shared}{H:Hp}{us:List Value}{vs:List V}
theorem ag8(S':FnScope N ps scope)(e0:Env0 P w K mg base A outer s H)(hl:vs.length=ps.length)(r:Vals vs us)
  (x:InCallC s s.heap.objs.size (bindL (envOfC qual scope s.heap.objs.size f cd).kindOf (ps.zip us) fun _=>none) (cellsFrom (s.heap.objs.size+1) scope.names []) (bindC (envOfC qual scope s.heap.objs.size f cd).kindOf (ps.zip us) fun _=>none) s1):
  Inv (aq9 P w K mg base N qual scope f cd A outer s H) [] (start N vs) H s1:=by
 have I:=ajB (CX:=CX0) (E:=E0) (A:={A with handled:=none}) (qual:=qual) (f:=f) (cd:=cd) S' rfl ⟨e0.frames,e0.mod,e0.bs,e0.bsz,e0.funs,e0.frf,e0.hok,e0.bare⟩ hl r x
 exact⟨⟨I.ok.mod,I.ok.kind,I.ok.glob,I.ok.blt,I.ok.above,I.ok.inj,I.ok.has,I.ok.cab,(fun z=>nomatch z),Around.frames_deeper e0.frames,I.ok.stk,I.ok.exf,I.ok.bs,I.ok.bsz,I.ok.noex,I.ok.exfs,I.ok.funs,I.ok.frf⟩,I.os,I.bare,I.base,I.loc,I.cell,I.free,I.freeC,I.pin,I.hok,I.len⟩
end
structure DfQ(P:Program)(w:World)(K:PySem.W.Frag)(mg:Str->Option Value)(base:Heap)(x:Str)(k:Nat)(ps:List Str)(sp:Sp):Prop where
 ex:∃(f:Addr) (fd:FuncData),(∀vs H Q E,sp vs H Q E->vs.length=ps.length)/\(∀(A:Around) (outer:List Env) (s:Shared) (H:Hp) (args:Args) (us:List Value) (vs:List V) (Q:VK),RoomQ k A->Env0 P w K mg base A outer s H->BindsTo s fd args (ps.zip us)->Vals vs us->sp vs H Q E0->
  codeAny (model P w) A (.call (.ref f) args) (CR CX0 outer P w H s Q E0) s)/\Binds K fd ps []/\mg x=some (.ref f)/\PySem.W.keepIn K (.ref f)=true
section
variable{P:Program}{w:World}{K:PySem.W.Frag}{mg:Str->Option Value}{base:Heap}{x:Str}{st:Stmt}{ps N:List Str}{k:Nat}{sp:Sp}
theorem Fn.dfsQ(F:Fn K mg x st ps)(S':FnScope N ps (aaC st))(len:∀vs H Q E,sp vs H Q E->vs.length=ps.length)
  (hbody:∀(f:Addr) (cdv:Value) (A:Around) (outer:List Env) (s:Shared) (H:Hp) (vs:List V) (Q:VK),RoomQ k (A.deeper (envOfC x (aaC st) s.heap.objs.size f cdv))->sp vs H Q E0->
   ∃t,Ss (aq9 P w K mg base N x (aaC st) f cdv A outer s H) (aaP st) t/\t {nx:=fun _ H'=>Q .non H',rt:=Q} (start N vs) H):DfQ P w K mg base x (k+1) ps sp:=by
 obtain⟨f,fd,F1,hb,hm⟩:=F.ex
 have kp:=F1.kp
 obtain⟨oc,od,kV,doc,pm,an,cdv,ct,osl,rfl,lk,hcd⟩:=F1.ex
 refine⟨⟨f,_,len,fun A outer s H args us vs Q hr e0 hbd r hsp=>?_,hb,hm,kp⟩⟩
 have stay:∀b o,base.get? b=some o->s.heap.get? b=some o:=fun b o e=>(e0.bs b o e).1
 have KX:=e0.mod.kin.keeps stay
 have names:∀y∈ps.zip us,(aaC st).names.lookup y.1=some .local∨((aaC st).names.lookup y.1=some .cell/\((cellsFrom (s.heap.objs.size+1) (aaC st).names []).lookup y.1).isSome=true):=fun y hy=>by
  rcases S'.par y.1 (List.of_mem_zip hy).1 with q | q
  ·exact .inl q
  ·exact .inr ⟨q,PySem.W.cellsFrom_some _ _ _ (.inl q)⟩
 refine codeAny_call_function (by have:=hr.dp;omega) (KX _ _ lk) rfl S'.co S'.gen rfl (PySem.W.codeRec_of KX hcd) (hbd _ _ _ _ (wpAny_newFunctionEnv_cells S'.kind names fun env he s1 y=>?_))
 subst he
 refine⟨(e0.mod.nolimit.keeps stay).keeps y.toInCall.keep,codeAny_func ?_⟩
 obtain⟨t,ht,hq⟩:=hbody f cdv A outer s H vs Q (hr.deeper _) hsp
 have I:=ag8 (qual:=x) (f:=f) (cd:=cdv) S' e0 (len _ _ _ _ hsp) r y
 refine wpAny_mono (ht.h [] s1 (start N vs) H _ I hq) (fun fl s' hs=>?_) fun e s' hs=>False.elim hs
 cases fl with
 |ret u=>
  obtain⟨v,σ',H',J,rv,q⟩:=hs
  exact⟨v,H',J.os,J.bare,J.base,J.hok,rv,q⟩
 |next=>
  obtain⟨σ',H',J,q⟩:=hs
  exact⟨V.non,H',J.os,J.bare,J.base,J.hok,rfl,q⟩
 |brk=>obtain⟨_,_,_,q⟩:=hs;exact False.elim q
 |cont=>obtain⟨_,_,_,q⟩:=hs;exact False.elim q
end
section
variable{X:Cx}{k k':Nat}{ps:List Str}{sp:Sp}{x:Str}{e:Expr}{es:List Expr}{tA:TA}{p pos:Pos}
theorem eDQ(D:DfQ X.prog X.w X.K X.mg X.base x k ps sp)(hr:RoomQ k' X.A)(ha:As X (e::es) tA)(hk:k<=k':=by decide)(hg:Gl X x:=by rfl)(hdb:(x==("__debug__":Str))=false:=by decide)
  (he:starEach (e::es) X.env=(false,eval e X.env)::starEach es X.env:=by rfl) (hpl:(backTo pos (starEach es X.env)).any (·.1)=false:=by rfl):E X (.Call (.Name x p) (e::es) [] pos) (ajE sp [] E0 tA):=by
 obtain⟨f,fd,len,run,hb,hm,kp⟩:=D.ex
 refine⟨fun pins s σ H Q I h=>?_⟩
 refine wpAny_Call_Name_kw (abG I hg hm ?_ hdb)
 refine PySem.W.callWith_K (h₀:=X.base) I.ok.mod.kin kp (thn (ha.h pos pins s σ H _ I h) fun us s1 ⟨vs,H1,I1,r,q⟩=>⟨I1.kIn,?_⟩) he hpl
 have q:sp (vs++[]) H1 Q E0:=q
 rw[List.append_nil] at q
 have hl:us.length=ps.length:=by rw[←r.length];exact len _ _ _ _ q
 have hbd:=hb s1 us I1.kIn (by rw[List.append_nil];exact hl)
 rw[List.append_nil] at hbd
 refine wpAny_call (codeAny_mono (run X.A X.stack s1 H1 ⟨us,[]⟩ us vs Q (hr.mono hk) I1.env0 hbd r q) fun rr s' hq=>?_)
 cases rr with
 |error e=>exact False.elim hq
 |ok fl=>
  cases fl with
  |ret u=>exact I1.after hq
  |next=>exact False.elim hq
  |brk=>exact False.elim hq
  |cont=>exact False.elim hq
end
section
variable{X:Cx}{f:Addr}{k k':Nat}{ps:List Str}{sp:Sp}{x y e:Expr}{es:List Expr}{tA:TA}{tv:TE}{p pos:Pos}{t u:TX}
end
theorem amM{e:Value}{env env':Env}(h:env'.frame=env.frame):noteFrame e env'=noteFrame e env:=by
 unfold noteFrame PySem.frameOf
 rw[h]
section
variable{M:Model}{A:Around}{E:Value->Shared->Prop}{s:Shared}{f:Obj->Prop}{B:Heap}{env:Env}{outer:List Env}{L e:Addr}{fl:Value}{Q:Unit->Shared->Prop}
theorem awD(kn:Kn f)(hA:A.frames=some (env::outer))(hL:env.frame=some L)(F:Fg f fl B (env::outer) e s.heap)(k:∀h',Fg f (rawInt L) B (env::outer) e h'->s.heap.UpToSlots h'->Q () {s with heap:=h'}):
  wpAny M A (noteFrame (.ref e) env) Q E s:=by
 cases c:(fl==rawInt L) with
 |true=>
  obtain rfl:fl=rawInt L:=beq_iff_eq.mp c
  exact ak8 hL F (k s.heap F fun b ob q _=>⟨ob.slots,q⟩)
 |false=>
  obtain⟨o,vs,T,oT,ts,⟨he,hd,h1,ho⟩,⟨hT,dT,h3⟩,nT,ne⟩:=F.tr
  have oth:∀b,b≠T->(s.heap.update T (Obj.mapFields (·.setIfInBounds 3 Value.none))).get? b=s.heap.get? b:=fun b n=>Heap.get?_update_other _ _ n.symm
  unfold noteFrame
  simp only[hL]
  refine wpAny_bind (wpAny_field he hd h1 ?_)
  rw[if_pos (by simp)]
  refine wpAny_bind (wpAny_field hT dT h3 ?_)
  rw[c,if_neg (by decide)]
  refine wpAny_bind (wpAny_setField hT dT (Array.getElem?_eq_some_iff.mp h3).1 ?_)
  refine ahZ kn hA hL (F.ff.of_keeps fun b ob q n=>⟨ob,(oth b (af6 hT dT q n)).trans q,rfl⟩) (fun b ob q=>(oth b fun z=>by rw[z,nT] at q;cases q).trans (F.st b ob q)) F.nb ((oth e ne.symm).trans he) hd (Array.getElem?_eq_some_iff.mp h1).1 ho fun h' F' up=>k h' F' fun b ob q n=>up b ob ((oth b (af6 hT dT q n)).trans q) n
theorem amR(kn:Kn f)(hA:A.frames=some (env::outer))(hL:env.frame=some L)(F:Fg f fl B (env::outer) e s.heap)(k:∀h',Fg f .none B outer e h'->s.heap.UpToSlots h'->Q () {s with heap:=h'}):wpAny M A (leaving env (.ref e)) Q E s:=
 wpAny_bind (awD kn hA hL F fun _ F1 u1=>abJ none F1 fun h2 F2 u2=>k h2 F2.out (u1.trans u2))
end
def FlyM(m:Value)(g h:Heap)(H:Hp)(a C:Addr)(d:Option Addr)(b:Bool):Prop:=
 H a=none/\g.get? a=none/\∃(o:Obj) (vs:Array Value) (T:Addr) (oT:Obj) (ts:Array Value),(h.get? a=some o/\o.data=.fields vs/\vs[1]? =some (.ref T)/\Ex C d b o)/\
  (h.get? T=some oT/\oT.data=.fields ts/\ts[3]? =some m)/\(H T=none/\g.get? T=none)/\T≠a
theorem awF{P:Program}{w:World}{fs:List Addr}{l:List Env}{H0 H:Hp}{g h1 h2:Heap}{hid:List Addr}{a C:Addr}{d:Option Addr}{b0:Bool}{m:Value}(u:Un fs [] H0 H g h1)(hok:HOk P w H h1)(frf:∀b∈fs,H b=none)
  (ff:∀b∈fs,∃o,h1.get? b=some o/\∀vs,o.data≠ .fields vs) (hh:∀b∈hid,b∈fs∨(H b=none/\g.get? b=none)) (fl:Fg (Ex C d b0) m (PySem.W.hideAll h1 hid) l a h2) (up:h1.UpToSlots h2)
  (hga:g.get? a=none) (Ha:H a=none):Un fs [] H0 H g h2/\HOk P w H h2/\FlyM m g h2 H a C d b0:=by
 have keep:∀b o,h1.get? b=some o->b∉hid->h2.get? b=some o:=fun b o e n=>fl.st b o (PySem.W.hideAll_get _ e n)
 have nofr:∀b o vs,b∈fs->h2.get? b=some o->o.data≠ .fields vs:=fun b o vs hb e=>by
  obtain⟨o1,e1,nf⟩:=ff b hb
  obtain⟨sl,e2⟩:=up b o1 e1 nf
  rw[e] at e2
  cases e2
  exact nf vs
 have slots:∀b o,b∈fs->h1.get? b=some o->∃sl,h2.get? b=some {o with slots:=sl}:=fun b o hb e=>by
  obtain⟨o1,e1,nf⟩:=ff b hb
  rw[e] at e1
  cases e1
  exact up b o e nf
 have nhid:∀b o,b∉fs->g.get? b=some o->b∉hid:=fun b o nb e hb=>by
  rcases hh b hb with z | ⟨_,z⟩
  ·exact nb z
  ·rw[e] at z;cases z
 have thid:∀b o,H b=some o->b∉hid:=fun b o e hb=>by
  rcases hh b hb with z | ⟨z,_⟩
  ·rw[frf b z] at e;cases e
  ·rw[e] at z;cases z
 refine⟨⟨fun b o e n hb hx=>keep b o (u.keep b o e n hb hx) (nhid b o hb e),fun b o e n hb hx=>?_,u.free,fun b o e hx=>?_,u.tups,u.frzs,u.tbls⟩,fun b ob e=>?_,Ha,hga,?_⟩
 ·obtain⟨sl,e1⟩:=u.slot b o e n hb hx
  obtain⟨sl',e2⟩:=slots b _ hb e1
  exact⟨sl',e2⟩
 ·obtain⟨o',e1⟩:=u.there b o e hx
  by_cases hb:b∈fs
  ·obtain⟨sl,e2⟩:=slots b _ hb e1
   exact⟨_,e2⟩
  ·exact⟨o',keep b o' e1 (nhid b o hb e)⟩
 ·refine (hok b ob e).stay (fun c v hc q=>keep c v q ?_) (fun _ q=>q) fun _ _ q=>q
  rcases hc with z | z
  ·rw[z];exact thid b ob e
  ·exact thid c _ z
 ·obtain⟨o,vs,T,oT,ts,ho,hT,hnT,hTe⟩:=fl.tr
  have nT:T∉fs:=fun z=>nofr T oT ts z hT.1 hT.2.1
  refine⟨o,vs,T,oT,ts,ho,hT,⟨?_,?_⟩,hTe⟩
  ·cases q:H T with
   |none=>rfl
   |some o=>
    obtain⟨ob,e⟩:=(hok T o q).at
    have:=PySem.W.hideAll_get _ e (thid T o q)
    rw[hnT] at this;cases this
  ·cases q:g.get? T with
   |none=>rfl
   |some o=>
    obtain⟨ob,e⟩:=u.there T o q (by simp)
    have:=PySem.W.hideAll_get _ e (nhid T o nT q)
    rw[hnT] at this;cases this
section
variable{P:Program}{w:World}{K:PySem.W.Frag}{mg:Str->Option Value}{base:Heap}{N:List Str}{qual:Str}{scope:Scope}{f:Addr}{cd:Value}{A:Around}{outer:List Env}{s0:Shared}{H0:Hp}{E:XK}
theorem aFL{pins:List (Addr×Obj)}{σ:St}{H:Hp}{s:Shared}{a C T:Addr}{d:Option Addr}{b:Bool}{fl:Value}{h6:Heap}(I:Inv (aaS (CX1 P w) P w K mg base N qual scope f cd A outer s0 H0 E) pins σ H s)
  (F:Fg (Ex C d b) fl (PySem.W.hideAll s.heap (frs (envOfC qual scope s0.heap.objs.size f cd::outer)++[a,T])) (envOfC qual scope s0.heap.objs.size f cd::outer) a h6) (u6:s.heap.UpToSlots h6)
  (Ha:H a=none) (ga:s0.heap.get? a=none) (HT:H T=none) (gT:s0.heap.get? T=none) (q:E (cv C b) d H):(aaS (CX1 P w) P w K mg base N qual scope f cd A outer s0 H0 E).xe (.ref a) {s with heap:=h6}:=by
 refine amR (L:=s0.heap.objs.size) (ah9 C d b) I.ok.frames rfl F fun h2 fl2 up=>?_
 obtain⟨u2,hok2,fly2⟩:=adA (fs:=frs outer) I.base I.hok (fun b hb=>I.stkFree b (by
   obtain⟨env,he,hf⟩:=List.mem_filterMap.mp hb
   exact List.mem_filterMap.mpr ⟨env,List.mem_cons_of_mem _ he,hf⟩)) (akC I.funs) (fun b hb=>by
  rcases List.mem_append.mp hb with z | z
  ·exact afD I b z
  ·rcases List.mem_cons.mp z with rfl | z
   ·exact .inr ⟨Ha,ga⟩
   ·obtain rfl:b=T:=by simpa using z
    exact .inr ⟨HT,gT⟩) fl2 (u6.trans up) ga Ha
 exact⟨a,C,d,b,H,rfl,I.os,I.bare,u2,hok2,fly2,q⟩
end
def aoJ(J:It)(k:Nat)(js:List Nat)(g:TG)(σ:St)(tt:TT)(te:TX)(E:XK)(Q:VK)(H1:Hp):Prop:=∀D,H1 D=none->∃W:Nat->Nat->Hp->Prop,(∃m,W 0 m (upd H1 D (.lst [])))/\∀i m H2,W i m H2->
 (J.stop i H2/\Q (.ref D) H2)∨(J.go i H2/\∀v H3,J.yld i H2 v H3->∀τ:St,τ.length=k->g v (τ++aaT js σ) H3 fun σ2 H3'=>(∃τ':St,τ'.length=k/\σ2=τ'++aaT js σ)/\tt σ2 H3' fun b H4=>if b=true then
  te σ2 H4 (fun y H5=>∃ys,H5 D=some (.lst ys)/\ys.length<sizeLine/\∃m',m'<m/\W (i+1) m' (upd H5 D (.lst (ys++[y])))) E
  else ∃m',m'<m/\W (i+1) m' H4)
def asP(wi:TI)(k:Nat)(js:List Nat)(g:TG)(tt:TT)(te:TX)(E:XK):TE:=fun σ H Q=>wi σ H fun J H1=>aoJ J k js g σ tt te E Q H1
section
variable{X:Cx}{elt iter tg:Expr}{xs:List Str}{pos:Pos}{ifs:List Expr}{scope:Scope}{cl:List (Str×Addr)}{N':List Str}{js:List Nat}{tt:TT}{g:TG}{wi:TI}
theorem ajS{pins:List (Addr×Obj)}{σ:St}{H:Hp}{s:Shared}{Q:VK}{E:XK}{te:TX}{RR:Value->Addr->Result->Shared->Prop}{J:It}{fp:List Addr}{it:Addr}{tn:Nat->Heap->Prop}
  (hcl:Clos X scope cl) (hnd:(xs++N').Nodup) (hN:js.map (fun j=>X.N[j]?)=N'.map some)
  (hk:N'.all (fun y=>(X.env.kindOf y==some .cell)||(X.env.kindOf y==some .free))=true) (hf:N'.all (fun y=>scope.names.lookup y==some .free)=true) (hc:X.calm=true)
  (hg:∀(C:Addr) (ex:List Addr) (pins:List (Addr×Obj)) (s:Shared) (H:Hp),PG (aaI X (xs++N') scope cl C ex pins s H) tg g)
  (ht:∀(C:Addr) (ex:List Addr) (pins:List (Addr×Obj)) (s:Shared) (H:Hp),PF (aaI X (xs++N') scope cl C ex pins s H) ifs tt)
  (he:∀(C:Addr) (ex:List Addr) (pins:List (Addr×Obj)) (s:Shared) (H:Hp),Px (aaI X (xs++N') scope cl C ex pins s H) elt te)
  (I:Inv X pins σ H s) (T:Turn X.prog X.w X.K (tg) J fp it tn) (st:tn 0 s.heap) (hfp:∀b∈fp,acI X pins H b)
  (q:∀D,H D=none->∃W:Nat->Nat->Hp->Prop,(∃m,W 0 m (upd H D (.lst [])))/\∀i m H2,W i m H2->
   (J.stop i H2/\Q (.ref D) H2)∨(J.go i H2/\∀v H3,J.yld i H2 v H3->∀τ:St,τ.length=xs.length->g v (τ++aaT js σ) H3 fun σ2 H3'=>(∃τ':St,τ'.length=xs.length/\σ2=τ'++aaT js σ)/\tt σ2 H3' fun b H4=>if b=true then
    te σ2 H4 (fun y H5=>∃ys,H5 D=some (.lst ys)/\ys.length<sizeLine/\∃m',m'<m/\W (i+1) m' (upd H5 D (.lst (ys++[y])))) E
    else ∃m',m'<m/\W (i+1) m' H4))
  (hRR:∀(D C:Addr) (s':Shared) (H':Hp) (m:Str->Option Value),Inv X pins σ H' s'->H' C=none->C≠X.env.locals->X.s₀.heap.objs.size<=C->(∀y c,X.env.cells.lookup y=some c->c≠C)->(∀p∈X.pn++pins,p.1≠C)->s'.heap.Ns C m->Q (.ref D) H'->RR (.ref D) C (.ok .next) s')
  (hER:∀(D C:Addr) (s3:Shared) (H3:Hp) (ps:List (Addr×Obj)) (τ:St) (H1:Hp) (s1:Shared) (e:Value) (s':Shared),C=s3.heap.objs.size->Inv X pins σ H3 s3->(∀b∈fp,acI X pins H3 b)->Inv (aaI X (xs++N') scope cl C fp pins s3 H3) ps τ H1 s1->CX1 X.prog X.w X.stack H1 s1 E e s'->notedBy (model X.prog X.w) X.A (compEnvC scope cl C X.env) (fun e s'=>RR (.ref D) C (.error e) s') e s'):
  wpAny (model X.prog X.w) X.A (newList []) (fun acc s₃=>wpAny (model X.prog X.w) X.A (newFunctionEnv scope X.env.globals cl [] X.env.qual none .none (some X.env)) (fun cenv s₄=>
   codeAny (model X.prog X.w) X.A (.compStart (.ListComp elt [⟨tg,iter,ifs,0⟩] scope pos) 0 (.ref it) acc {cenv with scope:=relabel scope X.env}) (RR acc cenv.locals) s₄) X.xe s₃) X.xe s:=by
 refine wpAny_newObj_type ?_
 have hD:H s.heap.objs.size=none:=I.hok.fresh (Nat.le_refl _)
 have I3:Inv X pins σ (upd H s.heap.objs.size (.lst [])) {s with heap:=s.heap.push {cls:=.type "list",dict:=none,data:=.seq ([]:List Value).toArray} }:=I.lnew (its:=[]) (t':=s.toks) .nil (Nat.zero_le _)
 have hfp3:∀b∈fp,acI X pins (upd H s.heap.objs.size (.lst [])) b/\b<(s.heap.push {cls:=.type "list",dict:=none,data:=.seq ([]:List Value).toArray}).objs.size:=fun b hb=>by
  obtain⟨o,ho,_⟩:=T.obj 0 _ st b hb
  have hlt:=Heap.lt_size ho
  obtain⟨f0,f1⟩:=hfp b hb
  exact⟨⟨by rw[aaE (Nat.ne_of_lt hlt)];exact f0,f1⟩,by rw[Heap.size_push];exact Nat.lt_succ_of_lt hlt⟩
 have st3:tn 0 (s.heap.push {cls:=.type "list",dict:=none,data:=.seq ([]:List Value).toArray}):=T.keep _ _ _ st fun b _ o e=>Heap.get?_push_of_some _ e
 obtain⟨W,⟨m0,w0⟩,turn⟩:=q s.heap.objs.size hD
 generalize hs3:({s with heap:=s.heap.push {cls:=.type "list",dict:=none,data:=.seq ([]:List Value).toArray} }:Shared)=s3 at I3 ⊢
 have hh3:s.heap.push {cls:=.type "list",dict:=none,data:=.seq ([]:List Value).toArray}=s3.heap:=by rw[←hs3]
 rw[hh3] at hfp3 st3
 generalize s.heap.objs.size=D at I3 hfp3 w0 turn hD ⊢
 generalize upd H D (.lst [])=H3 at I3 hfp3 w0
 refine wpAny_newFunctionEnv hcl.nocell (by intro y hy;simp at hy) (fun h₁ hns₁ hsb₁=>?_) hcl.kind
 have hkeep:∀b o,s3.heap.get? b=some o->h₁.get? b=some o:=fun b o e=>hsb₁.extBut b o (Nat.ne_of_lt (Heap.lt_size e)) (Heap.get?_push_of_some _ e)
 have J4:Inv (aaI X (xs++N') scope cl s3.heap.objs.size fp pins s3 H3) [] (List.replicate xs.length none++aaT js σ) H3 {s3 with heap:=h₁,toks:=s3.toks+([]:List (Str×Value)).length}:=
  al8 hcl hN hk hf I3 hfp3 rfl rfl rfl hkeep hns₁
 have st4:tn 0 h₁:=T.keep _ _ _ st3 fun b _ o e=>hkeep b o e
 have cell':∀{s':Shared} {σ':St} {H':Hp},Inv (aaI X (xs++N') scope cl s3.heap.objs.size fp pins s3 H3) [] σ' H' s'->Q (.ref D) H'->RR (.ref D) s3.heap.objs.size (.ok .next) s':=fun {s' σ' H'} J hq=>by
  obtain⟨m,hn,_⟩:=J.loc
  refine hRR D _ s' H' m (apC I3 (fun b hb=>(hfp3 b hb).1) J) J.free (Nat.ne_of_gt I3.lt) I3.sz (fun y c e z=>?_) (fun p hp z=>?_) hn hq
  ·obtain⟨v,k⟩:=I3.cell y c e
   exact absurd k.lt (by rw[z];exact Nat.lt_irrefl _)
  ·exact absurd (Heap.lt_size (I3.pin p hp).1) (by rw[z];exact Nat.lt_irrefl _)
 have fpX:∀{H':Hp},(∀b∈fp,H' b=none)->∀b∈fp,acI (aaI X (xs++N') scope cl s3.heap.objs.size fp pins s3 H3) [] H' b:=fun {H'} hn b hb=>by
  obtain⟨⟨f0,f1,f2,f3,f4,f5⟩,flt⟩:=hfp3 b hb
  refine⟨hn b hb,Nat.ne_of_lt flt,fun z=>?_,.inl hb,fun y c e=>f4 y c (hcl.sub y c e),fun p hp=>?_⟩
  ·rcases List.mem_cons.mp (I3.stkSub b z) with z | z
   ·exact f1 z
   ·exact f2 z
  ·have hp:p∈(X.pn++pins)++[]:=hp
   rw[List.append_nil] at hp
   exact f5 p hp
 have loop:∀s₄:Shared,s₄={s3 with heap:=h₁,toks:=s3.toks+([]:List (Str×Value)).length}->
   codeAny (model X.prog X.w) X.A (.compLoop (.ListComp elt [⟨tg,iter,ifs,0⟩] scope pos) 0 (.ref it) (.ref D) (compEnvC scope cl s3.heap.objs.size X.env)) (RR (.ref D) s3.heap.objs.size) s₄:=by
  rintro s₄ rfl
  refine aiB rfl (fun n s'=>∃i τ H',τ.length=xs.length/\Inv (aaI X (xs++N') scope cl s3.heap.objs.size fp pins s3 H3) [] (τ++aaT js σ) H' s'/\tn i s'.heap/\(∀b∈fp,H' b=none)/\W i n H') ?_ m0 ⟨0,List.replicate xs.length none,H3,List.length_replicate,J4,st4,fun b hb=>(hfp3 b hb).1.1,w0⟩
  rintro n s5 ⟨i,τ,H5,hτ,J5,st5,fr5,w5⟩
  rcases turn i n H5 w5 with ⟨stop,qn⟩ | ⟨go,step⟩
  ·refine wpAny_mono (T.done (aaI X (xs++N') scope cl s3.heap.objs.size fp pins s3 H3) rfl rfl rfl hc i [] s5 _ H5 (fun _ _=>False) J5 (fpX fr5) st5 stop) (fun r s6 ⟨hr,J6⟩=>?_) fun _ _ z=>z.elim
   subst hr
   exact cell' J6 qn
  ·refine wpAny_mono (T.item (aaI X (xs++N') scope cl s3.heap.objs.size fp pins s3 H3) rfl rfl rfl hc i [] s5 _ H5 (fun _ _=>False) J5 (fpX fr5) st5 go) (fun r s6 ⟨u,hr,h6⟩=>?_) fun _ _ z=>z.elim
   subst hr
   refine wpAny_mono h6 (fun _ s6' h6'=>?_) fun _ _ z=>z.elim
   obtain⟨v,H6,J6,r6,y6,st6,fr6⟩:=h6'
   clear h6
   have J6':=J6.pinned (fpX fr6) (T.obj _ _ st6)
   show wpAny _ _ (assign tg _ u) _ _ _
   refine wpAny_mono (hg _ _ _ _ _ _ s6' _ H6 v u _ J6' r6 (step v H6 y6 τ hτ)) (fun _ s7 h7=>?_) fun _ _ z=>z.elim
   obtain⟨_,H7,J7,⟨τ',hτ',rfl⟩,q7⟩:=h7
   have again:∀{σ8:St} {H8:Hp} {s8:Shared},Inv (aaI X (xs++N') scope cl s3.heap.objs.size fp pins s3 H3) ([]++aeI fp s6'.heap) σ8 H8 s8->tn (i+1) s8.heap/\∀b∈fp,H8 b=none:=fun {σ8 H8 s8} J8=>by
    refine⟨T.keep _ _ _ st6 fun b hb o e=>(J8.pin (b,o) (List.mem_append_right _ (List.mem_append_right _ (abI hb e)))).1,fun b hb=>?_⟩
    obtain⟨o,e,d⟩:=T.obj _ _ st6 b hb
    exact (J8.pin (b,o) (List.mem_append_right _ (List.mem_append_right _ (abI hb e)))).2.1
   refine wpAny_mono (ht _ _ _ _ _ _ s7 _ H7 _ J7 q7) (fun ok s8 ⟨H8,J8,q8⟩=>?_) fun _ _ z=>z.elim
   cases ok with
   |false=>
    obtain⟨m',hm,w8⟩:=(show ∃m',m'<n/\W (i+1) m' H8 from q8)
    obtain⟨a1,a2⟩:=again J8
    exact⟨m',hm,i+1,τ',H8,hτ',J8.unpinned,a1,a2,w8⟩
   |true=>
    refine wpAny_mono ((he _ _ _ _ _).h _ s8 _ H8 _ E J8 q8) (fun y s9 ⟨z,H9,J9,r9,ys,hys,hlen,m',hm,w9⟩=>?_) fun e s9 ⟨s1,H1,J1,hx⟩=>hER D _ s3 H3 _ _ H1 s1 e s9 rfl I3 (fun b hb=>(hfp3 b hb).1) J1 hx
    refine wpAny_mono (afL (X:=aaI X (xs++N') scope cl s3.heap.objs.size fp pins s3 H3) _ s9 _ H9 (.ref D) [z] (.ref D) [y] (fun _ H10=>H10=upd H9 D (.lst (ys++[z]))) J9 rfl (.cons r9 .nil) ⟨D,ys,z,rfl,rfl,hys,hlen,rfl⟩) (fun _ s10 ⟨_,H10,J10,_,e10⟩=>?_) fun _ _ z=>z.elim
    subst e10
    obtain⟨a1,a2⟩:=again J10
    exact⟨m',hm,i+1,τ',_,hτ',J10.unpinned,a1,a2,w9⟩
 exact codeAny_compStart_list (loop _ rfl) (T.self _ 0 _ _ _ st4 (loop _ rfl))
end
section
variable{P:Program}{w:World}{K:PySem.W.Frag}{mg:Str->Option Value}{base:Heap}{N:List Str}{qual:Str}{scope0:Scope}{f:Addr}{cd:Value}{A:Around}{outer:List Env}{s0:Shared}{H0:Hp}{E:XK}
variable{elt iter tg:Expr}{pos:Pos}{ifs:List Expr}{scope:Scope}{js:List Nat}{tt:TT}{te:TX}{g:TG}{wi:TI}
theorem aqE{xs N':List Str}{cl:List (Str×Addr)}{pins ps:List (Addr×Obj)}{σ τ:St}{H3 H1:Hp}{s3 s1 s':Shared}{fp:List Addr}{C D:Addr}{e:Value}{Q:Value->Shared->Prop}(hC:C=s3.heap.objs.size)
  (I:Inv (aaS (CX1 P w) P w K mg base N qual scope0 f cd A outer s0 H0 E) pins σ H3 s3) (hfp:∀b∈fp,acI (aaS (CX1 P w) P w K mg base N qual scope0 f cd A outer s0 H0 E) pins H3 b)
  (J:Inv (aaI (aaS (CX1 P w) P w K mg base N qual scope0 f cd A outer s0 H0 E) (xs++N') scope cl C fp pins s3 H3) ps τ H1 s1)
  (h:CX1 P w (aaS (CX1 P w) P w K mg base N qual scope0 f cd A outer s0 H0 E).stack H1 s1 E e s'):
  notedBy (model P w) (aaS (CX1 P w) P w K mg base N qual scope0 f cd A outer s0 H0 E).A (compEnvC scope cl C (aaS (CX1 P w) P w K mg base N qual scope0 f cd A outer s0 H0 E).env) (fun e s'=>compPost (model P w) (aaS (CX1 P w) P w K mg base N qual scope0 f cd A outer s0 H0 E).A (aaS (CX1 P w) P w K mg base N qual scope0 f cd A outer s0 H0 E).xe none Q (.ref D) C (.error e) s') e s':=by
 obtain⟨a,C',d,b,H',rfl,os,bare,un,hok,fly,q⟩:=h
 have J':=J.call' os un hok bare (fun _ z=>nomatch z)
 obtain⟨T,hT,fl⟩:=fly.flying J'.stack
 have fr:(compEnvC scope cl C (aaS (CX1 P w) P w K mg base N qual scope0 f cd A outer s0 H0 E).env).frame=(aaS (CX1 P w) P w K mg base N qual scope0 f cd A outer s0 H0 E).env.frame:=rfl
 unfold notedBy
 rw[amM fr]
 refine agX (L:=s0.heap.objs.size) (ah9 C' d b) I.ok.frames rfl fl fun h4 held4 sm4=>?_
 have hid:∀b∈frs (aaS (CX1 P w) P w K mg base N qual scope0 f cd A outer s0 H0 E).stack++[a,T],b∈frs (aaS (CX1 P w) P w K mg base N qual scope0 f cd A outer s0 H0 E).stack∨(H' b=none/\s1.heap.get? b=none):=fun b hb=>by
  rcases List.mem_append.mp hb with z | z
  ·exact .inl z
  ·rcases List.mem_cons.mp z with rfl | z
   ·exact .inr ⟨fly.1,fly.2.1⟩
   ·obtain rfl:b=T:=by simpa using z
    exact .inr hT
 obtain⟨u4,hok4,fly4⟩:=awF (fs:=frs (aaS (CX1 P w) P w K mg base N qual scope0 f cd A outer s0 H0 E).stack) un hok J'.stkFree (akC J'.stack) hid held4 sm4 fly.2.1 fly.1
 have J4:=J.call' (s':={s' with heap:=h4}) os u4 hok4 bare (fun _ z=>nomatch z)
 obtain⟨m,hn,_⟩:=J4.loc
 have hn:h4.Ns C m:=hn
 refine⟨m,hn,fun h5 sb cenv hcl=>?_⟩
 have I4:Inv (aaS (CX1 P w) P w K mg base N qual scope0 f cd A outer s0 H0 E) pins σ H' {s' with heap:=h4}:=I.call' (ch:=fp) J4.os J4.base J4.hok J4.bare fun b hb=>⟨(hfp b hb).2.2.2.1,(hfp b hb).2.1,(hfp b hb).2.2.2.2.1,(hfp b hb).2.2.2.2.2⟩
 have I5:Inv (aaS (CX1 P w) P w K mg base N qual scope0 f cd A outer s0 H0 E) pins σ H' {s' with heap:=h5}:=I4.turned (t':=s'.toks) (fun b o hb e=>(sb.2 b hb).trans e) J4.free (by rw[hC];exact Nat.ne_of_gt I.lt) (.inr (by rw[hC];exact I.sz)) (fun y c e z=>by
   obtain⟨v,k⟩:=I.cell y c e
   exact absurd k.lt (by rw[z,hC];exact Nat.lt_irrefl _)) (fun p hp z=>absurd (Heap.lt_size (I.pin p hp).1) (by rw[z,hC];exact Nat.lt_irrefl _))
 obtain⟨_,ga1,o,vs,T',oT,ts,ho,hT',hnT,nT⟩:=fly4
 obtain⟨oC,es,ep,goC,dC,_⟩:=hn
 have nC:∀{b:Addr} {u:Obj} {ws:Array Value},h4.get? b=some u->u.data=.fields ws->b≠C:=fun e1 e2 z=>by
  rw[z,goC] at e1
  cases e1
  rw[dC] at e2
  cases e2
 have ho5:h5.get? a=some o:=(sb.2 a (nC ho.1 ho.2.1)).trans ho.1
 have hT5:h5.get? T'=some oT:=(sb.2 T' (nC hT'.1 hT'.2.1)).trans hT'.1
 have gone:∀{b:Addr},s1.heap.get? b=none->s0.heap.get? b=none:=fun {b} e=>by
  cases z:s0.heap.get? b with
  |none=>rfl
  |some u=>
   obtain⟨u1,z1⟩:=I.base.there b u z (fun y=>nomatch y)
   have nx:b∉fp:=fun hb=>by
    rcases (hfp b hb).2.2.2.1 with y | y
    ·exact nomatch y
    ·exact absurd (Heap.lt_size z) (Nat.not_lt.mpr y)
   obtain⟨u2,z2⟩:=J.base.there b u1 z1 nx
   rw[e] at z2;cases z2
 have F5:Fg (Ex C' d b) (rawInt s0.heap.objs.size) (PySem.W.hideAll h5 (frs (envOfC qual scope0 s0.heap.objs.size f cd::outer)++[a,T'])) (envOfC qual scope0 s0.heap.objs.size f cd::outer) a h5:=
  ⟨fun b o e=>PySem.W.of_hideAll _ e,PySem.W.hideAll_none _ (by simp),PySem.W.funFrames_hide I5.stack fun env he b hb=>List.mem_append_left _ (List.mem_filterMap.mpr ⟨env,he,hb⟩),o,vs,T',oT,ts,⟨ho5,ho.2⟩,⟨hT5,hT'.2⟩,PySem.W.hideAll_none _ (by simp),nT⟩
 unfold PySem.passOn
 refine wpAny_bind (wpAny_field (s:={s' with heap:=h5}) ho5 ho.2.1 ho.2.2.1 ?_)
 rw[if_neg (by simp)]
 refine wpAny_bind (abJ cenv.frame F5 fun h6 F6 u6=>?_)
 exact wpAny_throw (aFL (s:={s' with heap:=h5}) I5 F6 u6 fly.1 (gone ga1) hnT.1 (gone hnT.2) q)
theorem auQ(xs N':List Str)(js:List Nat)(hi:Il (aaS (CX1 P w) P w K mg base N qual scope0 f cd A outer s0 H0 E) (tg) iter wi)
  (hg:∀(cl:List (Str×Addr)) (C:Addr) (ex:List Addr) (pins:List (Addr×Obj)) (s:Shared) (H:Hp),Gt (aaI (aaS (CX1 P w) P w K mg base N qual scope0 f cd A outer s0 H0 E) (xs++N') scope cl C ex pins s H) tg g)
  (ht:∀(cl:List (Str×Addr)) (C:Addr) (ex:List Addr) (pins:List (Addr×Obj)) (s:Shared) (H:Hp),Fs (aaI (aaS (CX1 P w) P w K mg base N qual scope0 f cd A outer s0 H0 E) (xs++N') scope cl C ex pins s H) ifs tt)
  (he:∀(cl:List (Str×Addr)) (C:Addr) (ex:List Addr) (pins:List (Addr×Obj)) (s:Shared) (H:Hp),Px (aaI (aaS (CX1 P w) P w K mg base N qual scope0 f cd A outer s0 H0 E) (xs++N') scope cl C ex pins s H) elt te)
  (hcl:∃cl,Clos (aaS (CX1 P w) P w K mg base N qual scope0 f cd A outer s0 H0 E) scope cl:=by exact akD rfl rfl rfl rfl) (hnd:(xs++N').Nodup:=by decide +kernel) (hN:js.map (fun j=>N[j]?)=N'.map some:=by rfl)
  (hk:N'.all (fun y=>((aaS (CX1 P w) P w K mg base N qual scope0 f cd A outer s0 H0 E).env.kindOf y==some .cell)||((aaS (CX1 P w) P w K mg base N qual scope0 f cd A outer s0 H0 E).env.kindOf y==some .free))=true:=by rfl) (hf:N'.all (fun y=>scope.names.lookup y==some .free)=true:=by rfl)
  (hs:∀x,foldedSetIterable iter (aaS (CX1 P w) P w K mg base N qual scope0 f cd A outer s0 H0 E).env x=pure x:=by intro _;rfl):L2.E (aaS (CX1 P w) P w K mg base N qual scope0 f cd A outer s0 H0 E) (.ListComp elt [⟨tg,iter,ifs,0⟩] scope pos) (asP wi xs.length js g tt te E):=by
 obtain⟨cl,hcl⟩:=hcl
 refine⟨fun pins s σ H Q I h=>?_⟩
 rw[eval_ListComp]
 refine wpAny_comprehension_free (use:=none) rfl hs hcl.is hcl.kind hcl.names (thn (hi.h pins s σ H _ I h) fun xv s₁ h₁=>thn h₁ fun itv s₂ h₂=>?_)
 obtain⟨it,fp,tn,J,H2,rfl,I2,T,st,hfp,q⟩:=h₂
 refine ajS (RR:=fun acc C=>compPost (model P w) (aaS (CX1 P w) P w K mg base N qual scope0 f cd A outer s0 H0 E).A (aaS (CX1 P w) P w K mg base N qual scope0 f cd A outer s0 H0 E).xe none (EP (aaS (CX1 P w) P w K mg base N qual scope0 f cd A outer s0 H0 E) pins σ Q) acc C) hcl hnd hN hk hf rfl (fun C ex pins s H=>(hg cl C ex pins s H).h) (fun C ex pins s H=>(ht cl C ex pins s H).h) (fun C ex pins s H=>he cl C ex pins s H) I2 T st hfp q ?_ ?_
 ·intro D C s' H' m I' hC0 hCL hCs hCc hCp hn hq
  refine⟨m,hn,fun h' sb=>⟨.ref D,H',?_,rfl,hq⟩⟩
  exact I'.turned (t':=s'.toks) (fun b o hb e=>(sb.2 b hb).trans e) hC0 hCL (.inr hCs) hCc hCp
 ·intro D C s3 H3 ps τ H1 s1 e s' hC I3 hfp3 J hx
  exact aqE hC I3 hfp3 J hx
end
section
variable{js:List Nat}{σ:St}{tt:TT}{te:TX}{E:XK}{Q:VK}{H1:Hp}
theorem amP{K K':PySem.W.Frag}{a:Addr}{xs:List V}(R:Addr->Nat->List V->Hp->Prop)(hm:∀D i l H l',R D i l H->R D i l (upd H D (.lst l')))(hS:∀D i l H H',Same H H'->R D i l H->R D i l H')(hn:xs.length<=sizeLine)(h0:∀D,H1 D=none->R D 0 [] H1)(hq:SqL K H1 a xs)
  (hs:∀(i:Nat) (x:V) (l:List V) (D:Addr) (H2:Hp) (F:V->Hp->Prop) (G:Hp->Prop),xs[i]? =some x->R D i l H2->H1 D=none->Same H1 H2->H2 D=some (.lst l)->(∀y H5,Same H2 H5->R D (i+1) (l++[y]) H5->F y H5)->(∀H4,Same H2 H4->R D (i+1) l H4->G H4)->
   tt (some (.int i)::some x::aaT js σ) H2 fun b H4=>if b=true then te (some (.int i)::some x::aaT js σ) H4 F E else G H4)
  (hd:∀(D:Addr) (H2:Hp) (l:List V),R D xs.length l H2->H1 D=none->Same H1 H2->H2 D=some (.lst l)->Q (.ref D) H2):
  aoJ (Ite K a) 2 js (arP K' 2 (ajA (abS 0) (ajA (abS 1) atU))) σ tt te E Q H1:=
 anC (te:=fun σ H Q=>te σ H Q E) R hm hS hn h0 hq hs hd
end
structure DfMQ(P:Program)(w:World)(K:PySem.W.Frag)(mg:Str->Option Value)(base:Heap)(C:Addr)(m:Str)(k:Nat)(ps:List Str)(sp:Sp):Prop where
 ex:∃(f:Addr) (fd:FuncData),(∀vs H Q E,sp vs H Q E->vs.length=ps.length)/\(∀(A:Around) (outer:List Env) (s:Shared) (H:Hp) (args:Args) (us:List Value) (vs:List V) (Q:VK),RoomQ k A->Env0 P w K mg base A outer s H->BindsTo s fd args (ps.zip us)->Vals vs us->sp vs H Q E0->
  codeAny (model P w) A (.call (.ref f) args) (CR CX0 outer P w H s Q E0) s)/\Binds K fd ps []/\Meth K C m f
theorem RoomQ.make{k:Nat}{A:Around}(r:RoomQ (k+1) A)(C:Addr)(us:List Value)(kw:List (Str×Value)):RoomQ k (A.under (.builtin "type.__call__" ⟨.ref C::us,kw⟩)):=
 ⟨by have:=r.dp;rw[ahS];omega,by have:=r.un;rw[ahW];omega⟩
section
variable{P:Program}{w:World}{K:PySem.W.Frag}{mg:Str->Option Value}{base:Heap}{m qual:Str}{st:Stmt}{ps N:List Str}{k:Nat}{sp:Sp}{C:Addr}
theorem FnM.dfsQ(F:FnM K C m qual st ps)(S':FnScope N ps (aaC st))(len:∀vs H Q E,sp vs H Q E->vs.length=ps.length)
  (hbody:∀(f:Addr) (cdv:Value) (A:Around) (outer:List Env) (s:Shared) (H:Hp) (vs:List V) (Q:VK),RoomQ k (A.deeper (envOfC qual (aaC st) s.heap.objs.size f cdv))->sp vs H Q E0->
   ∃t,Ss (aq9 P w K mg base N qual (aaC st) f cdv A outer s H) (aaP st) t/\t {nx:=fun _ H'=>Q .non H',rt:=Q} (start N vs) H):DfMQ P w K mg base C m (k+1) ps sp:=by
 obtain⟨f,fd,F1,hb,hm⟩:=F.ex
 obtain⟨oc,od,kV,doc,pm,an,cdv,ct,osl,rfl,lk,hcd⟩:=F1.ex
 refine⟨⟨f,_,len,fun A outer s H args us vs Q hr e0 hbd r hsp=>?_,hb,hm⟩⟩
 have stay:∀b o,base.get? b=some o->s.heap.get? b=some o:=fun b o e=>(e0.bs b o e).1
 have KX:=e0.mod.kin.keeps stay
 have names:∀y∈ps.zip us,(aaC st).names.lookup y.1=some .local∨((aaC st).names.lookup y.1=some .cell/\((cellsFrom (s.heap.objs.size+1) (aaC st).names []).lookup y.1).isSome=true):=fun y hy=>by
  rcases S'.par y.1 (List.of_mem_zip hy).1 with q | q
  ·exact .inl q
  ·exact .inr ⟨q,PySem.W.cellsFrom_some _ _ _ (.inl q)⟩
 refine codeAny_call_function (by have:=hr.dp;omega) (KX _ _ lk) rfl S'.co S'.gen rfl (PySem.W.codeRec_of KX hcd) (hbd _ _ _ _ (wpAny_newFunctionEnv_cells S'.kind names fun env he s1 y=>?_))
 subst he
 refine⟨(e0.mod.nolimit.keeps stay).keeps y.toInCall.keep,codeAny_func ?_⟩
 obtain⟨t,ht,hq⟩:=hbody f cdv A outer s H vs Q (hr.deeper _) hsp
 have I:=ag8 (qual:=qual) (f:=f) (cd:=cdv) S' e0 (len _ _ _ _ hsp) r y
 refine wpAny_mono (ht.h [] s1 (start N vs) H _ I hq) (fun fl s' hs=>?_) fun e s' hs=>False.elim hs
 cases fl with
 |ret u=>
  obtain⟨v,σ',H',J,rv,q⟩:=hs
  exact⟨v,H',J.os,J.bare,J.base,J.hok,rv,q⟩
 |next=>
  obtain⟨σ',H',J,q⟩:=hs
  exact⟨V.non,H',J.os,J.bare,J.base,J.hok,rfl,q⟩
 |brk=>obtain⟨_,_,_,q⟩:=hs;exact False.elim q
 |cont=>obtain⟨_,_,_,q⟩:=hs;exact False.elim q
end
section
variable{X:Cx}{pins:List (Addr×Obj)}{σ:St}{H:Hp}{s:Shared}
theorem Inv.forgetBut{a:Addr}{φ:Heap->Prop}{h':Heap}(I:Inv X pins σ H s)(e:H a=some (.ext φ))(sb:Heap.SameBut a s.heap h')(th:∃o,h'.get? a=some o):Inv X pins σ (rem H a) {s with heap:=h'}:=by
 have nt:∀{b:Addr} {o:HO},H b=some o->(∀φ,o≠ .ext φ)->b≠a:=fun {b o} q n z=>by rw[z,e] at q;exact n _ (Option.some.inj q).symm
 have kn:∀{b:Addr} {o:HO},H b=some o->(∀φ,o≠ .ext φ)->rem H a b=some o:=fun {b o} q n=>by
  rw[adH (nt q n)]
  exact q
 have ne:∀{b:Addr},H b=none->b≠a:=fun n z=>by rw[z,e] at n;cases n
 have fr:∀{b:Addr},H b=none->rem H a b=none:=fun {b} n=>by rw[adH (ne n)];exact n
 exact I.un (t':=s.toks) ⟨fun b o q n _ _=>(sb.2 b (ne n)).trans q,fun b o q n _ _=>⟨o.slots,(sb.2 b (ne n)).trans q⟩,fun b o _ n _=>fr n,fun b o q _=>by
   by_cases hb:b=a
   ·rw[hb];exact th
   ·exact⟨o,(sb.2 b hb).trans q⟩,fun b xs q=>kn q (fun _ z=>nomatch z),fun b o v q=>kn q (fun _ z=>nomatch z),fun b ps q=>⟨#[],(by rw[Array.append_empty];exact kn q fun _ z=>nomatch z)⟩⟩ fun b o q=>by
  by_cases hb:b=a
  ·rw[hb,adC] at q;cases q
  ·rw[adH hb] at q
   refine (I.hok b o q).stay (fun c v hc z=>(sb.2 c ?_).trans z) (fun c z=>kn z fun _ y=>nomatch y) fun c xs z=>kn z fun _ y=>nomatch y
   rcases hc with rfl | hc
   ·exact hb
   ·exact nt hc fun _ y=>nomatch y
end
def arT(a C:Addr)(sp:Sp)(E:XK)(t:TA):TS:=fun _ σ H=>t σ H fun vs H1=>vs.length<=sizeLine/\(∃u,H1 a=some u)/\∀e,H1 e=none->sp (.ref e::vs) (upd H1 e (xn e C none)) (fun v H2=>v=.non/\(∃C' d',H2 a=some (xo a C' d' true))/\∃dx,H2 e=some (xn e C (some dx))/\E (wc C) (some dx) (rem H2 e)) E0
section
variable{X:Cx}{E:XK}{x:Str}{C a:Addr}{e:Expr}{es:List Expr}{t:TA}{np cpos pos p2:Pos}{j k k':Nat}{ps:List Str}{sp:Sp}
theorem aIF(hM:ax0 X a E)(hm:X.mg x=some (.ref C))(hq:ahF X.K C=true)(D:DfMQ X.prog X.w X.K X.mg X.base C "__init__" k ps sp)(hr:RoomQ k' (X.hnx a).A)(ha:As (X.hnx a) (e::es) t)(hk:k+1<=k':=by decide)(hex:X.ex=[]:=by rfl)(hg:Gl X x:=by rfl)(hdb:(x==("__debug__":Str))=false:=by decide)
  (he:starEach (e::es) X.env=(false,eval e X.env)::starEach es X.env:=by rfl) (hpl:(backTo cpos (starEach es X.env)).any (·.1)=false:=by rfl):
  S (X.hnx a) (.Raise (some (.Call (.Name x np) (e::es) [] cpos)) (some (.Constant .none j p2)) pos) (arT a C sp E t):=by
 obtain⟨f,fd,flen,frun,hb,hme⟩:=D.ex
 refine⟨fun pins s σ H De I h=>?_⟩
 have pl:(backTo cpos ((false,eval e X.env)::starEach es X.env)).any (·.1)=false:=hpl
 have hh:(X.A.mark (some (.ref a))).handled=some (.ref a):=rfl
 rw[arm_exec_Raise]
 simp only[evalOpt,Option.map]
 refine wpAny_bind (wpAny_standAt (afJ (C:=C) (a:=a) hh (fun s1 R q=>wpAny_bind (Constant_none (wpAny_bind (wpAny_standAt (wpAny_pure q))))) ?_))
 refine wpAny_bind (wpAny_mono (wpAny_Call_ofName (abG I hg hm ?_ hdb)) (fun v s3 h3=>wpAny_bind (wpAny_standAt (wpAny_pure h3))) fun _ _ z=>z)
 unfold callWith
 have hw:=ha.h cpos pins s σ H _ I h
 rw[he] at hw ⊢
 refine wpAny_bind (wpAny_holding (Calls.evalArgs_plain (thn hw fun us s2 ⟨vs,H2,I2,r,hz,⟨ua,hua⟩,q⟩=>wpAny_bind (wpAny_standAt ?_))))
 obtain⟨bm,N,nm,qn,bs,hdct,sn,sub,ab,col,dd,k0,k1,k2,k3,k5,hC,T⟩:=aeZ I2.kIn hq
 simp only[pl]
 refine wpAny_bind (wpAny_keeperOf_exc (h:=s2.heap) (g:=s2.gens) (d:=s2.drawn) (t:=s2.toks) (os:=s2.os) hC ?_)
 refine wpAny_bind (amA I2.kIn hq hme.at_ (beq_iff_eq.mp hme.fn) (by rw[List.nil_append,←r.length];exact hz) fun h' n mk=>?_)
 obtain⟨t0,there,_,_⟩:=mk.there
 obtain⟨Hn,gn⟩:=I2.newX hex mk.new
 have I3:Inv (X.hnx a) pins σ (upd H2 n (xn n C none)) {s2 with heap:=h'}:=I2.born (t':=s2.toks) mk.keeps mk.new (PY.ok ⟨_,_,there,rfl,rfl,(show 4<6 by decide)⟩)
 have sp':=q n Hn
 have r2:Vals (V.ref n::vs) (Value.ref n::us):=.cons rfl r
 have hl:(Value.ref n::us).length=ps.length:=by rw[←r2.length];exact flen _ _ _ _ sp'
 have hbd:=hb {s2 with heap:=h'} (Value.ref n::us) I3.kIn (by rw[List.append_nil];exact hl)
 rw[List.append_nil] at hbd
 refine wpAny_call (codeAny_mono (frun _ (X.hnx a).stack _ _ ⟨Value.ref n::us,[]⟩ (Value.ref n::us) (V.ref n::vs) _ ((hr.mono hk).make C us []) (I3.env0.make C us []) hbd r2 sp') fun rr s' hq'=>?_)
 cases rr with
 |error e=>exact False.elim hq'
 |ok fl=>
  cases fl with
  |next=>exact False.elim hq'
  |brk=>exact False.elim hq'
  |cont=>exact False.elim hq'
  |ret u=>
   obtain⟨v,H4,I4,rv,rfl,⟨C',d',ha2⟩,dx,hx,qE⟩:=I3.after hq'
   obtain⟨⟨vs4,sl4,e4,n1,n2,z4⟩,_,_⟩:=I4.hok n _ hx
   obtain⟨oa,hoa,_,_,va,hda,hva⟩:=(I4.hok a _ ha2).1
   obtain⟨bm4,N4,nm4,qn4,bs4,hdct4,sn4,sub4,ab4,col4,dd4,j0,j1,j2,j3,j5,hC4,T4⟩:=aeZ I4.kIn hq
   have neC:n≠C:=fun z=>by
    rw[z,hC4] at e4
    cases e4
   have nea:a≠n:=aaG hua Hn
   refine⟨rv,wpAny_bind (wpAny_holding (wpAny_point (wpAny_pure ⟨n,some dx,oa,va,rfl,⟨_,_,_,_,_,_,_,_,_,_,_,_,_,_,_,_,_,hC4,T4.hasType (by decide)⟩,⟨vs4,sl4,e4,n1,z4⟩,neC,nea,hoa,hda,hva rfl,fun h3 b3 ⟨vs3,sl3,e3,n3,z3⟩=>?_⟩)))⟩
   have I6:Inv (X.hnx a) pins σ (rem H4 n) {s' with heap:=h3}:=I4.forgetBut hx b3 ⟨_,e3⟩
   exact hM pins σ _ _ n C (some dx) false _ vs3 I6 adC gn e3 rfl n3 ⟨rfl,rfl,vs3,rfl,fun z=>nomatch z⟩ qE
end
end L2
namespace K46
open PySem PySem.Spec PyProof.Rows L2 KM
def top(i:Nat):Stmt:=PySem.Challenge.pw_fivefields_k46_rows_refused.main.body.getD i (.Pass ⟨0,0,0,0⟩)
abbrev ab7:Stmt:=abX (top 5) 0
abbrev acN:Stmt:=abX (top 6) 0
abbrev aeC:Stmt:=top 13
abbrev ae2:Stmt:=top 14
abbrev axJ:Stmt:=top 16
abbrev ai2:Stmt:=top 26
abbrev aeS:Stmt:=top 27
abbrev ahJ:Stmt:=top 28
abbrev aeD:Stmt:=top 29
abbrev ag5:Stmt:=top 30
abbrev adE:Stmt:=top 31
abbrev agI:Stmt:=top 32
abbrev ae6:Stmt:=top 33
abbrev ab2:Stmt:=abX (top 48) 0
abbrev aaW:Stmt:=abX (top 49) 0
abbrev ac4:Stmt:=abX (top 50) 0
abbrev abR:Stmt:=abX (top 52) 0
abbrev adJ:Stmt:=abX (top 53) 0
abbrev ab9:Stmt:=abX (top 54) 0
abbrev ac6:Stmt:=top 55
abbrev adI:Stmt:=top 56
abbrev abT:Stmt:=top 57
abbrev aeV:Stmt:=top 58
abbrev af9:Stmt:=top 59
abbrev ac2:Stmt:=top 60
abbrev ahI:Stmt:=top 71
abbrev adO:Stmt:=abX (top 72) 0
abbrev af0:Stmt:=top 73
abbrev ai6:Stmt:=top 74
abbrev ahM:Stmt:=top 75
abbrev adB:Stmt:=top 77
abbrev agA:Stmt:=top 78
abbrev ad7:Stmt:=top 79
abbrev aeT:Stmt:=top 80
abbrev agB:Stmt:=top 81
abbrev af5:Stmt:=top 82
abbrev af4:Stmt:=top 83
abbrev aeR:Stmt:=top 84
abbrev acS:Stmt:=top 85
abbrev ahA:Stmt:=top 86
abbrev aeX:Stmt:=top 87
abbrev agG:Stmt:=top 90
abbrev afA:Stmt:=top 88
abbrev ae3:Stmt:=top 89
abbrev ad8:Stmt:=top 91
abbrev ajD:Stmt:=top 92
def azB(y:Int):Bool:=decide (y%4=0)&&(!decide (y%100=0)||decide (y%400=0))
def mb(y s:Int):Int:=(y+s-1) / s
def lasts:List Int:=[31,28,31,30,31,30,31,31,30,31,30,31]
def aHB(y:Int):Int:=if azB y=true then 1 else 0
def aCG(y m:Int):Int:=if m=2 then 28+aHB y else lasts.getD (m-1).toNat 0
def ahN(y:Int):Nat->Int
 |0=>0
 |n+1=>ahN y n+aCG y ((n:Int)+1)
def ahead(y m:Int):Int:=ahN y (m-1).toNat
def DVn(c:Cs)(D:Addr)(H:Hp)(v:V)(ko:Option (List Mk)):Prop:=DV c H v ko/\∀p,v=.ref p->p≠D
theorem DVn.keep{c:Cs}{D:Addr}{H H':Hp}(s:Same H H'){v:V}{ko:Option (List Mk)}(h:DVn c D H v ko):DVn c D H' v ko:=⟨h.1.keep s,h.2⟩
theorem DVn.upd{c:Cs}{D:Addr}{H:Hp}{l':List V}{v:V}:∀{ko:Option (List Mk)},DVn c D H v ko->(∃l,H D=some (.lst l))->DVn c D (upd H D (.lst l')) v ko
 |none,h,_=>h
 |some ks,⟨⟨p,qs,e,h1,h2,h3⟩,hn⟩,⟨l,hl⟩=>⟨⟨p,qs,e,by rw[aaE (hn p e)];exact h1,h2.keepM (ag7 hl),h3⟩,hn⟩
def RR(c:Cs)(m0 m1 m3:Int)(kd kw:Option (List Mk))(D:Addr)(i:Nat)(l:List V)(H:Hp):Prop:=match i with
 |0=>l=[]
 |1=>l=[.int m0]
 |2=>l=[.int m0,.int m1]
 |3=>∃dv,l=[.int m0,.int m1,dv]/\DVn c D H dv kd
 |4=>∃dv,l=[.int m0,.int m1,dv,.int m3]/\DVn c D H dv kd
 |_=>∃dv wv,l=[.int m0,.int m1,dv,.int m3,wv]/\DVn c D H dv kd/\DVn c D H wv kw
theorem RR.keep{c:Cs}{m0 m1 m3:Int}{kd kw:Option (List Mk)}{D:Addr}{l:List V}{H H':Hp}(s:Same H H'):∀{i:Nat},RR c m0 m1 m3 kd kw D i l H->RR c m0 m1 m3 kd kw D i l H'
 |0,h=>h
 |1,h=>h
 |2,h=>h
 |3,⟨dv,e,h⟩=>⟨dv,e,h.keep s⟩
 |4,⟨dv,e,h⟩=>⟨dv,e,h.keep s⟩
 |_+5,⟨dv,wv,e,h,h'⟩=>⟨dv,wv,e,h.keep s,h'.keep s⟩
theorem RR.upd{c:Cs}{m0 m1 m3:Int}{kd kw:Option (List Mk)}{D:Addr}{l l':List V}{H:Hp}(hl:∃l,H D=some (.lst l)):∀{i:Nat},RR c m0 m1 m3 kd kw D i l H->RR c m0 m1 m3 kd kw D i l (upd H D (.lst l'))
 |0,h=>h
 |1,h=>h
 |2,h=>h
 |3,⟨dv,e,h⟩=>⟨dv,e,h.upd hl⟩
 |4,⟨dv,e,h⟩=>⟨dv,e,h.upd hl⟩
 |_+5,⟨dv,wv,e,h,h'⟩=>⟨dv,wv,e,h.upd hl,h'.upd hl⟩
theorem atA{ws:List (List Nat)}(h:∀w∈ws,w≠[]):inV (.str (Tx [])) (ws.map fun q=>V.str (Tx q))=false:=by
 unfold inV
 rw[List.any_map,List.any_eq_false]
 intro w hw hc
 have e:Tx w=Tx []:=beq_iff_eq.mp (show (Tx w==Tx [])=true from hc)
 exact h w hw (by have:=congrArg (fun z=>z.cps.toList) e;simpa [Tx] using this)
def am0(m0 m1:Int)(dv:V)(m3:Int)(wv:V)(tm:Int):List (Str×V):=aaM "time_mask" (.int tm) (aaM "weekday_marks" wv (aaM "month_mask" (.int m3) (aaM "day_marks" dv (aaM "hour_mask" (.int m1) (aaM "minute_mask" (.int m0) [])))))
theorem afN(m0 m1:Int)(dv:V)(m3:Int)(wv:V)(tm:Int):(am0 m0 m1 dv m3 wv tm).lookup ("minute_mask":Str)=some (.int m0):=by
 unfold am0
 rw[aaJ,if_neg (by decide +kernel),aaJ,if_neg (by decide +kernel),aaJ,if_neg (by decide +kernel),aaJ,if_neg (by decide +kernel),aaJ,if_neg (by decide +kernel),aaJ,if_pos rfl]
theorem ah5(m0 m1:Int)(dv:V)(m3:Int)(wv:V)(tm:Int):(am0 m0 m1 dv m3 wv tm).lookup ("hour_mask":Str)=some (.int m1):=by
 unfold am0
 rw[aaJ,if_neg (by decide +kernel),aaJ,if_neg (by decide +kernel),aaJ,if_neg (by decide +kernel),aaJ,if_neg (by decide +kernel),aaJ,if_pos rfl]
def SV(b:Bool)(H:Hp)(v:V):Option (List Mk)->Prop
 |none=>v=.non
 |some ks=>∃p us,v=.ref p/\H p=some (.lst (us.map V.ref))/\Ft (TpAt b H) us ks
theorem SV.keep{b:Bool}{H H':Hp}(s:Same H H'){v:V}:∀{ko:Option (List Mk)},SV b H v ko->SV b H' v ko
 |none,h=>h
 |some _,⟨p,us,e,h1,h2⟩=>⟨p,us,e,s _ _ h1,h2.keepT s.keep⟩
theorem alY{t:List Nat}(h:42∉t):t≠[42]:=fun e=>h (by rw[e];exact List.mem_singleton.mpr rfl)
theorem n42{n:Nat}(h:n<100):42∉num n:=aa0 h (by decide)
theorem c42{a b:List Nat}(h1:42∉a)(h2:42∉b):42∉a++b:=fun h=>(List.mem_append.mp h).elim h1 h2
theorem ap8{b:Bool}:∀{ws:List (List Nat)} {ks:List Mk} {t:List Nat} {k:Mk},Ws b ws ks->Cl t/\SpT b t k->Ws b (ws++[t]) (ks++[k])
 |_,_,_,_,.nil,h=>.cons h .nil
 |_,_,_,_,.cons r t,h=>.cons r (ap8 t h)
theorem acL{lo hi:Int}:∀{ws:List (List Nat)} {nss:List (List Int)},Paired (ac3 lo hi) ws nss->(∀w∈ws,Cl w)/\(∀n∈nss.flatten,lo<=n/\n<=hi)/\nss.flatten.length<=64*ws.length
 |_,_,.nil=>⟨fun w hw=>(nomatch hw),fun n hn=>(nomatch hn),Nat.le_refl _⟩
 |w::ws,ns::nss,.cons r t=>by
  obtain⟨h1,h2,h3⟩:=acL t
  refine⟨fun v hv=>?_,fun n hn=>?_,?_⟩
  ·rcases List.mem_cons.mp hv with z | z
   ·subst z;exact r.2.1
   ·exact h1 v z
  ·rw[List.flatten_cons] at hn
   exact (List.mem_append.mp hn).elim (r.2.2.1 n) (h2 n)
  ·rw[List.flatten_cons,List.length_append,List.length_cons]
   have:=r.2.2.2.2
   omega
theorem awS{lo hi:Int}:∀{ws:List (List Nat)} {nss:List (List Int)},Paired (ac3 lo hi) ws nss->ws≠[]->nss.flatten≠[]
 |_,_,.nil,h=>absurd rfl h
 |_,_,.cons r _,_=>fun e=>r.2.2.2.1 (by rw[List.flatten_cons,List.append_eq_nil_iff] at e;exact e.1)
theorem agE{α β:Type}{F:α->β->Prop}:∀{l:List α} {r:List β} {a:α} {b:β},Paired F l r->F a b->Paired F (l++[a]) (r++[b])
 |_,_,_,_,.nil,h=>.cons h .nil
 |_,_,_,_,.cons x t,h=>.cons x (agE t h)
def tmF(h m:Int):Int:=orM ((alJ h).map fun z=>m*2^(60*z).toNat)
theorem aaV{H H1:Hp}{e dx:Addr}{o u1 u2:HO}(s:Same H H1)(he:H1 e=none)(hd:upd H1 e u1 dx=none)(ne:dx≠e):Same H (rem (upd (upd (upd H1 e u1) dx o) e u2) e)/\rem (upd (upd (upd H1 e u1) dx o) e u2) e dx=some o:=by
 have n1:H1 dx=none:=by rw[aaE ne] at hd;exact hd
 refine⟨fun b v hb=>?_,by rw[adH ne,aaE ne,aaA]⟩
 have hb1:=s b v hb
 rw[adH (aaG hb1 he),aaE (aaG hb1 he),aaE (aaG hb1 n1),aaE (aaG hb1 he)]
 exact hb1
def scan(wk:Bool)(lo hi:Int):List (List Nat)->Nat->Nat->Option Nat
 |[],_,_=>none
 |w::ws,i,m=>match aaD lo hi w with
  |some _=>scan wk lo hi ws (i+1) m
  |none=>match rdM wk w with
   |none=>some i
   |some _=>if m=20 then some i else scan wk lo hi ws (i+1) (m+1)
def abD(wk:Bool)(lo hi:Int)(l:List Nat):Option Nat:=
 if 300<l.length then some 0 else match scan wk lo hi ((spl 44 l).take 40) 0 0 with
  |some p=>some p
  |none=>if 40<(spl 44 l).length then some 40 else none
theorem aGH{wk:Bool}{lo hi:Int}{l:List Nat}(h:300<l.length):abD wk lo hi l=some 0:=if_pos h
theorem aj7{wk:Bool}{lo hi:Int}{l:List Nat}{i:Nat}(h:¬300<l.length)(e:scan wk lo hi ((spl 44 l).take 40) 0 0=some i):abD wk lo hi l=some i:=by
 unfold abD
 rw[if_neg h,e]
theorem az1{wk:Bool}{lo hi:Int}{l:List Nat}(h:¬300<l.length)(e:scan wk lo hi ((spl 44 l).take 40) 0 0=none)(h4:40<(spl 44 l).length):abD wk lo hi l=some 40:=by
 unfold abD
 rw[if_neg h,e]
 exact if_pos h4
theorem aq8{wk:Bool}{lo hi:Int}{l:List Nat}(h:¬300<l.length)(e:scan wk lo hi ((spl 44 l).take 40) 0 0=none)(h4:¬40<(spl 44 l).length):abD wk lo hi l=none:=by
 unfold abD
 rw[if_neg h,e]
 exact if_neg h4
section
variable{wk:Bool}{lo hi:Int}{w:List Nat}{ws:List (List Nat)}{i m:Nat}
theorem aj0{z:Int}(h:aaD lo hi w=some z):scan wk lo hi (w::ws) i m=scan wk lo hi ws (i+1) m:=by
 unfold scan;rw[h];cases ws<;>rfl
theorem ajX(h:aaD lo hi w=none)(k:rdM wk w=none):scan wk lo hi (w::ws) i m=some i:=by
 unfold scan;rw[h,k]
theorem akY{x:Mk}(h:aaD lo hi w=none)(k:rdM wk w=some x)(e:m=20):scan wk lo hi (w::ws) i m=some i:=by
 unfold scan;rw[h,k];exact if_pos e
theorem agY{x:Mk}(h:aaD lo hi w=none)(k:rdM wk w=some x)(e:¬m=20):scan wk lo hi (w::ws) i m=scan wk lo hi ws (i+1) (m+1):=by
 unfold scan;rw[h,k]
 show (if m=20 then _ else _)=_
 rw[if_neg e]
 cases ws<;>rfl
end
theorem anP{α:Type}{xs:List α}{i:Nat}{x:α}(h:xs[i]? =some x):xs.drop i=x::xs.drop (i+1):=by
 obtain⟨hi,rfl⟩:=List.getElem?_eq_some_iff.mp h
 exact List.drop_eq_getElem_cons hi
theorem aqU(xs:List V):aiQ xs none (some 40)=xs.take 40:=by
 unfold aiQ
 have e1:HT.sIx xs.length 0 none=0:=rfl
 have e2:HT.sIx xs.length xs.length (some 40)=min 40 xs.length:=by
  unfold HT.sIx
  simp
 rw[e1,e2,List.drop_zero,Nat.sub_zero,List.take_eq_take_iff]
 omega
theorem afT{xs:List V}{i:Int}(h0:0<=i)(h1:i<xs.length):∃v,atI xs i=some v/\v∈xs:=by
 have hk:i.toNat<xs.length:=by omega
 have e:i=((i.toNat:Nat):Int):=by omega
 refine⟨xs[i.toNat],?_,List.getElem_mem hk⟩
 have z:atI xs ((i.toNat:Nat):Int)=some xs[i.toNat]:=akJ (List.getElem?_eq_getElem hk)
 rw[←e] at z
 exact z
def aa1(lo hi:Int)(l:List Nat):Option Nat:=
 if 300<l.length then some 0 else match ((spl 44 l).take 40).findIdx? (fun w=>(aaD lo hi w).isNone) with
  |some p=>some p
  |none=>if 40<(spl 44 l).length then some 40 else none
theorem anN{α:Type}{p:α->Bool}:∀{xs:List α} {i:Nat} {x:α},xs[i]? =some x->p x=true->(∀y∈xs.take i,p y=false)->xs.findIdx? p=some i
 |[],_,_,h,_,_=>by cases h
 |a::xs,0,x,h,hp,_=>by
  obtain rfl:a=x:=by simpa using h
  rw[List.findIdx?_cons,hp]
  rfl
 |a::xs,i+1,x,h,hp,hn=>by
  have ha:p a=false:=hn a (by simp)
  have ih:=anN (xs:=xs) (i:=i) (by simpa using h) hp fun y hy=>hn y (by rw[List.take_succ_cons];exact List.mem_cons_of_mem _ hy)
  rw[List.findIdx?_cons,ha,ih]
  rfl
theorem aoK{α:Type}{p:α->Bool}{xs:List α}(h:∀y∈xs,p y=false):xs.findIdx? p=none:=List.findIdx?_eq_none_iff.mpr h
theorem aoZ{lo hi:Int}{l w:List Nat}{i:Nat}(h3:¬300<l.length)(h:((spl 44 l).take 40)[i]? =some w)(hw:(aaD lo hi w).isNone=true)(hg:∀v∈((spl 44 l).take 40).take i,(aaD lo hi v).isNone=false):aa1 lo hi l=some i:=by
 unfold aa1
 rw[if_neg h3,anN h hw hg]
theorem apT{lo hi:Int}{l:List Nat}(h3:¬300<l.length)(h4:40<(spl 44 l).length)(hg:∀v∈(spl 44 l).take 40,(aaD lo hi v).isNone=false):aa1 lo hi l=some 40:=by
 unfold aa1
 rw[if_neg h3,aoK hg]
 exact if_pos h4
theorem alX{lo hi:Int}{l:List Nat}(h3:¬300<l.length)(h4:¬40<(spl 44 l).length)(hg:∀v∈(spl 44 l).take 40,(aaD lo hi v).isNone=false):aa1 lo hi l=none:=by
 unfold aa1
 rw[if_neg h3,aoK hg]
 exact if_neg h4
theorem auW{lo hi m:Int}{l:List Nat}{n:Nat}(h0:0<=lo)(h1:lo<=hi)(hn:hi<n)(h:aaD lo hi l=some m):0<=m/\m<2^n:=by
 have key:∀{a b s:Int},lo<=a->b<=hi->0<s->ad1 a b s<2^n:=fun {a b s} ha hb hs=>aeY fun z hz=>by
  have:=(agW hs).mp hz
  omega
 refine⟨alK h,?_⟩
 unfold aaD aaY at h
 split at h
 ·split at h
  ·rename_i e1 e2
   cases h
   have b1:=ac0 h1 e1
   have b2:=ahV e2
   refine key b1.1.1 ?_ (by omega)
   split<;>omega
  ·cases h
 ·split at h
  ·rename_i e1
   cases h
   have b1:=ac0 h1 e1
   exact key b1.1.1 b1.2.2 (by decide)
  ·cases h
theorem agC{lo hi:Int}{l:List Nat}(h:aa1 lo hi l=none):l.length<=300/\anV lo hi l:=by
 unfold aa1 at h
 split at h
 ·cases h
 rename_i h3
 split at h
 ·cases h
 rename_i hf
 split at h
 ·cases h
 rename_i h4
 refine⟨by omega,by omega,fun w hw=>?_⟩
 have z:=List.findIdx?_eq_none_iff.mp hf w (by rw[List.take_of_length_le (by omega)];exact hw)
 cases e:aaD lo hi w with
 |none=>rw[e] at z;cases z
 |some x=>rfl
theorem ahT{lo hi:Int}{l:List Nat}{n:Nat}(h0:0<=lo)(h1:lo<=hi)(hn:hi<n)(h:aa1 lo hi l=none):0<=orM (abP lo hi l)/\orM (abP lo hi l)<2^n:=by
 have hf:=(agC h).2.2
 have hm:∀m∈abP lo hi l,0<=m/\m<2^n:=fun m hm=>by
  obtain⟨w,hw,rfl⟩:=List.mem_map.mp hm
  obtain⟨x,ex⟩:=Option.isSome_iff_exists.mp (hf w hw)
  rw[ex]
  exact auW h0 h1 hn ex
 exact⟨aeP fun m z=>(hm m z).1,KM.orM_lt hm⟩
theorem afZ{lo hi m:Int}{t:List Nat}(h:FT lo hi t m):aa1 lo hi t=none:=by
 refine alX (by have:=h.len;omega) (by have:=h.ok.1;omega) fun w hw=>?_
 have z:=h.ok.2 w (List.mem_of_mem_take hw)
 cases e:aaD lo hi w with
 |none=>rw[e] at z;cases z
 |some x=>rfl
theorem anX{wk:Bool}{lo hi:Int}:∀{ws:List (List Nat)} {i m:Nat},(∀w∈ws,(aaD lo hi w).isSome=true∨(rdM wk w).isSome=true)->m+(mkP wk lo hi ws).length<=20->scan wk lo hi ws i m=none
 |[],_,_,_,_=>rfl
 |w::ws,i,m,h,hm=>by
  have hw:=h w (by simp)
  have ih:=fun {m} (hm:m+(mkP wk lo hi ws).length<=20)=>anX (ws:=ws) (i:=i+1) (m:=m) (fun v hv=>h v (List.mem_cons_of_mem _ hv)) hm
  have e0:mkP wk lo hi (w::ws)=mkP wk lo hi [w]++mkP wk lo hi ws:=by unfold mkP;rw[←List.filterMap_append];rfl
  rw[e0,List.length_append] at hm
  cases e1:aaD lo hi w with
  |some z=>
   rw[aj0 e1]
   exact ih (by omega)
  |none=>
   rcases hw with z | z
   ·rw[e1] at z;cases z
   obtain⟨k,ek⟩:=Option.isSome_iff_exists.mp z
   have e2:mkP wk lo hi [w]=[k]:=atO (ws:=[]) e1 ek
   rw[e2] at hm
   have hm:m+(1+(mkP wk lo hi ws).length)<=20:=hm
   rw[agY e1 ek (by omega)]
   exact ih (by omega)
theorem aoB{wk:Bool}{lo hi:Int}{t:List Nat}(h:ItemsOk wk lo hi t):abD wk lo hi t=none:=by
 have hf:=h.few
 exact aq8 (by have:=h.len;omega) (by rw[List.take_of_length_le hf];exact anX h.all (by have:=h.most;omega)) (by omega)
theorem ahE{wk:Bool}{lo hi:Int}:∀{ws:List (List Nat)} {i m:Nat},scan wk lo hi ws i m=none->∀w∈ws,(aaD lo hi w).isSome=true∨(rdM wk w).isSome=true
 |w::ws,i,m,h,v,hv=>by
  cases e1:aaD lo hi w with
  |some z=>
   rw[aj0 e1] at h
   rcases List.mem_cons.mp hv with rfl | hv
   ·exact .inl (by rw[e1];rfl)
   ·exact ahE h v hv
  |none=>
   cases e2:rdM wk w with
   |none=>rw[ajX e1 e2] at h;cases h
   |some k=>
    by_cases c:m=20
    ·rw[akY e1 e2 c] at h;cases h
    rw[agY e1 e2 c] at h
    rcases List.mem_cons.mp hv with rfl | hv
    ·exact .inr (by rw[e2];rfl)
    ·exact ahE h v hv
theorem akQ{wk:Bool}{lo hi:Int}{l:List Nat}(h:abD wk lo hi l=none):∀w∈spl 44 l,(aaD lo hi w).isSome=true∨(rdM wk w).isSome=true:=by
 unfold abD at h
 split at h
 ·cases h
 split at h
 ·cases h
 rename_i hs
 split at h
 ·cases h
 rename_i h4
 rw[List.take_of_length_le (by omega)] at hs
 exact ahE hs
theorem aeQ{lo hi:Int}{l:List Nat}(h:10∈l):aaO lo hi l=none:=by
 unfold aaO
 rw[if_neg]
 intro c
 have:=(ahR c).1 10 h
 exact absurd this.1 (by decide)
theorem acU{c d:Nat}(hc:c≠d):∀{l:List Nat},c∈l->∃w∈spl d l,c∈w
 |x::r,h=>by
  unfold spl
  by_cases e:x=d
  ·rw[if_pos e]
   have hr:c∈r:=by
    rcases List.mem_cons.mp h with z | z
    ·exact absurd (z.trans e) hc
    ·exact z
   obtain⟨w,hw,hcw⟩:=acU hc hr
   exact⟨w,List.mem_cons_of_mem _ hw,hcw⟩
  ·rw[if_neg e]
   rcases List.mem_cons.mp h with z | z
   ·cases hs:spl d r with
    |nil=>exact⟨[x],by simp,by rw[z];simp⟩
    |cons u t=>exact⟨x::u,by simp,by rw[z];simp⟩
   ·obtain⟨w,hw,hcw⟩:=acU hc z
    cases hs:spl d r with
    |nil=>rw[hs] at hw;cases hw
    |cons u t=>
     rw[hs] at hw
     rcases List.mem_cons.mp hw with y | y
     ·exact⟨x::u,by simp,List.mem_cons_of_mem _ (y▸hcw)⟩
     ·exact⟨w,List.mem_cons_of_mem _ y,hcw⟩
theorem amE{lo hi:Int}{l:List Nat}(h:10∈l):aaN lo hi l=none:=by
 unfold aaN
 rw[if_neg (fun e=>by rw[e] at h;exact absurd h (by decide))]
 obtain⟨w,hw,hc⟩:=acU (d:=45) (by decide) h
 have hn:(none:Option Int)∈(spl 45 l).map (aaO lo hi):=List.mem_map.mpr ⟨w,hw,aeQ hc⟩
 generalize (spl 45 l).map (aaO lo hi)=es at hn
 match es,hn with
 |[none],_=>rfl
 |[none,y],_=>rfl
 |[some x],hn=>simp at hn
 |[some x,none],_=>rfl
 |[some x,some y],hn=>simp at hn
 |x::y::z::r,_=>cases x<;>cases y<;>rfl
theorem ai5{lo hi:Int}{l:List Nat}(h:10∈l):aaD lo hi l=none:=by
 have ho:=amE (lo:=lo) (hi:=hi) h
 obtain⟨w,hw,hc⟩:=acU (d:=47) (by decide) h
 unfold aaD
 generalize spl 47 l=z at hw
 rcases z with _ | ⟨r,_ | ⟨s,_ | ⟨t,u⟩⟩⟩
 ·cases hw
 ·show (match aaN lo hi l with | some (a,b)=>some (ad1 a b 1) | none=>none)=none
  rw[ho]
 ·show aaY lo hi r s=none
  unfold aaY
  have hw:w=r∨w=s:=by simpa using hw
  rcases hw with rfl | rfl
  ·rw[amE hc]
  ·rw[aeQ hc]
   cases aaN lo hi r<;>rfl
 ·show (match aaN lo hi l with | some (a,b)=>some (ad1 a b 1) | none=>none)=none
  rw[ho]
theorem alP(l:List Nat):acM l none (some (-1))=l.dropLast:=by
 unfold acM
 have e1:HT.sIx l.length 0 none=0:=rfl
 have e2:HT.sIx l.length l.length (some (-1))=l.length-1:=by
  show (if (-1:Int)<0 then ((-1:Int)+(l.length:Int)).toNat else min (-1:Int).toNat l.length)=_
  rw[if_pos (by decide)]
  omega
 rw[e1,e2,List.drop_zero,Nat.sub_zero,List.dropLast_eq_take]
theorem avA(l:List Nat):acM l (some 2) none=l.drop 2:=by
 unfold acM
 have e1:HT.sIx l.length l.length none=l.length:=rfl
 have e2:HT.sIx l.length 0 (some 2)=min 2 l.length:=by
  show (if (2:Int)<0 then ((2:Int)+(l.length:Int)).toNat else min (2:Int).toNat l.length)=_
  rw[if_neg (by decide)]
  rfl
 rw[e1,e2]
 by_cases c:2<=l.length
 ·rw[Nat.min_eq_left c,List.take_of_length_le (by rw[List.length_drop];omega)]
 ·rw[Nat.min_eq_right (by omega),List.drop_of_length_le (by omega),List.drop_of_length_le (by omega),List.take_nil]
theorem anO{l:List Nat}{c d:Nat}(h:c∈l)(hl:l.getLast? =some d)(hd:c≠d):c∈l.dropLast:=by
 have hne:l≠[]:=fun e=>by rw[e] at h;cases h
 have e:=List.dropLast_concat_getLast hne
 rw[List.getLast?_eq_some_getLast hne] at hl
 rw[←e] at h
 rcases List.mem_append.mp h with z | z
 ·exact z
 ·exact absurd ((List.mem_singleton.mp z).trans (Option.some.inj hl)) hd
theorem aqO{wk:Bool}{l:List Nat}(h:10∈l):rdM wk l=none:=by
 unfold rdM
 cases wk with
 |true=>
  show ah4 l=none
  unfold ah4 wdN
  by_cases c:l.getLast? =some 76
  ·rw[if_pos c,alP,aeQ (anO h c (by decide))]
   rfl
  ·rw[if_neg c]
   obtain⟨w,hw,hc⟩:=acU (d:=35) (by decide) h
   split
   ·rename_i a b e
    rw[e] at hw
    have hw:w=a∨w=b:=by simpa using hw
    rcases hw with rfl | rfl
    ·rw[aeQ hc];rfl
    ·rw[aeQ (lo:=1) (hi:=5) hc]
     cases Option.map (fun n:Int=>if n=7 then (0:Int) else n) (aaO 0 7 a)<;>rfl
   ·rfl
 |false=>
  show ab8 l=none
  unfold ab8
  rw[if_neg (fun e=>by rw[e] at h;exact absurd h (by decide)),if_neg (fun e=>by rw[e] at h;exact absurd h (by decide))]
  by_cases c:l.take ([76,45]:List Nat).length=[76,45]
  ·rw[if_pos c,avA,aeQ]
   ·rfl
   have e:=List.take_append_drop 2 l
   have c:l.take 2=[76,45]:=c
   rw[←e,c] at h
   rcases List.mem_append.mp h with z | z
   ·exact absurd z (by decide)
   ·exact z
  ·rw[if_neg c]
   by_cases c2:l.getLast? =some 87
   ·rw[if_pos c2,alP,aeQ (anO h c2 (by decide))]
    rfl
   ·rw[if_neg c2]
theorem aj1{lo hi:Int}{l:List Nat}(h:10∈l):(aa1 lo hi l).isSome=true:=by
 cases e:aa1 lo hi l with
 |some p=>rfl
 |none=>
  obtain⟨w,hw,hc⟩:=acU (d:=44) (by decide) h
  have z:=(agC e).2.2 w hw
  rw[ai5 hc] at z
  cases z
theorem arA{wk:Bool}{lo hi:Int}{l:List Nat}(h:10∈l):(abD wk lo hi l).isSome=true:=by
 cases e:abD wk lo hi l with
 |some p=>rfl
 |none=>
  obtain⟨w,hw,hc⟩:=acU (d:=44) (by decide) h
  have z:=akQ e w hw
  rw[ai5 hc,aqO hc] at z
  rcases z with z | z<;>cases z
def wb(i:Nat)(w:List Nat):Bool:=match i with
 |0=>(aa1 0 59 w).isSome
 |1=>(aa1 0 23 w).isSome
 |2=>(abD false 1 31 w).isSome
 |3=>(aa1 1 12 w).isSome
 |_=>(abD true 0 7 w).isSome
def acT:List (List Nat)->Nat->Option Nat
 |[],_=>none
 |w::ws,i=>if wb i w=true then some i else acT ws (i+1)
def abU(l:List Nat):Option Nat:=if 1600<l.length then some 5 else if (spl 32 l).length≠5∨[]∈spl 32 l then some 5 else acT (spl 32 l) 0
def WV:Nat->V->Prop
 |0,v=>∃m:Int,v=.int m/\0<=m/\m<2^60
 |1,v=>∃m:Int,v=.int m/\0<=m/\m<2^24
 |3,v=>∃m:Int,v=.int m
 |_,_=>True
theorem amF:∀{us:List (List Nat)} {i m:Nat} {w:List Nat},us[m]? =some w->wb (i+m) w=true->(∀k,k<m->∀v,us[k]? =some v->wb (i+k) v=false)->acT us i=some (i+m)
 |u::us,i,0,w,h,hw,_=>by
  obtain rfl:u=w:=by simpa using h
  unfold acT
  rw[if_pos (show wb i u=true from hw)]
  rfl
 |u::us,i,m+1,w,h,hw,hk=>by
  have h0:=hk 0 (by omega) u rfl
  unfold acT
  rw[if_neg (by rw[show i=i+0 from rfl,h0];decide)]
  have ih:=amF (us:=us) (i:=i+1) (m:=m) (w:=w) (by simpa using h) (by rw[show i+1+m=i+(m+1) by omega];exact hw) fun k hkm v hv=>by
   have:=hk (k+1) (by omega) v (by simpa using hv)
   rw[show i+(k+1)=i+1+k by omega] at this
   exact this
  have e:acT us (i+1)=some (i+(m+1)):=by rw[ih];congr 1;omega
  cases us with
  |nil=>cases h
  |cons a b=>exact e
theorem ag6:∀{us:List (List Nat)} {i:Nat},(∀k v,us[k]? =some v->wb (i+k) v=false)->acT us i=none
 |[],_,_=>rfl
 |u::us,i,h=>by
  have h0:=h 0 u rfl
  unfold acT
  rw[if_neg (by rw[show i=i+0 from rfl,h0];decide)]
  have ih:=ag6 (us:=us) (i:=i+1) fun k v hv=>by
   have:=h (k+1) v (by simpa using hv)
   rw[show i+(k+1)=i+1+k by omega] at this
   exact this
  cases us with
  |nil=>rfl
  |cons a b=>exact ih
theorem aGS{l:List Nat}(h:1600<l.length):abU l=some 5:=if_pos h
theorem aFJ{us:List (List Nat)}(h:∀u∈us,32∉u)(hne:us≠[])(hb:us.length≠5∨[]∈us):abU (aaF 32 us)=some 5:=by
 unfold abU
 rw[abN 32 us hne h]
 by_cases c:1600<(aaF 32 us).length
 ·rw[if_pos c]
 ·rw[if_neg c,if_pos hb]
theorem azW{us:List (List Nat)}{m:Nat}{w:List Nat}(h:∀u∈us,32∉u/\u≠[])(h5:us.length=5)(hl:(aaF 32 us).length<=1600)(hw:us[m]? =some w)(hb:wb m w=true)(hk:∀k,k<m->∀v,us[k]? =some v->wb k v=false):abU (aaF 32 us)=some m:=by
 unfold abU
 have hne:us≠[]:=fun e=>by rw[e] at h5;cases h5
 rw[abN 32 us hne fun u hu=>(h u hu).1,if_neg (by omega),if_neg (fun z=>z.elim (fun y=>y h5) fun y=>(h [] y).2 rfl)]
 have e:=amF (i:=0) hw (by rw[Nat.zero_add];exact hb) fun k hk' v hv=>by rw[Nat.zero_add];exact hk k hk' v hv
 rw[e,Nat.zero_add]
theorem aDA{us:List (List Nat)}(h:∀u∈us,32∉u/\u≠[])(h5:us.length=5)(hl:(aaF 32 us).length<=1600)(hk:∀(k:Nat) v,us[k]? =some v->wb k v=false):abU (aaF 32 us)=none:=by
 unfold abU
 have hne:us≠[]:=fun e=>by rw[e] at h5;cases h5
 rw[abN 32 us hne fun u hu=>(h u hu).1,if_neg (by omega),if_neg (fun z=>z.elim (fun y=>y h5) fun y=>(h [] y).2 rfl)]
 exact ag6 fun k v hv=>by rw[Nat.zero_add];exact hk k v hv
theorem ax4{l:List Nat}(h:¬1600<l.length)(hb:(spl 32 l).length≠5∨[]∈spl 32 l):abU l=some 5:=by
 unfold abU
 rw[if_neg h,if_pos hb]
theorem aIO{l:List Nat}(h:¬1600<l.length)(h5:(spl 32 l).length=5)(h0:[]∉spl 32 l):abU l=acT (spl 32 l) 0:=by
 unfold abU
 rw[if_neg h,if_neg (fun z=>z.elim (fun y=>y h5) h0)]
theorem asT{ws:List (List Nat)}(h:[]∈ws):inV (.str (Tx [])) (ws.map fun q=>V.str (Tx q))=true:=by
 unfold inV
 rw[List.any_map,List.any_eq_true]
 exact⟨[],h,beq_iff_eq.mpr rfl⟩
theorem ayF{C C':Addr}{b b':Bool}(h:cv C b=cv C' b'):C=C'/\b=b':=by
 cases b' with
 |true=>exact arI h
 |false=>exact aFU h
theorem aF4{α:Type}{l:List α}(h:l.length=5):∃a b c d e,l=[a,b,c,d,e]:=by
 match l,h with
 |[a,b,c,d,e],_=>exact⟨a,b,c,d,e,rfl⟩
def rV:Option Nat->V
 |none=>.str (Tx [114,111,119])
 |some p=>.int p
def wrW:Nat->List (List Nat)
 |0=>[[54,48],[45,49],[53,45],[51,45,50],[49,47,48],[120],[49,44,44,50],[49,44],[48,49],[53,46],[49,47,49,48,48],[42,42],((List.replicate 150 [49,44]).flatten++[49]),[76],[53,35,49],[49,45,54,48]]
 |1=>[[50,52],[45,49],[53,45],[51,45,50],[49,47,48],[120],[49,44,44,50],[49,44],[48,49],[53,46],[49,47,49,48,48],[42,42],((List.replicate 150 [49,44]).flatten++[49]),[76,87],[49,76],[48,45,50,52]]
 |2=>[[51,50],[45,49],[53,45],[51,45,50],[49,47,48],[120],[49,44,44,50],[49,44],[48,49],[53,46],[49,47,49,48,48],[42,42],((List.replicate 150 [49,44]).flatten++[49]),[53,76],[49,35,49],[48]]
 |3=>[[49,51],[45,49],[53,45],[51,45,50],[49,47,48],[120],[49,44,44,50],[49,44],[48,49],[53,46],[49,47,49,48,48],[42,42],((List.replicate 150 [49,44]).flatten++[49]),[48],[76],[48,45,53]]
 |_=>[[56],[45,49],[53,45],[51,45,50],[49,47,48],[120],[49,44,44,50],[49,44],[48,49],[53,46],[49,47,49,48,48],[42,42],((List.replicate 150 [49,44]).flatten++[49]),[76],[49,53,87],[49,45,56]]
def aFI(p:Nat)(w:List Nat):Bool:=wb p w&&(!w.contains 32&&(!w.isEmpty&&decide (w.length<=301)))
theorem aHJ:∀p:Nat,p<5->(wrW p).all (aFI p)=true:=by decide +kernel
theorem alB{p:Nat}(hp:p<5){w:List Nat}(h:w∈wrW p):wb p w=true/\(32∉w/\w≠[])/\w.length<=301:=by
 have z:=List.all_eq_true.mp (aHJ p hp) w h
 unfold aFI at z
 rw[Bool.and_eq_true,Bool.and_eq_true,Bool.and_eq_true,Bool.not_eq_true',Bool.not_eq_true'] at z
 exact⟨z.1,⟨fun y=>(by rw[List.contains_iff_mem.mpr y] at z;exact absurd z.2.1 (by decide)),fun y=>(by rw[y] at z;exact absurd z.2.2.1 (by decide))⟩,of_decide_eq_true z.2.2.2⟩
theorem aAR{c:Nat}{a b:List (List Nat)}(ha:a≠[])(hb:b≠[]):aaF c (a++b)=aaF c a++c::aaF c b:=ajG c a b ha hb
theorem aqG{a b:List (List Nat)}(ha:a≠[])(hb:b≠[]):(aaF 32 a++[32,32])++aaF 32 b=aaF 32 (a++[]::b):=by
 rw[aAR ha (List.cons_ne_nil _ _)]
 cases b with
 |nil=>exact absurd rfl hb
 |cons x r=>
  show _=aaF 32 a++32::([]++32::aaF 32 (x::r))
  simp
theorem ayS{ws:List (List Nat)}{n:Nat}(h:∀w∈ws,w.length<=n):(aaF 32 ws).length<=(n+1)*ws.length:=by
 induction ws with
 |nil=>simp[aaF]
 |cons a r ih=>
  have ha:=h a (by simp)
  have hr:=ih fun w hw=>h w (List.mem_cons_of_mem _ hw)
  cases r with
  |nil=>
   show a.length<=(n+1)*1
   omega
  |cons b s=>
   show (a++32::aaF 32 (b::s)).length<=(n+1)*((b::s).length+1)
   rw[List.length_append,List.length_cons,Nat.mul_add]
   omega
def aoU(ws:List (List Nat)):Prop:=ws.length=5/\(∀(k:Nat) v,ws[k]? =some v->wb k v=false)/\∀w∈ws,(32∉w/\w≠[])/\w.length<=300
def Rf(K:PySem.W.Frag)(H:Hp)(v:V)(A:Int):Prop:=(∃kd,ae0 K H v kd/\kd≠ .str/\A=5)∨∃(l:List Nat) (p:Nat),v=.str (Tx l)/\l.length<=100000/\abU l=some p/\A=p
theorem alQ{ws:List (List Nat)}(h:aoU ws):abU (aaF 32 ws)=none/\(aaF 32 ws).length<=1505/\spl 32 (aaF 32 ws)=ws:=by
 have hl:=ayS (n:=300) fun w hw=>(h.2.2 w hw).2
 rw[h.1] at hl
 have hne:ws≠[]:=fun e=>by have:=h.1;rw[e] at this;cases this
 exact⟨aDA (fun u hu=>(h.2.2 u hu).1) h.1 (by omega) h.2.1,by omega,abN 32 ws hne fun u hu=>(h.2.2 u hu).1.1⟩
structure Put(ws us:List (List Nat))(m:Nat):Prop where
 len:us.length=5
 ok:∀u∈us,(32∉u/\u≠[])/\u.length<=301
 bad:∃w,us[m]? =some w/\wb m w=true
 ahead:∀k,k<m->∀v,us[k]? =some v->wb k v=false
theorem Put.row{ws us:List (List Nat)}{m:Nat}(h:Put ws us m):abU (aaF 32 us)=some m/\(aaF 32 us).length<=1510:=by
 have hl:=ayS (n:=301) fun w hw=>(h.ok w hw).2
 rw[h.len] at hl
 obtain⟨w,h1,h2⟩:=h.bad
 exact⟨azW (fun u hu=>(h.ok u hu).1) h.len (by omega) h1 h2 h.ahead,by omega⟩
theorem aBH{ws:List (List Nat)}(h:aoU ws){j:Nat}(hj:j<5){w:List Nat}(hw:wb j w=true)(ho:32∉w/\w≠[])(hl:w.length<=301):Put ws (ws.set j w) j where
 len:=by rw[List.length_set,h.1]
 ok:=fun u hu=>by
  rcases List.mem_or_eq_of_mem_set hu with z | rfl
  ·have:=h.2.2 u z
   exact⟨this.1,by omega⟩
  ·exact⟨ho,hl⟩
 bad:=⟨w,by rw[List.getElem?_set_self (by rw[h.1];exact hj)],hw⟩
 ahead:=fun k hk v hv=>by
  rw[List.getElem?_set_ne (by omega)] at hv
  exact h.2.1 k v hv
theorem put2{ws:List (List Nat)}(h:aoU ws){j k:Nat}(hj:j<5)(hk:k<5){w u:List Nat}(hw:wb j w=true)(ho:32∉w/\w≠[])(hl:w.length<=301)(hu:wb k u=true)(hou:32∉u/\u≠[])(hlu:u.length<=301):Put ws ((ws.set j w).set k u) (if k<j then k else j) where
 len:=by rw[List.length_set,List.length_set,h.1]
 ok:=fun x hx=>by
  rcases List.mem_or_eq_of_mem_set hx with z | rfl
  ·exact (aBH h hj hw ho hl).ok x z
  ·exact⟨hou,hlu⟩
 bad:=by
  have ln:(ws.set j w).length=5:=by rw[List.length_set,h.1]
  by_cases c:k<j
  ·rw[if_pos c]
   exact⟨u,by rw[List.getElem?_set_self (by rw[ln];exact hk)],hu⟩
  ·rw[if_neg c]
   by_cases e:j=k
   ·subst e
    exact⟨u,by rw[List.getElem?_set_self (by rw[ln];exact hj)],hu⟩
   ·exact⟨w,by rw[List.getElem?_set_ne (by omega),List.getElem?_set_self (by rw[h.1];exact hj)],hw⟩
 ahead:=fun i hi v hv=>by
  have hi2:i<k/\i<j:=by split at hi<;>omega
  rw[List.getElem?_set_ne (by omega),List.getElem?_set_ne (by omega)] at hv
  exact h.2.1 i v hv
theorem nine{ds:List Int}(h:Digs ds [4,5,3,5,16,16,7,4,6]):∃(d0:Int) (d1:Nat) (d2:Int) (d3 d4 d5 d6 d7:Nat) (d8:Int),ds=[d0,d1,d2,d3,d4,d5,d6,d7,d8]/\d1<5/\d3<5/\d4<16/\d5<16/\d6<7/\d7<4/\0<=d8/\d8<6:=by
 cases h with
 |cons h0 r=>cases r with | cons h1 r=>cases r with | cons h2 r=>cases r with | cons h3 r=>cases r with | cons h4 r=>cases r with | cons h5 r=>cases r with | cons h6 r=>cases r with | cons h7 r=>cases r with | cons h8 r=>
  cases r
  obtain⟨n1,rfl⟩:=Int.eq_ofNat_of_zero_le h1.1
  obtain⟨n3,rfl⟩:=Int.eq_ofNat_of_zero_le h3.1
  obtain⟨n4,rfl⟩:=Int.eq_ofNat_of_zero_le h4.1
  obtain⟨n5,rfl⟩:=Int.eq_ofNat_of_zero_le h5.1
  obtain⟨n6,rfl⟩:=Int.eq_ofNat_of_zero_le h6.1
  obtain⟨n7,rfl⟩:=Int.eq_ofNat_of_zero_le h7.1
  exact⟨_,n1,_,n3,n4,n5,n6,n7,_,rfl,by omega,by omega,by omega,by omega,by omega,by omega,h8.1,h8.2⟩
def txA:List Nat:=(List.replicate 796 [49,44]).flatten++[32,42,32,42,32,42,32,42]
def txB:List Nat:=(List.replicate 796 [49,44]).flatten++[49,32,42,32,42,32,42,32,42]
def txC:List Nat:=[42,32,42,32,42,32,42,32,42,32]++(List.replicate 1595 [32]).flatten
theorem aE5:abU txA=some 0/\txA.length=1600:=by decide +kernel
theorem aGP:abU txB=some 5/\txB.length=1601:=by decide +kernel
theorem aIL:abU txC=some 5/\txC.length=1605:=by decide +kernel
theorem atY{w0 w1 w2 w3 w4:List Nat}{m0 m1 m3:Int}{kd kw:Option (List Mk)}(f0:FT 0 59 w0 m0)(f1:FT 0 23 w1 m1)(f3:FT 1 12 w3 m3)(d2:DT false w2 kd)(d4:DT true w4 kw):aoU [w0,w1,w2,w3,w4]:=by
 refine⟨rfl,fun k v h=>?_,fun w hw=>?_⟩
 ·match k,h with
  |0,h=>cases h;show (aa1 0 59 w0).isSome=false;rw[afZ f0];rfl
  |1,h=>cases h;show (aa1 0 23 w1).isSome=false;rw[afZ f1];rfl
  |2,h=>cases h;show (abD false 1 31 w2).isSome=false;rw[show abD false 1 31 w2=none from aoB d2.2.1];rfl
  |3,h=>cases h;show (aa1 1 12 w3).isSome=false;rw[afZ f3];rfl
  |4,h=>cases h;show (abD true 0 7 w4).isSome=false;rw[show abD true 0 7 w4=none from aoB d4.2.1];rfl
  |k+5,h=>cases h
 ·simp only[List.mem_cons,List.not_mem_nil,or_false] at hw
  rcases hw with rfl | rfl | rfl | rfl | rfl
  ·exact⟨⟨f0.sp,f0.ne⟩,f0.len⟩
  ·exact⟨⟨f1.sp,f1.ne⟩,f1.len⟩
  ·exact⟨⟨d2.1.1,d2.1.2⟩,d2.2.1.len⟩
  ·exact⟨⟨f3.sp,f3.ne⟩,f3.len⟩
  ·exact⟨⟨d4.1.1,d4.1.2⟩,d4.2.1.len⟩
theorem ax7{ws:List (List Nat)}{j:Nat}{w:List Nat}(h:aoU ws)(hj:j<5)(hw:10∈w)(ho:32∉w/\w≠[])(hl:w.length<=301):abU (aaF 32 (ws.set j w))=some j/\(aaF 32 (ws.set j w)).length<=1510:=by
 have hb:wb j w=true:=by
  match j,hj with
  |0,_=>exact aj1 hw
  |1,_=>exact aj1 hw
  |2,_=>exact arA hw
  |3,_=>exact aj1 hw
  |4,_=>exact arA hw
 exact (aBH h hj hb ho hl).row
theorem n32{w:List Nat}(h:32∉w):32∉w++[10]/\32∉10::w:=by
 refine⟨fun z=>?_,fun z=>?_⟩
 ·rcases List.mem_append.mp z with y | y
  ·exact h y
  ·exact absurd y (by decide)
 ·rcases List.mem_cons.mp z with y | y
  ·cases y
  ·exact h y
def ad3(K:PySem.W.Frag)(C:Addr):Sp:=fun vs H Q _=>∃(a:Addr) (v:V),vs=[.ref a,v]/\H a=some (xn a C none)/\XS K C "at"/\∀dx H',H dx=none->dx≠a->H'=upd (upd H dx (.xd [(("at":Str),v)])) a (xn a C (some dx))->Q .non H'
def acF(K:PySem.W.Frag)(C:Addr):Sp:=fun vs H Q _=>∃(a:Addr) (v:V),vs=[.ref a,v]/\H a=some (xn a C none)/\XS K C "place"/\∀dx H',H dx=none->dx≠a->H'=upd (upd H dx (.xd [(("place":Str),v)])) a (xn a C (some dx))->Q .non H'
def ah0(K:PySem.W.Frag):Sp:=fun vs H Q _=>∃l:List Nat,vs=[.str (Tx l)]/\l.length<=2000/\∀H',Same H H'->Q (.bl (ajT l)) H'
def ai1(K:PySem.W.Frag):Sp:=fun vs H Q _=>∃l:List Nat,vs=[.str (Tx l)]/\l.length<=2000/\∀H',Same H H'->Q (.bl (isW l)) H'
def aBI(K:PySem.W.Frag):Sp:=fun vs H Q _=>∃m n:Int,vs=[.int m,.int n]/\(0<=m/\0<=n)/\Q (.bl (tb m n.toNat)) H
def am4(K:PySem.W.Frag):Sp:=fun vs H Q _=>∃(a:Addr) (zs:List Int),vs=[.ref a]/\SqL K H a (zs.map V.int)/\(∀z∈zs,0<=z/\z<=100000)/\Q (.int (aa4 zs)) H
def aiV(K:PySem.W.Frag):Sp:=fun vs H Q _=>∃m:Int,vs=[.int m]/\(0<=m/\Builtin.Int.intBits m<=100000)/\∀(p:Addr) (H':Hp),Same H H'->H' p=some (.lst ((alJ m).map V.int))->Q (.ref p) H'
def ak5(K:PySem.W.Frag):Sp:=fun vs H Q _=>∃a b s:Int,vs=[.int a,.int b,.int s]/\(0<=a/\a<=1000)/\(-1<=b/\b<=1000)/\(0<s/\s<=1000)/\∀H',Same H H'->Q (.int (ad1 a b s)) H'
def ahC(K:PySem.W.Frag):Sp:=fun vs H Q _=>∃(l:List Nat) (lo hi:Int),vs=[.str (Tx l),.int lo,.int hi]/\l.length<=600/\∀H',Same H H'->Q (oV (aaO lo hi l)) H'
def alG(K:PySem.W.Frag):Sp:=fun vs H Q _=>∃(l:List Nat) (lo hi:Int),vs=[.str (Tx l),.int lo,.int hi]/\l.length<=500/\∀(r:V) (H':Hp),Same H H'->RunV H' r (aaN lo hi l)->Q r H'
def agT(K:PySem.W.Frag):Sp:=fun vs H Q _=>∃(r s:List Nat) (lo hi:Int),vs=[.str (Tx r),.str (Tx s),.int lo,.int hi]/\r.length<=400/\s.length<=400/\(0<=lo/\lo<=hi/\hi<=1000)/\∀H',Same H H'->Q (oV (aaY lo hi r s)) H'
def akU(K:PySem.W.Frag):Sp:=fun vs H Q _=>∃(l:List Nat) (lo hi:Int),vs=[.str (Tx l),.int lo,.int hi]/\l.length<=300/\(0<=lo/\lo<=hi/\hi<=1000)/\∀H',Same H H'->Q (oV (aaD lo hi l)) H'
def ai0(K:PySem.W.Frag)(C_NoField:Addr):Sp:=fun vs H Q E=>∃(v:V) (lo hi:Int),vs=[v,.int lo,.int hi]/\(0<=lo/\lo<=hi/\hi<=1000)/\((∃kd,ae0 K H v kd/\kd≠ .str/\∀dx H',Same H H'->H' dx=some (.xd [(("at":Str),.int 0)])->E (.ref C_NoField) (some dx) H')∨∃l:List Nat,v=.str (Tx l)/\l.length<=100000/\(∀p:Nat,aa1 lo hi l=some p->∀dx H',Same H H'->H' dx=some (.xd [(("at":Str),.int p)])->E (.ref C_NoField) (some dx) H')/\(aa1 lo hi l=none->∀H',Same H H'->Q (.int (orM (abP lo hi l))) H'))
def ad5(K:PySem.W.Frag)(C:Addr):Sp:=fun vs H Q _=>∃(p dx:Addr) (m:Int),vs=[.ref p,.int m]/\H p=some (.ins C dx [])/\Q .non (upd H p (.ins C dx [("mask",.int m)]))
def afU(K:PySem.W.Frag)(C:Addr):Sp:=fun vs H Q _=>∃(p dx:Addr) (m:Int),vs=[.ref p,.int m]/\H p=some (.ins C dx [])/\Q .non (upd H p (.ins C dx [("back",.int m)]))
def afG(K:PySem.W.Frag)(C:Addr):Sp:=fun vs H Q _=>∃(p dx:Addr) (m:Int),vs=[.ref p,.int m]/\H p=some (.ins C dx [])/\Q .non (upd H p (.ins C dx [("day",.int m)]))
def adM(K:PySem.W.Frag)(C:Addr):Sp:=fun vs H Q _=>∃(p dx:Addr) (m:Int),vs=[.ref p,.int m]/\H p=some (.ins C dx [])/\Q .non (upd H p (.ins C dx [("mask",.int m)]))
def agN(K:PySem.W.Frag)(C:Addr):Sp:=fun vs H Q _=>∃(p dx:Addr) (w m:Int),vs=[.ref p,.int w,.int m]/\H p=some (.ins C dx [])/\Q .non (upd (upd H p (.ins C dx (aaM "weekday" (.int w) []))) p (.ins C dx (aI0 w m)))
def adZ(K:PySem.W.Frag)(C:Addr):Sp:=fun vs H Q _=>∃(p dx:Addr) (m:Int),vs=[.ref p,.int m]/\H p=some (.ins C dx [])/\Q .non (upd H p (.ins C dx [("weekday",.int m)]))
def afH(K:PySem.W.Frag)(C_Numbers:Addr)(C_Last:Addr)(C_Near:Addr)(C_LastWork:Addr)(C_Weekdays:Addr)(C_Nth:Addr)(C_LastOne:Addr)(C_Mark:Addr):Sp:=fun vs H Q _=>∃t:List Nat,vs=[.str (Tx t)]/\t.length<=300/\∀(v:V) (H':Hp),Same H H'->MkV (⟨C_Numbers,C_Last,C_Near,C_LastWork,C_Weekdays,C_Nth,C_LastOne,C_Mark⟩:Cs) H' v (ab8 t)->Q v H'
def agO(K:PySem.W.Frag):Sp:=fun vs H Q _=>∃t:List Nat,vs=[.str (Tx t)]/\t.length<=300/\∀H',Same H H'->Q (oV (wdN t)) H'
def ac8(K:PySem.W.Frag)(C_Numbers:Addr)(C_Last:Addr)(C_Near:Addr)(C_LastWork:Addr)(C_Weekdays:Addr)(C_Nth:Addr)(C_LastOne:Addr)(C_Mark:Addr):Sp:=fun vs H Q _=>∃t:List Nat,vs=[.str (Tx t)]/\t.length<=300/\∀(v:V) (H':Hp),Same H H'->MkV (⟨C_Numbers,C_Last,C_Near,C_LastWork,C_Weekdays,C_Nth,C_LastOne,C_Mark⟩:Cs) H' v (ah4 t)->Q v H'
def aiR(K:PySem.W.Frag)(C_Numbers:Addr)(C_Last:Addr)(C_Near:Addr)(C_LastWork:Addr)(C_Weekdays:Addr)(C_Nth:Addr)(C_LastOne:Addr)(C_Mark:Addr)(C_NoField:Addr)(C_read_day_mark:Addr)(C_read_weekday_mark:Addr):Sp:=fun vs H Q E=>∃(v:V) (lo hi:Int) (wk:Bool),vs=[v,.int lo,.int hi,.ref (if wk=true then C_read_weekday_mark else C_read_day_mark)]/\(0<=lo/\lo<=hi/\hi<=1000)/\((∃kd,ae0 K H v kd/\kd≠ .str/\∀dx H',Same H H'->H' dx=some (.xd [(("at":Str),.int 0)])->E (.ref C_NoField) (some dx) H')∨∃l:List Nat,v=.str (Tx l)/\l.length<=100000/\(∀p:Nat,abD wk lo hi l=some p->∀dx H',Same H H'->H' dx=some (.xd [(("at":Str),.int p)])->E (.ref C_NoField) (some dx) H')/\(abD wk lo hi l=none->∀(p m:Addr) (M:Int) (qs:List Addr) (H':Hp),Same H H'->H' p=some (.tup [.int M,.ref m])->H' m=some (.lst (qs.map V.ref))->qs.length<=20->Q (.ref p) H'))
def ajU(K:PySem.W.Frag)(C_Numbers:Addr)(C_Last:Addr)(C_Near:Addr)(C_LastWork:Addr)(C_Weekdays:Addr)(C_Nth:Addr)(C_LastOne:Addr)(C_Mark:Addr)(C_NoField:Addr):Sp:=fun vs H Q E=>∃v:V,vs=[v]/\((∃kd,ae0 K H v kd/\kd≠ .str/\∀dx H',Same H H'->H' dx=some (.xd [(("at":Str),.int 0)])->E (.ref C_NoField) (some dx) H')∨∃l:List Nat,v=.str (Tx l)/\l.length<=100000/\(∀p:Nat,abD false 1 31 l=some p->∀dx H',Same H H'->H' dx=some (.xd [(("at":Str),.int p)])->E (.ref C_NoField) (some dx) H')/\(abD false 1 31 l=none->(l=[42]->∀H',Same H H'->Q .non H')/\(l≠[42]->∀(m:Addr) (ys:List V) (H':Hp),Same H H'->H' m=some (.lst ys)->Q (.ref m) H')))
def afP(K:PySem.W.Frag)(C_Numbers:Addr)(C_Last:Addr)(C_Near:Addr)(C_LastWork:Addr)(C_Weekdays:Addr)(C_Nth:Addr)(C_LastOne:Addr)(C_Mark:Addr)(C_NoField:Addr):Sp:=fun vs H Q E=>∃v:V,vs=[v]/\((∃kd,ae0 K H v kd/\kd≠ .str/\∀dx H',Same H H'->H' dx=some (.xd [(("at":Str),.int 0)])->E (.ref C_NoField) (some dx) H')∨∃l:List Nat,v=.str (Tx l)/\l.length<=100000/\(∀p:Nat,abD true 0 7 l=some p->∀dx H',Same H H'->H' dx=some (.xd [(("at":Str),.int p)])->E (.ref C_NoField) (some dx) H')/\(abD true 0 7 l=none->(l=[42]->∀H',Same H H'->Q .non H')/\(l≠[42]->∀(m:Addr) (ys:List V) (H':Hp),Same H H'->H' m=some (.lst ys)->Q (.ref m) H')))
def al1(K:PySem.W.Frag):Sp:=fun vs H Q _=>∃h m:Int,vs=[.int h,.int m]/\(0<=h/\h<2^24)/\(0<=m/\m<2^60)/\∀(t:Int) (H':Hp),t=tmF h m->Same H H'->Q (.int t) H'
def agJ(K:PySem.W.Frag)(C:Addr):Sp:=fun vs H Q _=>∃(p dx fa:Addr) (m0 m1 m3:Int) (dv wv:V),vs=[.ref p,.ref fa]/\H p=some (.ins C dx [])/\H fa=some (.lst [.int m0,.int m1,dv,.int m3,wv])/\(0<=m0/\m0<2^60)/\(0<=m1/\m1<2^24)/\∀(tm:Int) (H':Hp),tm=tmF m1 m0->H' p=some (.ins C dx (am0 m0 m1 dv m3 wv tm))->(∀b o,H b=some o->b≠p->H' b=some o)->Q .non H'
def aj3(K:PySem.W.Frag)(C_Numbers:Addr)(C_Last:Addr)(C_Near:Addr)(C_LastWork:Addr)(C_Weekdays:Addr)(C_Nth:Addr)(C_LastOne:Addr)(C_Mark:Addr)(C_NoField:Addr):Sp:=fun vs H Q E=>∃(t:List Nat) (pl:Nat),vs=[.str (Tx t),.int pl]/\t.length<=100000/\pl<5/\((wb pl t=true/\∀(p:Nat) (dx:Addr) (H':Hp),Same H H'->H' dx=some (.xd [(("at":Str),.int p)])->E (.ref C_NoField) (some dx) H')∨(wb pl t=false/\∀(v:V) (H':Hp),Same H H'->WV pl v->Q v H'))
def amU(K:PySem.W.Frag)(C_Numbers:Addr)(C_Last:Addr)(C_Near:Addr)(C_LastWork:Addr)(C_Weekdays:Addr)(C_Nth:Addr)(C_LastOne:Addr)(C_Mark:Addr)(C_NoRow:Addr):Sp:=fun vs H Q E=>∃(t:List Nat) (pl:Nat),vs=[.str (Tx t),.int pl]/\t.length<=100000/\pl<5/\((wb pl t=true/\∀(b:Bool) (dx:Addr) (H':Hp),Same H H'->H' dx=some (.xd [(("place":Str),.int pl)])->E (cv C_NoRow b) (some dx) H')∨(wb pl t=false/\∀(v:V) (H':Hp),Same H H'->WV pl v->Q v H'))
def alL(K:PySem.W.Frag)(C_Numbers:Addr)(C_Last:Addr)(C_Near:Addr)(C_LastWork:Addr)(C_Weekdays:Addr)(C_Nth:Addr)(C_LastOne:Addr)(C_Mark:Addr)(C_Row:Addr)(C_NoRow:Addr):Sp:=fun vs H Q E=>∃v:V,vs=[v]/\((∃kd,ae0 K H v kd/\kd≠ .str/\∀(b:Bool) (dx:Addr) (H':Hp),Same H H'->H' dx=some (.xd [(("place":Str),.int 5)])->E (cv C_NoRow b) (some dx) H')∨∃l:List Nat,v=.str (Tx l)/\l.length<=100000/\(∀p:Nat,abU l=some p->∀(b:Bool) (dx:Addr) (H':Hp),Same H H'->H' dx=some (.xd [(("place":Str),.int p)])->E (cv C_NoRow b) (some dx) H')/\(abU l=none->∀(x dx:Addr) (fs:List (Str×V)) (H':Hp),Same H H'->H' x=some (.ins C_Row dx fs)->Q (.ref x) H'))
def agL(K:PySem.W.Frag):Sp:=fun vs H Q _=>∃(a:Addr) (k:Int),vs=[.ref a,.int k]/\(∃ns:List Int,SqL K H a (ns.map V.int))/\(0<=k/\k<1000)/\∀c:Int,Q (.int c) H
def akF(K:PySem.W.Frag):Sp:=fun vs H Q _=>∃n:Int,vs=[.int n]/\∀r:Int,0<=r->r<2147483629->Q (.int r) H
def aiA(K:PySem.W.Frag):Sp:=fun vs H Q _=>∃(c:Int) (a:Addr) (b:Bool) (ss:List Int),vs=[.int c,.ref a,.bl b]/\SqL K H a (ss.map V.int)/\(∀z∈ss,0<z/\z<1073741824)/\ss.length<=63/\∀(ds:List Int) (p:Addr) (H':Hp),Same H H'->H' p=some (.lst (ds.map V.int))->Digs ds ss->Q (.ref p) H'
def aiK(K:PySem.W.Frag):Sp:=fun vs H Q _=>∃(v:V) (k:Kd),vs=[v]/\ae0 K H v k/\Q (.bl k.wh) H
def ajV(K:PySem.W.Frag):Sp:=fun vs H Q _=>∃(p:Addr) (way fi la st lo hi:Int),vs=[.int way,.int fi,.int la,.int st,.ref p]/\SqT K H p [.int lo,.int hi]/\(0<=lo/\lo<=hi/\hi<=63)/\∀(t u:Addr) (tw:List Nat) (ns:List Int) (H':Hp),Same H H'->H' t=some (.tup [.str (Tx tw),.ref u])->H' u=some (.lst (ns.map V.int))->ac3 lo hi tw ns->tw≠[42]->Q (.ref t) H'
def aj2(K:PySem.W.Frag):Sp:=fun vs H Q _=>∃(a:Addr) (ns:List Int),vs=[.ref a]/\SqL K H a (ns.map V.int)/\ns.length<=1000/\(∀n∈ns,0<=n/\n<=62)/\∀(zs:List Int) (H':Hp),zs.Pairwise (·<·)->(∀x,x∈zs↔x∈ns)->Same H H'->Q (.int (adL zs)) H'
def akP(K:PySem.W.Frag):Sp:=fun vs H Q _=>∃(p:Addr) (b:Bool) (way fi la st:Int),vs=[.ref p,.bl b]/\SqL K H p [.int way,.int fi,.int la,.int st]/\(0<=way/\way<16)/\∀(t u:Addr) (tw:List Nat) (k:Mk) (H':Hp),Same H H'->H' t=some (.tup [.str (Tx tw),.ref u])->H' u=some (.tup k.tup)->k.ok->k.sp=true->k.wk=b->SpT b tw k->Cl tw->tw≠[42]->Q (.ref t) H'
def aiD(K:PySem.W.Frag):Sp:=fun vs H Q _=>∃(c lo hi:Int) (bm:Bool),vs=[.int c,.int lo,.int hi,.bl bm]/\(0<=lo/\lo<hi/\hi<=62)/\∀(t:Addr) (tw:List Nat) (m:Int) (H':Hp),Same H H'->H' t=some (.tup [.str (Tx tw),.int m])->FT lo hi tw m->0<m/\m<2^(hi.toNat+1)->Q (.ref t) H'
def ae1(K:PySem.W.Frag):Sp:=fun vs H Q _=>∃(c:Int) (b bm:Bool),vs=[.int c,.bl b,.bl bm]/\∀(t:Addr) (tw:List Nat) (v:V) (ko:Option (List Mk)) (H':Hp),Same H H'->H' t=some (.tup [.str (Tx tw),v])->SV b H' v ko->DT b tw ko->Q (.ref t) H'
def ak3(K:PySem.W.Frag):Sp:=fun vs H Q _=>∃(a:Addr) (c0 c1 c2 c3 c4:Int) (bm:Bool),vs=[.ref a,.bl bm]/\SqL K H a [.int c0,.int c1,.int c2,.int c3,.int c4]/\∀(t R:Addr) (w0 w1 w2 w3 w4:List Nat) (m0 m1 m3:Int) (v2 v4:V) (kd kw:Option (List Mk)) (H':Hp),Same H H'->H' t=some (.tup [.str (Tx (aaF 32 [w0,w1,w2,w3,w4])),.ref R])->H' R=some (.lst [.int m0,.int m1,v2,.int m3,v4])->FT 0 59 w0 m0->FT 0 23 w1 m1->FT 1 12 w3 m3->DT false w2 kd->DT true w4 kw->SV false H' v2 kd->SV true H' v4 kw->(0<m0/\0<m1)->(m0<2^60/\m1<2^24)->Q (.ref t) H'
def aiW(K:PySem.W.Frag):Sp:=fun vs H Q _=>∃(a:Addr) (k:Int),vs=[.ref a,.int k]/\(∃ns:List Int,SqL K H a (ns.map V.int))/\(0<=k/\k<900)/\∀(p:Addr) (c0 c1 c2 c3 c4:Int) (H':Hp),Same H H'->H' p=some (.lst [.int c0,.int c1,.int c2,.int c3,.int c4])->Q (.ref p) H'
def akM(K:PySem.W.Frag)(C_Row:Addr):Sp:=fun vs H Q _=>∃v:V,vs=[v]/\((∃kd,ae0 K H v kd/\kd≠ .str/\∀H',Same H H'->Q (.int 5) H')∨∃l:List Nat,v=.str (Tx l)/\l.length<=100000/\∀H',Same H H'->Q (rV (abU l)) H')
def aiF(K:PySem.W.Frag):Sp:=fun vs H Q _=>∃(pl tn:Nat),vs=[.int pl,.int tn]/\pl<5/\tn<16/\∀(w:List Nat) (H':Hp),Same H H'->wb pl w=true->(32∉w/\w≠[])->w.length<=301->Q (.str (Tx w)) H'
def aiS(K:PySem.W.Frag):Sp:=fun vs H Q _=>∃(L:Addr) (ws:List (List Nat)) (wy tn:Nat),vs=[.ref L,.int wy,.int tn]/\H L=some (.lst (ws.map fun w=>V.str (Tx w)))/\ws.length=5/\(∀w∈ws,32∉w/\w.length<=301)/\wy<7/\tn<4/\∀(l:List Nat) (H':Hp),Same H H'->abU l=some 5->l.length<=100000->Q (.str (Tx l)) H'
def ahX(K:PySem.W.Frag):Sp:=fun vs H Q _=>∃(p:Addr) (ws:List (List Nat)) (d0:Int) (d1:Nat) (d2:Int) (d3 d4 d5 d6 d7:Nat) (d8:Int),vs=[.str (Tx (aaF 32 ws)),.ref p]/\H p=some (.lst [.int d0,.int d1,.int d2,.int d3,.int d4,.int d5,.int d6,.int d7,.int d8])/\(d1<5/\d3<5/\d4<16/\d5<16/\d6<7/\d7<4/\0<=d8/\d8<6)/\aoU ws/\∀(t:Addr) (v:V) (A:Int) (H':Hp),Same H H'->H' t=some (.tup [v,.int A])->Rf K H' v A->Q (.ref t) H'
def sp_law(K:PySem.W.Frag):Sp:=fun vs H Q _=>∃(a:Addr) (ns:List Int),vs=[.ref a]/\SqL K H a (ns.map V.int)/\ns.length<=63/\∀H',Q (.bl true) H'
theorem md_Last___init__{K:PySem.W.Frag}{C f T:Addr}{od an tod:Option Addr}{sl tsl:Array (Option Value)}{oc kV dc pm cd ct:Value}{tn:Nat}{t0:Tok}(a:PySem.W.findIn K (.ref C) "__init__"=some (some (.ref f)))(i:PySem.W.isFn K (.ref f)=true)(l:K.lookup f=some ⟨oc,od,.func (PySem.W.fnOf "__init__" "Last.__init__" (abA aaW) (aaP aaW) (aaC aaW) (.ref T) kV dc pm an cd ct),sl⟩)(c:PySem.W.codeIn K cd "Last.__init__"=true)(k:PySem.W.keepIn K (.ref f)=true)(lt:K.lookup T=some ⟨.type "tuple",tod,.seq #[.int 0 t0] tn,tsl⟩):FnMD K C "__init__" "Last.__init__" aaW ["self","back"] [.int 0]:=
 au1 (ds:=[.int 0 t0]) a i l c k (fun s us X hl=>match us,(show us.length=2 by simpa using hl) with | [_,_],_=>PySem.W.binds_K X rfl lt rfl rfl rfl) (.cons ⟨_,rfl⟩ .nil) (fun s us X hl=>match us,(show us.length=1 by simpa using hl) with | [_],_=>PySem.W.binds_K X rfl lt rfl rfl rfl)
theorem q_BOUNDS{K:PySem.W.Frag}{a b0 b1 b3:Addr}{ep:Nat}{t0 t1 t3:Tok}(l:K.lookup a=some ⟨.type "dict",none,.dict #[⟨0,.int 0 t0,.ref b0⟩,⟨1,.int 1 t1,.ref b1⟩,⟨3,.int 3 t3,.ref b3⟩] ep,#[]⟩):KD K a [(0,.ref b0),(1,.ref b1),(3,.ref b3)]:=by
 refine⟨_,ep,[(.inl 0,.ref b0),(.inl 1,.ref b1),(.inl 3,.ref b3)],l,(.cons ⟨rfl,rfl⟩ (.cons ⟨rfl,rfl⟩ (.cons ⟨rfl,rfl⟩ .nil))),(show ([.inl 0,.inl 1,.inl 3]:List Key).Nodup by decide),fun P w=>⟨?_,(.cons rfl rfl (.cons rfl rfl (.cons rfl rfl .nil)))⟩⟩
 intro e he
 simp only[Array.mem_toArray,List.mem_cons,List.not_mem_nil,or_false] at he
 rcases he with rfl | rfl | rfl
 ·exact⟨.inl 0,rfl,rfl⟩
 ·exact⟨.inl 1,rfl,rfl⟩
 ·exact⟨.inl 3,rfl,rfl⟩
theorem q_BOUNDS_0{K:PySem.W.Frag}{a:Addr}{od:Option Addr}{sl:Array (Option Value)}{n:Nat}{t0 t1:Tok}(l:K.lookup a=some ⟨.type "tuple",od,.seq #[.int 0 t0,.int 59 t1] n,sl⟩):∀H,SqT K H a (([0,59]:List Int).map V.int):=fun H=>.inr ⟨_,_,_,l,rfl,rfl,(by show 2<=sizeLine;decide),(.cons ⟨_,rfl⟩ (.cons ⟨_,rfl⟩ .nil))⟩
theorem q_BOUNDS_1{K:PySem.W.Frag}{a:Addr}{od:Option Addr}{sl:Array (Option Value)}{n:Nat}{t0 t1:Tok}(l:K.lookup a=some ⟨.type "tuple",od,.seq #[.int 0 t0,.int 23 t1] n,sl⟩):∀H,SqT K H a (([0,23]:List Int).map V.int):=fun H=>.inr ⟨_,_,_,l,rfl,rfl,(by show 2<=sizeLine;decide),(.cons ⟨_,rfl⟩ (.cons ⟨_,rfl⟩ .nil))⟩
theorem q_BOUNDS_3{K:PySem.W.Frag}{a:Addr}{od:Option Addr}{sl:Array (Option Value)}{n:Nat}{t0 t1:Tok}(l:K.lookup a=some ⟨.type "tuple",od,.seq #[.int 1 t0,.int 12 t1] n,sl⟩):∀H,SqT K H a (([1,12]:List Int).map V.int):=fun H=>.inr ⟨_,_,_,l,rfl,rfl,(by show 2<=sizeLine;decide),(.cons ⟨_,rfl⟩ (.cons ⟨_,rfl⟩ .nil))⟩
theorem mg_tx{K:PySem.W.Frag}{h:Heap}{mg:Str->Option Value}{x n:Str}{l:List Nat}{t:Tok}(X:K.In h)(G:h.Ns mainGlobals mg)(e:x=Tx l)(a:PySem.W.nsIn K mainGlobals n=some (some (.str x t))):mg n=some (.str (Tx l) t):=e▸PySem.W.mg_of X G a
theorem ad2:FnScope ["self","at"] ["self","at"] (aaC ab7):=⟨rfl,rfl,rfl,by decide +kernel,rfl,by decide +kernel,by decide +kernel⟩
theorem acE:FnScope ["self","place"] ["self","place"] (aaC acN):=⟨rfl,rfl,rfl,by decide +kernel,rfl,by decide +kernel,by decide +kernel⟩
theorem ah8:FnScope ["text"] ["text"] (aaC aeC):=⟨rfl,rfl,rfl,by decide +kernel,rfl,by decide +kernel,by decide +kernel⟩
theorem aiU:FnScope ["text"] ["text"] (aaC ae2):=⟨rfl,rfl,rfl,by decide +kernel,rfl,by decide +kernel,by decide +kernel⟩
theorem aCB:FnScope ["mask","number"] ["mask","number"] (aaC axJ):=⟨rfl,rfl,rfl,by decide +kernel,rfl,by decide +kernel,by decide +kernel⟩
theorem sc_mask_of:FnScope ["numbers","mask","number"] ["numbers"] (aaC ai2):=⟨rfl,rfl,rfl,by decide +kernel,rfl,by decide +kernel,by decide +kernel⟩
theorem aiY:FnScope ["mask"] ["mask"] (aaC aeS):=⟨rfl,rfl,rfl,by decide +kernel,rfl,by decide +kernel,by decide +kernel⟩
theorem ak1:FnScope ["first","last","stride"] ["first","last","stride"] (aaC ahJ):=⟨rfl,rfl,rfl,by decide +kernel,rfl,by decide +kernel,by decide +kernel⟩
theorem sc_read_number:FnScope ["text","low","high","number"] ["text","low","high"] (aaC aeD):=⟨rfl,rfl,rfl,by decide +kernel,rfl,by decide +kernel,by decide +kernel⟩
theorem sc_read_run:FnScope ["text","low","high","ends"] ["text","low","high"] (aaC ag5):=⟨rfl,rfl,rfl,by decide +kernel,rfl,by decide +kernel,by decide +kernel⟩
theorem sc_read_strided:FnScope ["run_text","stride_text","low","high","run","stride","last"] ["run_text","stride_text","low","high"] (aaC adE):=⟨rfl,rfl,rfl,by decide +kernel,rfl,by decide +kernel,by decide +kernel⟩
theorem sc_read_item:FnScope ["item","low","high","parts","run"] ["item","low","high"] (aaC agI):=⟨rfl,rfl,rfl,by decide +kernel,rfl,by decide +kernel,by decide +kernel⟩
theorem sc_read_field:FnScope ["text","low","high","items","mask","place","item","told"] ["text","low","high"] (aaC ae6):=⟨rfl,rfl,rfl,by decide +kernel,rfl,by decide +kernel,by decide +kernel⟩
theorem ad0:FnScope ["self","mask"] ["self","mask"] (aaC ab2):=⟨rfl,rfl,rfl,by decide +kernel,rfl,by decide +kernel,by decide +kernel⟩
theorem afX:FnScope ["self","back"] ["self","back"] (aaC aaW):=⟨rfl,rfl,rfl,by decide +kernel,rfl,by decide +kernel,by decide +kernel⟩
theorem afI:FnScope ["self","day"] ["self","day"] (aaC ac4):=⟨rfl,rfl,rfl,by decide +kernel,rfl,by decide +kernel,by decide +kernel⟩
theorem adP:FnScope ["self","mask"] ["self","mask"] (aaC abR):=⟨rfl,rfl,rfl,by decide +kernel,rfl,by decide +kernel,by decide +kernel⟩
theorem agS:FnScope ["self","weekday","many"] ["self","weekday","many"] (aaC adJ):=⟨rfl,rfl,rfl,by decide +kernel,rfl,by decide +kernel,by decide +kernel⟩
theorem adX:FnScope ["self","weekday"] ["self","weekday"] (aaC ab9):=⟨rfl,rfl,rfl,by decide +kernel,rfl,by decide +kernel,by decide +kernel⟩
theorem sc_read_day_mark:FnScope ["item","back","day"] ["item"] (aaC ac6):=⟨rfl,rfl,rfl,by decide +kernel,rfl,by decide +kernel,by decide +kernel⟩
theorem sc_read_weekday:FnScope ["text","number"] ["text"] (aaC adI):=⟨rfl,rfl,rfl,by decide +kernel,rfl,by decide +kernel,by decide +kernel⟩
theorem sc_read_weekday_mark:FnScope ["item","weekday","parts","many"] ["item"] (aaC abT):=⟨rfl,rfl,rfl,by decide +kernel,rfl,by decide +kernel,by decide +kernel⟩
theorem sc_read_items:FnScope ["text","low","high","read_mark","items","mask","marks","place","item","plain","mark"] ["text","low","high","read_mark"] (aaC aeV):=⟨rfl,rfl,rfl,by decide +kernel,rfl,by decide +kernel,by decide +kernel⟩
theorem sc_read_days:FnScope ["text","read"] ["text"] (aaC af9):=⟨rfl,rfl,rfl,by decide +kernel,rfl,by decide +kernel,by decide +kernel⟩
theorem sc_read_weekdays:FnScope ["text","read","mask"] ["text"] (aaC ac2):=⟨rfl,rfl,rfl,by decide +kernel,rfl,by decide +kernel,by decide +kernel⟩
theorem sc_times_of:FnScope ["hours","minutes","times","hour"] ["hours","minutes"] (aaC ahI):=⟨rfl,rfl,rfl,by decide +kernel,rfl,by decide +kernel,by decide +kernel⟩
theorem agU:FnScope ["self","fields"] ["self","fields"] (aaC adO):=⟨rfl,rfl,rfl,by decide +kernel,rfl,by decide +kernel,by decide +kernel⟩
theorem sc_read_word:FnScope ["word","place","bounds"] ["word","place"] (aaC af0):=⟨rfl,rfl,rfl,by decide +kernel,rfl,by decide +kernel,by decide +kernel⟩
theorem anA:FnScope ["word","place"] ["word","place"] (aaC ai6):=⟨rfl,rfl,rfl,by decide +kernel,rfl,by decide +kernel,by decide +kernel⟩
theorem sc_read_row:FnScope ["text","words"] ["text"] (aaC ahM):=⟨rfl,rfl,rfl,by decide +kernel,rfl,by decide +kernel,by decide +kernel⟩
theorem agV:FnScope ["_law_script","_law_k"] ["_law_script","_law_k"] (aaC adB):=⟨rfl,rfl,rfl,by decide +kernel,rfl,by decide +kernel,by decide +kernel⟩
theorem sc__law_stir:FnScope ["_law_number","_law_first","_law_second"] ["_law_number"] (aaC agA):=⟨rfl,rfl,rfl,by decide +kernel,rfl,by decide +kernel,by decide +kernel⟩
theorem sc__law_digits:FnScope ["_law_cell","_law_sizes","_law_mixed","_law_found","_law_size"] ["_law_cell","_law_sizes","_law_mixed"] (aaC ad7):=⟨rfl,rfl,rfl,by decide +kernel,rfl,by decide +kernel,by decide +kernel⟩
theorem aiN:FnScope ["_law_found"] ["_law_found"] (aaC aeT):=⟨rfl,rfl,rfl,by decide +kernel,rfl,by decide +kernel,by decide +kernel⟩
theorem sc__law_item:FnScope ["_law_way","_law_first","_law_last","_law_step","_law_bounds","_law_low","_law_high"] ["_law_way","_law_first","_law_last","_law_step","_law_bounds"] (aaC agB):=⟨rfl,rfl,rfl,by decide +kernel,rfl,by decide +kernel,by decide +kernel⟩
theorem akX:FnScope ["_law_numbers"] ["_law_numbers"] (aaC af5):=⟨rfl,rfl,rfl,by decide +kernel,rfl,by decide +kernel,by decide +kernel⟩
theorem sc__law_spec:FnScope ["_law_parts","_law_week","_law_way","_law_first","_law_last","_law_step","_law_day","_law_text","_law_numbers"] ["_law_parts","_law_week"] (aaC af4):=⟨rfl,rfl,rfl,by decide +kernel,rfl,by decide +kernel,by decide +kernel⟩
theorem sc__law_field:FnScope ["_law_cell","_law_low","_law_high","_law_mixed","_law_wide","_law_parts","_law_texts","_law_numbers","_law_k","_law_way","_law_first","_law_last","_law_step","_law_text","_law_some"] ["_law_cell","_law_low","_law_high","_law_mixed"] (aaC aeR):=⟨rfl,rfl,rfl,by decide +kernel,rfl,by decide +kernel,by decide +kernel⟩
theorem sc__law_day_field:FnScope ["_law_cell","_law_week","_law_mixed","_law_parts","_law_texts","_law_specs","_law_k","_law_text","_law_spec_here"] ["_law_cell","_law_week","_law_mixed"] (aaC acS):=⟨rfl,rfl,rfl,by decide +kernel,rfl,by decide +kernel,by decide +kernel⟩
theorem sc__law_row:FnScope ["_law_cells_here","_law_mixed","_law_minutes","_law_hours","_law_days","_law_months","_law_week","_law_some"] ["_law_cells_here","_law_mixed"] (aaC ahA):=⟨rfl,rfl,rfl,by decide +kernel,rfl,by decide +kernel,by decide +kernel⟩
theorem aiX:FnScope ["_law_script","_law_at"] ["_law_script","_law_at"] (aaC aeX):=⟨rfl,rfl,rfl,by decide +kernel,rfl,by decide +kernel,by decide +kernel⟩
theorem sc__law_told:FnScope ["_law_text","_law_found","e"] ["_law_text"] (aaC agG):=⟨rfl,rfl,rfl,by decide +kernel,rfl,by decide +kernel,by decide +kernel⟩
theorem sc__law_wrong:FnScope ["_law_place","_law_turn","_law_some"] ["_law_place","_law_turn"] (aaC afA):=⟨rfl,rfl,rfl,by decide +kernel,rfl,by decide +kernel,by decide +kernel⟩
theorem sc__law_words:FnScope ["_law_words_here","_law_way","_law_turn","_law_text"] ["_law_words_here","_law_way","_law_turn"] (aaC ae3):=⟨rfl,rfl,rfl,by decide +kernel,rfl,by decide +kernel,by decide +kernel⟩
theorem sc__law_spoilt:FnScope ["_law_text","_law_parts","_law_words_here","_law_place"] ["_law_text","_law_parts"] (aaC ad8):=⟨rfl,rfl,rfl,by decide +kernel,rfl,by decide +kernel,by decide +kernel⟩
theorem sc_law:FnScope ["_law_script","_law_mixed","_law_text","_law_row_here","_law_k","_law_parts","_law_thing","_law_due"] ["_law_script"] (aaC ajD):=⟨rfl,rfl,rfl,by decide +kernel,rfl,by decide +kernel,by decide +kernel⟩
structure Fs(K:PySem.W.Frag)(mg:Str->Option Value)(C_Numbers C_Last C_Near C_Weekdays C_Nth C_LastOne C_LastWork C_Mark C_Row C_NoField C_NoRow C_read_weekday_mark C_read_day_mark C_FieldError C_NoBook C_NoClock C_NoDay C_NoMoment C_NoName C_NoWord a_BOUNDS a_BOUNDS_0 a_BOUNDS_1 a_BOUNDS_3:Addr)(t_FIGURES t_MOST_STRIDE t_MOST_SIGNS t_MOST_ITEMS t_MOST_BACK t_MOST_DAY t_SUNDAY_TOO t_SUNDAY t_MOST_NTH t_MOST_MARKS t_ALL_WEEKDAYS t_HOUR_MINUTES t_MINUTE t_HOUR t_DAY t_MONTH t_WEEKDAY t_MOST_ROW_SIGNS t_NO_PLACE:Tok):Prop where
 c_Numbers:Cd K mg "Numbers" C_Numbers
 n_Numbers_mask:PySem.W.findIn K (.ref C_Numbers) "mask"=some none
 c_Last:Cd K mg "Last" C_Last
 n_Last_back:PySem.W.findIn K (.ref C_Last) "back"=some none
 c_Near:Cd K mg "Near" C_Near
 n_Near_day:PySem.W.findIn K (.ref C_Near) "day"=some none
 c_Weekdays:Cd K mg "Weekdays" C_Weekdays
 n_Weekdays_mask:PySem.W.findIn K (.ref C_Weekdays) "mask"=some none
 c_Nth:Cd K mg "Nth" C_Nth
 n_Nth_weekday:PySem.W.findIn K (.ref C_Nth) "weekday"=some none
 n_Nth_many:PySem.W.findIn K (.ref C_Nth) "many"=some none
 c_LastOne:Cd K mg "LastOne" C_LastOne
 n_LastOne_weekday:PySem.W.findIn K (.ref C_LastOne) "weekday"=some none
 c_LastWork:Cd K mg "LastWork" C_LastWork
 i_LastWork:PySem.W.findIn K (.ref C_LastWork) "__init__"=some (some (.builtin "object.__init__"))
 c_Mark:Cd K mg "Mark" C_Mark
 i_Mark:PySem.W.findIn K (.ref C_Mark) "__init__"=some (some (.builtin "object.__init__"))
 c_Row:Cd K mg "Row" C_Row
 n_Row_minute_mask:PySem.W.findIn K (.ref C_Row) "minute_mask"=some none
 n_Row_hour_mask:PySem.W.findIn K (.ref C_Row) "hour_mask"=some none
 n_Row_day_marks:PySem.W.findIn K (.ref C_Row) "day_marks"=some none
 n_Row_month_mask:PySem.W.findIn K (.ref C_Row) "month_mask"=some none
 n_Row_weekday_marks:PySem.W.findIn K (.ref C_Row) "weekday_marks"=some none
 n_Row_time_mask:PySem.W.findIn K (.ref C_Row) "time_mask"=some none
 m_NoField:mg "NoField"=some (.ref C_NoField)
 m_NoRow:mg "NoRow"=some (.ref C_NoRow)
 m_read_weekday_mark:mg "read_weekday_mark"=some (.ref C_read_weekday_mark)
 m_read_day_mark:mg "read_day_mark"=some (.ref C_read_day_mark)
 m_FieldError:mg "FieldError"=some (.ref C_FieldError)
 m_NoBook:mg "NoBook"=some (.ref C_NoBook)
 m_NoClock:mg "NoClock"=some (.ref C_NoClock)
 m_NoDay:mg "NoDay"=some (.ref C_NoDay)
 m_NoMoment:mg "NoMoment"=some (.ref C_NoMoment)
 m_NoName:mg "NoName"=some (.ref C_NoName)
 m_NoWord:mg "NoWord"=some (.ref C_NoWord)
 xs_NoField:XS K C_NoField "at"
 xj_NoField:ahF K C_NoField=true
 xb_NoField:PySem.W.subIn K (.ref C_NoField) (.type "BaseException")=some true
 xk_NoField_NoField:PySem.W.kitCls K (.ref C_NoField) (.ref C_NoField)=some true
 xs_NoRow:XS K C_NoRow "place"
 xj_NoRow:ahF K C_NoRow=true
 xb_FieldError:PySem.W.subIn K (.ref C_FieldError) (.type "BaseException")=some true
 xk_NoRow_FieldError:PySem.W.kitCls K (.ref C_NoRow) (.ref C_FieldError)=some true
 xi_NoRow:PySem.W.kitOne K (.ref C_NoRow) (.ref C_NoRow)=some true
 xv_NoRow:PySem.W.kitOne K (.ref C_NoRow) (.type "ValueError")=some true
 xt_NoRow:PySem.W.kitAny K (.ref C_NoRow) ([C_NoBook,C_NoClock,C_NoDay,C_NoField,C_NoMoment,C_NoName,C_NoWord].map Value.ref)=some false
 is_Row:IsC K C_Row
 kt_Row:PySem.W.kitOne K (.ref C_Row) (.ref C_Row)=some true
 m_FIGURES:mg "FIGURES"=some (.str (Tx [48,49,50,51,52,53,54,55,56,57]) t_FIGURES)
 m_MOST_STRIDE:mg "MOST_STRIDE"=some (.int 99 t_MOST_STRIDE)
 m_MOST_SIGNS:mg "MOST_SIGNS"=some (.int 300 t_MOST_SIGNS)
 m_MOST_ITEMS:mg "MOST_ITEMS"=some (.int 40 t_MOST_ITEMS)
 m_MOST_BACK:mg "MOST_BACK"=some (.int 30 t_MOST_BACK)
 m_MOST_DAY:mg "MOST_DAY"=some (.int 31 t_MOST_DAY)
 m_SUNDAY_TOO:mg "SUNDAY_TOO"=some (.int 7 t_SUNDAY_TOO)
 m_SUNDAY:mg "SUNDAY"=some (.int 0 t_SUNDAY)
 m_MOST_NTH:mg "MOST_NTH"=some (.int 5 t_MOST_NTH)
 m_MOST_MARKS:mg "MOST_MARKS"=some (.int 20 t_MOST_MARKS)
 m_ALL_WEEKDAYS:mg "ALL_WEEKDAYS"=some (.int 127 t_ALL_WEEKDAYS)
 m_HOUR_MINUTES:mg "HOUR_MINUTES"=some (.int 60 t_HOUR_MINUTES)
 m_MINUTE:mg "MINUTE"=some (.int 0 t_MINUTE)
 m_HOUR:mg "HOUR"=some (.int 1 t_HOUR)
 m_DAY:mg "DAY"=some (.int 2 t_DAY)
 m_MONTH:mg "MONTH"=some (.int 3 t_MONTH)
 m_WEEKDAY:mg "WEEKDAY"=some (.int 4 t_WEEKDAY)
 m_BOUNDS:mg "BOUNDS"=some (.ref a_BOUNDS)
 q_BOUNDS:KD K a_BOUNDS [(0,.ref a_BOUNDS_0),(1,.ref a_BOUNDS_1),(3,.ref a_BOUNDS_3)]
 q_BOUNDS_0:∀H,SqT K H a_BOUNDS_0 (([0,59]:List Int).map V.int)
 q_BOUNDS_1:∀H,SqT K H a_BOUNDS_1 (([0,23]:List Int).map V.int)
 q_BOUNDS_3:∀H,SqT K H a_BOUNDS_3 (([1,12]:List Int).map V.int)
 m_MOST_ROW_SIGNS:mg "MOST_ROW_SIGNS"=some (.int 1600 t_MOST_ROW_SIGNS)
 m_NO_PLACE:mg "NO_PLACE"=some (.int 5 t_NO_PLACE)
 z_all:mg "all"=none
 z_range:mg "range"=none
 z_list:mg "list"=none
 z_int:mg "int"=none
 z_len:mg "len"=none
 z_str:mg "str"=none
 z_isinstance:mg "isinstance"=none
 z_enumerate:mg "enumerate"=none
 z_abs:mg "abs"=none
 z_bool:mg "bool"=none
 z_set:mg "set"=none
 z_sorted:mg "sorted"=none
 z_sum:mg "sum"=none
 z_ValueError:mg "ValueError"=none
 z_min:mg "min"=none
 F_NoField___init__:FnM K C_NoField "__init__" "NoField.__init__" ab7 ["self","at"]
 F_NoRow___init__:FnM K C_NoRow "__init__" "NoRow.__init__" acN ["self","place"]
 F_all_figures:Fn K mg "all_figures" aeC ["text"]
 F_is_written:Fn K mg "is_written" ae2 ["text"]
 F_has:Fn K mg "has" axJ ["mask","number"]
 F_mask_of:Fn K mg "mask_of" ai2 ["numbers"]
 F_numbers_in:Fn K mg "numbers_in" aeS ["mask"]
 F_run_mask:Fn K mg "run_mask" ahJ ["first","last","stride"]
 F_read_number:Fn K mg "read_number" aeD ["text","low","high"]
 F_read_run:Fn K mg "read_run" ag5 ["text","low","high"]
 F_read_strided:Fn K mg "read_strided" adE ["run_text","stride_text","low","high"]
 F_read_item:Fn K mg "read_item" agI ["item","low","high"]
 F_read_field:Fn K mg "read_field" ae6 ["text","low","high"]
 F_Numbers___init__:FnM K C_Numbers "__init__" "Numbers.__init__" ab2 ["self","mask"]
 F_Last___init__:FnMD K C_Last "__init__" "Last.__init__" aaW ["self","back"] [.int 0]
 F_Near___init__:FnM K C_Near "__init__" "Near.__init__" ac4 ["self","day"]
 F_Weekdays___init__:FnM K C_Weekdays "__init__" "Weekdays.__init__" abR ["self","mask"]
 F_Nth___init__:FnM K C_Nth "__init__" "Nth.__init__" adJ ["self","weekday","many"]
 F_LastOne___init__:FnM K C_LastOne "__init__" "LastOne.__init__" ab9 ["self","weekday"]
 F_read_day_mark:Fn K mg "read_day_mark" ac6 ["item"]
 F_read_weekday:Fn K mg "read_weekday" adI ["text"]
 F_read_weekday_mark:Fn K mg "read_weekday_mark" abT ["item"]
 F_read_items:Fn K mg "read_items" aeV ["text","low","high","read_mark"]
 F_read_days:Fn K mg "read_days" af9 ["text"]
 F_read_weekdays:Fn K mg "read_weekdays" ac2 ["text"]
 F_times_of:Fn K mg "times_of" ahI ["hours","minutes"]
 F_Row___init__:FnM K C_Row "__init__" "Row.__init__" adO ["self","fields"]
 F_read_word:Fn K mg "read_word" af0 ["word","place"]
 F_read_at:Fn K mg "read_at" ai6 ["word","place"]
 F_read_row:Fn K mg "read_row" ahM ["text"]
 F__law_cell_at:Fn K mg "_law_cell_at" adB ["_law_script","_law_k"]
 F__law_stir:Fn K mg "_law_stir" agA ["_law_number"]
 F__law_digits:Fn K mg "_law_digits" ad7 ["_law_cell","_law_sizes","_law_mixed"]
 F__law_whole:Fn K mg "_law_whole" aeT ["_law_found"]
 F__law_item:Fn K mg "_law_item" agB ["_law_way","_law_first","_law_last","_law_step","_law_bounds"]
 F__law_mask:Fn K mg "_law_mask" af5 ["_law_numbers"]
 F__law_spec:Fn K mg "_law_spec" af4 ["_law_parts","_law_week"]
 F__law_field:Fn K mg "_law_field" aeR ["_law_cell","_law_low","_law_high","_law_mixed"]
 F__law_day_field:Fn K mg "_law_day_field" acS ["_law_cell","_law_week","_law_mixed"]
 F__law_row:Fn K mg "_law_row" ahA ["_law_cells_here","_law_mixed"]
 F__law_cells:Fn K mg "_law_cells" aeX ["_law_script","_law_at"]
 F__law_told:Fn K mg "_law_told" agG ["_law_text"]
 F__law_wrong:Fn K mg "_law_wrong" afA ["_law_place","_law_turn"]
 F__law_words:Fn K mg "_law_words" ae3 ["_law_words_here","_law_way","_law_turn"]
 F__law_spoilt:Fn K mg "_law_spoilt" ad8 ["_law_text","_law_parts"]
section
set_option maxHeartbeats 4000000
variable{P:Program}{w:World}{K:PySem.W.Frag}{mg:Str->Option Value}{base:Heap}{C_Numbers C_Last C_Near C_Weekdays C_Nth C_LastOne C_LastWork C_Mark C_Row C_NoField C_NoRow C_read_weekday_mark C_read_day_mark C_FieldError C_NoBook C_NoClock C_NoDay C_NoMoment C_NoName C_NoWord a_BOUNDS a_BOUNDS_0 a_BOUNDS_1 a_BOUNDS_3:Addr}{t_FIGURES t_MOST_STRIDE t_MOST_SIGNS t_MOST_ITEMS t_MOST_BACK t_MOST_DAY t_SUNDAY_TOO t_SUNDAY t_MOST_NTH t_MOST_MARKS t_ALL_WEEKDAYS t_HOUR_MINUTES t_MINUTE t_HOUR t_DAY t_MONTH t_WEEKDAY t_MOST_ROW_SIGNS t_NO_PLACE:Tok}(ZZ:Fs K mg C_Numbers C_Last C_Near C_Weekdays C_Nth C_LastOne C_LastWork C_Mark C_Row C_NoField C_NoRow C_read_weekday_mark C_read_day_mark C_FieldError C_NoBook C_NoClock C_NoDay C_NoMoment C_NoName C_NoWord a_BOUNDS a_BOUNDS_0 a_BOUNDS_1 a_BOUNDS_3 t_FIGURES t_MOST_STRIDE t_MOST_SIGNS t_MOST_ITEMS t_MOST_BACK t_MOST_DAY t_SUNDAY_TOO t_SUNDAY t_MOST_NTH t_MOST_MARKS t_ALL_WEEKDAYS t_HOUR_MINUTES t_MINUTE t_HOUR t_DAY t_MONTH t_WEEKDAY t_MOST_ROW_SIGNS t_NO_PLACE)
include ZZ
theorem aaQ:DfM P w K mg base C_NoField "__init__" 1 ["self","at"] (ad3 K C_NoField):=by
 refine ZZ.F_NoField___init__.dfs ad2 (fun vs H Q E h=>?_) (fun f cdv A outer s H vs Q E hr h=>?_)
 ·obtain⟨a,v,rfl,ha,hx,q⟩:=h
  rfl
 obtain⟨a,v,rfl,ha,hx,q⟩:=h
 refine⟨_,(ss1 (aC0 (v_ 0) (v_ 1))),?_⟩
 exact⟨_,rfl,_,rfl,a,C_NoField,rfl,ha,hx,fun dx h1 h2=>q dx _ h1 h2 rfl⟩
theorem acG:DfM P w K mg base C_NoRow "__init__" 1 ["self","place"] (acF K C_NoRow):=by
 refine ZZ.F_NoRow___init__.dfs acE (fun vs H Q E h=>?_) (fun f cdv A outer s H vs Q E hr h=>?_)
 ·obtain⟨a,v,rfl,ha,hx,q⟩:=h
  rfl
 obtain⟨a,v,rfl,ha,hx,q⟩:=h
 refine⟨_,(ss1 (aC0 (v_ 0) (v_ 1))),?_⟩
 exact⟨_,rfl,_,rfl,a,C_NoRow,rfl,ha,hx,fun dx h1 h2=>q dx _ h1 h2 rfl⟩
theorem aeJ:DfMQ P w K mg base C_NoRow "__init__" 1 ["self","place"] (acF K C_NoRow):=by
 refine ZZ.F_NoRow___init__.dfsQ acE (fun vs H Q E h=>?_) (fun f cdv A outer s H vs Q hr h=>?_)
 ·obtain⟨a,v,rfl,ha,hx,q⟩:=h
  rfl
 obtain⟨a,v,rfl,ha,hx,q⟩:=h
 refine⟨_,(ss1 (aC0 (v_ 0) (v_ 1))),?_⟩
 exact⟨_,rfl,_,rfl,a,C_NoRow,rfl,ha,hx,fun dx h1 h2=>q dx _ h1 h2 rfl⟩
theorem ahU:Df P w K mg base "all_figures" 1 ["text"] (ah0 K):=by
 refine ZZ.F_all_figures.dfs ah8 (fun vs H Q E h=>?_) (fun f cdv A outer s H vs Q E hr h=>?_)
 ·obtain⟨l,rfl,hl,q⟩:=h
  rfl
 obtain⟨l,rfl,hl,q⟩:=h
 refine⟨_,(ss1 (aaH (aCS (akO oNe (v_ 0) (eSx [])) (ap1 (eCB cAll ZZ.z_all boot_all (aC (ag9 [] [] (iX (v_ 0)) (fun _ _ _ _ _ _=>fsN) (fun _ _ _ _ _ _=>(akO oInX (v_ 0) (eGl (v:=.str (Tx [48,49,50,51,52,53,54,55,56,57])) ZZ.m_FIGURES ⟨_,rfl⟩)))) aN)))))),?_⟩
 refine⟨_,rfl,rfl,_,rfl,?_⟩
 rw[apZ l []]
 by_cases c:l=[]
 ·rw[decide_eq_true c]
  have e:ajT l=false:=by unfold ajT;rw[decide_eq_true c];rfl
  rw[e] at q
  exact aa7 (q H (Same.refl H))
 ·rw[decide_eq_false c]
  have e:ajT l=l.all aeF:=by unfold ajT;rw[decide_eq_false c];rfl
  rw[e] at q
  refine abZ ⟨_,rfl,Tx l,rfl,aqC (xs:=l) (fun i z=>z=((l.take i).map aeF).map V.bl) (by rw[sizeLine_eq];omega) rfl ?_ ?_⟩
  ·intro i ch z D H2 E' F' hv hR hD s2 hz hE hF
   subst hR
   refine⟨_,rfl,ch,aCL,rfl,rfl,?_⟩
   rw[apQ]
   exact hE _ _ (Same.refl _) (by rw[List.take_succ,hv,List.map_append,List.map_append];rfl)
  ·intro D H2 z hR hD s2 hz
   subst hR
   rw[List.take_length] at hz
   refine⟨D,l.map aeF,rfl,SqL.of hz,?_⟩
   rw[List.all_map]
   exact q H2 s2
theorem aeE:Df P w K mg base "is_written" 2 ["text"] (ai1 K):=by
 refine ZZ.F_is_written.dfs aiU (fun vs H Q E h=>?_) (fun f cdv A outer s H vs Q E hr h=>?_)
 ·obtain⟨l,rfl,hl,q⟩:=h
  rfl
 obtain⟨l,rfl,hl,q⟩:=h
 refine⟨_,(ss1 (aaH (aCS (eD (ahU ZZ) hr (aC (v_ 0) aN)) (ap1 (eOr (akO oEq (v_ 0) (eSx [48])) (ap1 (akO oNe (eIx xX (v_ 0) eI) (eSx [48])))))))),?_⟩
 refine⟨_,rfl,l,rfl,hl,fun H1 s1=>⟨_,rfl,?_⟩⟩
 refine if2 (fun c=>?_) (fun c=>?_)
 ·have hne:l≠[]:=fun e=>by
   unfold ajT at c
   rw[decide_eq_true e] at c
   exact absurd (show false=true from c) Bool.false_ne_true
  refine⟨_,rfl,rfl,_,rfl,?_⟩
  rw[apZ l [48]]
  by_cases c2:l=[48]
  ·rw[decide_eq_true c2]
   have e:isW l=true:=by unfold isW;rw[c,decide_eq_true c2];rfl
   rw[e] at q
   exact abZ (q H1 s1)
  ·rw[decide_eq_false c2]
   obtain⟨x,r,rfl⟩:∃x r,l=x::r:=by
    cases l with
    |nil=>exact absurd rfl hne
    |cons x r=>exact⟨x,r,rfl⟩
   refine aa7 ⟨_,rfl,x::r,0,x,rfl,rfl,(by rw[sizeLine_eq];omega),(show atI (x::r) ((0:Nat):Int)=some x from akJ rfl),rfl,?_⟩
   rw[apZ [x] [48]]
   have e:isW (x::r)= !decide ([x]=[48]):=by
    unfold isW
    rw[c,decide_eq_false c2]
    show (!decide (x=48))=_
    rw[decide_eq_decide.mpr (show x=48↔[x]=[48] by simp)]
   rw[e] at q
   exact q H1 s1
 ·have e:isW l=false:=by unfold isW;rw[c];rfl
  rw[e] at q
  exact q H1 s1
theorem az8:Df P w K mg base "has" 1 ["mask","number"] (aBI K):=by
 refine ZZ.F_has.dfs aCB (fun vs H Q E h=>?_) (fun f cdv A outer s H vs Q E hr h=>?_)
 ·obtain⟨m,n,rfl,h0,q⟩:=h
  rfl
 obtain⟨m,n,rfl,h0,q⟩:=h
 refine⟨_,(ss1 (aaH (akO oEq (eOp aFG (eOp aJF (v_ 0) (v_ 1)) eI) eI))),?_⟩
 refine⟨_,rfl,_,rfl,_,_,rfl,rfl,h0.2,_,_,rfl,rfl,rfl,?_⟩
 have e:decide (V.int (Builtin.bitAnd (m / 2^n.toNat) 1)=V.int 1)=tb m n.toNat:=by
  rw[←auJ h0.1]
  exact decide_eq_decide.mpr int_eq
 show Q (.bl (decide (V.int (Builtin.bitAnd (m / 2^n.toNat) 1)=V.int 1))) H
 rw[e]
 exact q
theorem amX:Df P w K mg base "mask_of" 1 ["numbers"] (am4 K):=by
 refine ZZ.F_mask_of.dfs sc_mask_of (fun vs H Q E h=>?_) (fun f cdv A outer s H vs Q E hr h=>?_)
 ·obtain⟨a,zs,rfl,hS,hz,q⟩:=h
  rfl
 obtain⟨a,zs,rfl,hS,hz,q⟩:=h
 refine⟨_,(ssC (aaK 1 eI sc_mask_of.nd)
   (ssC (al6 (iL (v_ 0)) (gN 2 sc_mask_of.nd) (ss1 (aaK 1 (eOp oOr (v_ 1) (eOp aCR eI (v_ 2))) sc_mask_of.nd)) PassesOwn.never)
   (ss1 (aaH (v_ 1))))),?_⟩
 refine⟨_,rfl,a,rfl,⟨_,hS⟩,ag2 (K:=K) (a:=a) (xs:=zs.map V.int) (fun i σ H2=>H2=H/\∃u:Option V,σ=[some (.ref a),some (.int (aa4 (zs.take i))),u]) ⟨rfl,_,rfl⟩ (fun i σ H2 _ hP=>by rw[hP.1];exact hS) ?_ ?_⟩
 ·rintro i x σ H2 hx ⟨rfl,u,rfl⟩
  rw[List.getElem?_map] at hx
  cases ez:zs[i]? with
  |none=>rw[ez] at hx;cases hx
  |some z=>
   rw[ez] at hx
   obtain rfl:V.int z=x:=Option.some.inj hx
   have h:=hz z (List.mem_of_getElem? ez)
   have et:aa4 (zs.take (i+1))=Builtin.bitOr (aa4 (zs.take i)) (1*2^z.toNat):=by
    rw[List.take_succ,ez,←ahY]
    rfl
   exact⟨_,rfl,_,rfl,_,_,rfl,rfl,⟨h.1,by omega,by decide⟩,_,_,rfl,rfl,rfl,_,by rw[et];rfl⟩
 ·rintro σ H2 ⟨rfl,u,rfl⟩
  rw[List.length_map,List.take_length]
  exact⟨_,rfl,q⟩
theorem aiL:Df P w K mg base "numbers_in" 2 ["mask"] (aiV K):=by
 refine ZZ.F_numbers_in.dfs aiY (fun vs H Q E h=>?_) (fun f cdv A outer s H vs Q E hr h=>?_)
 ·obtain⟨m,rfl,hm,q⟩:=h
  rfl
 obtain⟨m,rfl,hm,q⟩:=h
 refine⟨_,(ss1 (aaH (ag9 ["mask"] [0] (iR1 ZZ.z_range (aC (eBL (v_ 0)) aN)) (fun _ _ _ _ _ _=>(fs1 (tVa (eD (az8 ZZ) hr (aC (v_ 1) (aC (v_ 0) aN)))))) (fun _ _ _ _ _ _=>(v_ 0))))),?_⟩
 refine⟨_,rfl,rfl,_,rfl,rfl,_,rfl,by omega,by omega,ahQ (fun i z=>z=(flt (tb m) 0 i).map V.int) (by rw[sizeLine_eq,Int.toNat_natCast];omega) as9 ?_ ?_⟩
 ·intro i z D H2 E' F' hi hR hD s2 hz hE hF
  subst hR
  refine⟨_,rfl,_,rfl,_,_,rfl,⟨hm.1,by omega⟩,_,rfl,?_⟩
  have e0:(0+(i:Int)).toNat=i:=by omega
  show if tb m (0+(i:Int)).toNat=true then _ else _
  rw[e0]
  by_cases c:tb m i=true
  ·rw[if_pos c]
   exact⟨_,rfl,hE _ _ (Same.refl _) (by rw[an3 c,List.map_append];rfl)⟩
  ·rw[if_neg c]
   exact hF _ (Same.refl _) (by rw[am3 (by simpa using c)])
 ·intro D H2 z hR hD s2 hz
  subst hR
  rw[Int.toNat_natCast] at hz
  exact q D H2 s2 hz
theorem af8:Df P w K mg base "run_mask" 2 ["first","last","stride"] (ak5 K):=by
 refine ZZ.F_run_mask.dfs ak1 (fun vs H Q E h=>?_) (fun f cdv A outer s H vs Q E hr h=>?_)
 ·obtain⟨a,b,st,rfl,ha,hb,hs,q⟩:=h
  rfl
 obtain⟨a,b,st,rfl,ha,hb,hs,q⟩:=h
 refine⟨_,(ss1 (aaH (eD (amX ZZ) hr (aC (eCT cLR ZZ.z_list PyProof.Rows.boot_list (aC (eCT auX ZZ.z_range boot_range (aC (v_ 0) (aC (eOp abE (v_ 1) eI) (aC (v_ 2) aN)))) aN)) aN)))),?_⟩
 obtain⟨n1,n2⟩:=acZ ha.1 hb.2 hs.1
 have bd:∀z∈ab5 a b st,0<=z/\z<=100000:=fun z hz=>by
  have:=(agW hs.1).mp hz
  omega
 refine⟨_,rfl,_,rfl,_,_,rfl,rfl,_,rfl,_,_,_,rfl,⟨hs.1,by omega⟩,fun p hp=>⟨p,a,b+1,st,(Builtin.Range.rangeSize a (b+1) st).toNat,rfl,aaA,acO ha.1 ha.2 hb.1 hb.2 hs.1 hs.2,n2,(by omega),fun l hl=>⟨l,ab5 a b st,rfl,SqL.of (by rw[abV,List.map_map];exact aaA),bd,?_⟩⟩⟩
 exact q _ ((aaB hp _).trans (aaB hl _))
theorem aa5:Df P w K mg base "read_number" 3 ["text","low","high"] (ahC K):=by
 refine ZZ.F_read_number.dfs sc_read_number (fun vs H Q E h=>?_) (fun f cdv A outer s H vs Q E hr h=>?_)
 ·obtain⟨l,lo,hi,rfl,hl,q⟩:=h
  rfl
 obtain⟨l,lo,hi,rfl,hl,q⟩:=h
 refine⟨_,(ssC (sIf (tNo (tVa (eD (aeE ZZ) hr (aC (v_ 0) aN)))) (ss1 (aaH eN)) ssN)
   (ssC (aaK 3 (eCT aH5 ZZ.z_int PyProof.Rows.boot_int (aC (v_ 0) aN)) sc_read_number.nd)
   (ssC (sIf (tCh oLe oLe (v_ 1) (v_ 3) (v_ 2)) (ss1 (aaH (v_ 3))) ssN)
   (ss1 (aaH eN))))),?_⟩
 refine⟨_,rfl,l,rfl,(by omega),fun H1 s1=>⟨_,rfl,?_⟩⟩
 by_cases c:isW l=true
 ·rw[c]
  obtain⟨d1,d2⟩:=ahR c
  refine aa7 ⟨_,rfl,l,rfl,d1,d2,(by omega),?_⟩
  refine⟨_,rfl,_,rfl,_,_,rfl,rfl,_,rfl,?_⟩
  show if decide (lo<=dv l)=true then _ else _
  refine ifD (fun c1=>⟨_,rfl,_,_,rfl,rfl,_,rfl,?_⟩) (fun c1=>⟨_,rfl,?_⟩)
  ·show if decide (dv l<=hi)=true then _ else _
   refine ifD (fun c2=>?_) (fun c2=>?_)
   ·have e:aaO lo hi l=some (dv l):=by unfold aaO;rw[if_pos c,if_pos ⟨c1,c2⟩]
    rw[e] at q
    exact⟨_,rfl,q H1 s1⟩
   ·have e:aaO lo hi l=none:=by unfold aaO;rw[if_pos c,if_neg fun z=>c2 z.2]
    rw[e] at q
    exact q H1 s1
  ·have e:aaO lo hi l=none:=by unfold aaO;rw[if_pos c,if_neg fun z=>c1 z.1]
   rw[e] at q
   exact aa7 (q H1 s1)
 ·have c':isW l=false:=by simpa using c
  rw[c']
  have e:aaO lo hi l=none:=by unfold aaO;rw[if_neg c]
  rw[e] at q
  exact abZ (q H1 s1)
theorem agF:Df P w K mg base "read_run" 4 ["text","low","high"] (alG K):=by
 refine ZZ.F_read_run.dfs sc_read_run (fun vs H Q E h=>?_) (fun f cdv A outer s H vs Q E hr h=>?_)
 ·obtain⟨l,lo,hi,rfl,hl,q⟩:=h
  rfl
 obtain⟨l,lo,hi,rfl,hl,q⟩:=h
 refine⟨_,(ssC (sIf (tCm oEq (v_ 0) (eSx [42])) (ss1 (aaH (aa9 (aC (v_ 1) (aC (v_ 2) aN))))) ssN)
   (ssC (aI9 3 ["low","high"] [1,2] (iL (amZ (v_ 0) (eSx [45]))) (fun _ _ _ _ _ _=>fsN) (fun _ _ _ _ _ _=>(eD (aa5 ZZ) hr (aC (v_ 0) (aC (v_ 1) (aC (v_ 2) aN))))) sc_read_run.nd)
   (ssC (sIf (tW (wOr (tCm oGt (eCB al3 ZZ.z_len PySem.boot_len (aC (v_ 3) aN)) eI) (wOr (tCm oIn eN (v_ 3)) (afY (tCm oGt (eIx xL (v_ 3) eI) (eIx xL (v_ 3) (eUn at7 eI))))))) (ss1 (aaH eN)) ssN)
   (ss1 (aaH (aa9 (aC (eIx xL (v_ 3) eI) (aC (eIx xL (v_ 3) (eUn at7 eI)) aN)))))))),?_⟩
 refine⟨_,rfl,rfl,_,rfl,?_⟩
 rw[apZ l [42]]
 by_cases c:l=[42]
 ·rw[decide_eq_true c]
  refine abZ ⟨_,rfl,_,rfl,(by show 2<=sizeLine;decide),fun p hp=>?_⟩
  have e:aaN lo hi l=some (lo,hi):=by unfold aaN;rw[if_pos c]
  rw[e] at q
  exact q _ _ (aaB hp _) ⟨p,rfl,aaA⟩
 rw[decide_eq_false c]
 have hsl:=ae5 45 l
 have eR:aaN lo hi l=agD ((spl 45 l).map (aaO lo hi)):=by unfold aaN;rw[if_neg c]
 rw[eR] at q
 refine aa7 ⟨_,rfl,rfl,l,45,rfl,rfl,(by rw[sizeLine_eq];omega),fun ps hps=>⟨ps,rfl,⟨_,SqL.of aaA⟩,acP (xs:=(spl 45 l).map fun q=>V.str (Tx q)) (fun i z=>z=((spl 45 l).take i).map fun q=>oV (aaO lo hi q)) (by rw[List.length_map,sizeLine_eq];omega) rfl (SqL.of aaA) ?_ ?_⟩⟩
 ·intro i v z D H2 E' F' hv hR hD s2 hz hE hF
  subst hR
  rw[List.getElem?_map] at hv
  cases ew:(spl 45 l)[i]? with
  |none=>rw[ew] at hv;cases hv
  |some w0=>
   rw[ew] at hv
   obtain rfl:V.str (Tx w0)=v:=Option.some.inj hv
   have hw:=abB 45 l w0 (List.mem_of_getElem? ew)
   exact⟨_,rfl,_,rfl,_,rfl,w0,lo,hi,rfl,(by omega),fun H3 s3=>hE _ _ s3 (by rw[List.take_succ,ew,List.map_append];rfl)⟩
 intro D H2 z hR hD s2 hz
 subst hR
 rw[List.length_map,List.take_length] at hz
 have hz2:H2 D=some (.lst (((spl 45 l).map (aaO lo hi)).map oV)):=by rw[hz,List.map_map];rfl
 have hlen:((spl 45 l).map (aaO lo hi)).length<=600:=by rw[List.length_map];omega
 have hnn:(spl 45 l).map (aaO lo hi)≠[]:=fun e=>azZ 45 l (List.map_eq_nil_iff.mp e)
 generalize (spl 45 l).map (aaO lo hi)=es at hz2 q hlen hnn
 have s02:Same H H2:=(aaB hps _).trans s2
 have hfl:(es.map oV).all aeB=true:=aw2 es
 refine⟨_,rfl,D,_,rfl,.inl (SqL.of hz2),_,_,rfl,rfl,_,rfl,?_⟩
 match es,hnn with
 |[],h=>exact absurd rfl h
 |[none],_=>
  refine aa7 ⟨_,rfl,D,_,rfl,.inl (SqL.of hz2),rfl,hfl,_,rfl,abZ ?_⟩
  exact q _ _ s02 rfl
 |[some a],_=>
  refine aa7 ⟨_,rfl,D,_,rfl,.inl (SqL.of hz2),rfl,hfl,_,rfl,aa7 ⟨_,rfl,D,_,_,_,rfl,rfl,SqL.of hz2,rfl,_,rfl,_,rfl,D,_,_,_,rfl,rfl,SqL.of hz2,rfl,_,_,rfl,rfl,_,rfl,?_⟩⟩
  rw[decide_eq_false (show ¬a<a by omega)]
  refine aa7 ⟨_,rfl,D,_,_,_,rfl,rfl,SqL.of hz2,rfl,_,rfl,_,rfl,D,_,_,_,rfl,rfl,SqL.of hz2,rfl,(by show 2<=sizeLine;decide),fun p hp=>?_⟩
  exact q _ _ (s02.trans (aaB hp _)) ⟨p,rfl,aaA⟩
 |[none,y],_=>
  refine aa7 ⟨_,rfl,D,_,rfl,.inl (SqL.of hz2),rfl,hfl,_,rfl,abZ ?_⟩
  exact q _ _ s02 rfl
 |[some a,none],_=>
  refine aa7 ⟨_,rfl,D,_,rfl,.inl (SqL.of hz2),rfl,hfl,_,rfl,abZ ?_⟩
  exact q _ _ s02 rfl
 |[some a,some b],_=>
  refine aa7 ⟨_,rfl,D,_,rfl,.inl (SqL.of hz2),rfl,hfl,_,rfl,aa7 ⟨_,rfl,D,_,_,_,rfl,rfl,SqL.of hz2,rfl,_,rfl,_,rfl,D,_,_,_,rfl,rfl,SqL.of hz2,rfl,_,_,rfl,rfl,_,rfl,?_⟩⟩
  refine ifD (fun c2=>?_) (fun c2=>?_)
  ·have e:agD [some a,some b]=none:=by show (if b<a then none else some (a,b))=none;rw[if_pos c2]
   rw[e] at q
   exact q _ _ s02 rfl
  ·have e:agD [some a,some b]=some (a,b):=by show (if b<a then none else some (a,b))=some (a,b);rw[if_neg c2]
   rw[e] at q
   refine⟨_,rfl,D,_,_,_,rfl,rfl,SqL.of hz2,rfl,_,rfl,_,rfl,D,_,_,_,rfl,rfl,SqL.of hz2,rfl,(by show 2<=sizeLine;decide),fun p hp=>?_⟩
   exact q _ _ (s02.trans (aaB hp _)) ⟨p,rfl,aaA⟩
 |x::y::u::r,_=>
  have e3:decide ((2:Int)<(((x::y::u::r).map oV).length:Nat))=true:=decide_eq_true (by rw[List.length_map];show (2:Int)<((r.length+1+1+1:Nat):Int);omega)
  refine ifT e3 ?_
  have e:agD (x::y::u::r)=none:=by cases x<;>cases y<;>rfl
  rw[e] at q
  exact q _ _ s02 rfl
theorem agM:Df P w K mg base "read_strided" 5 ["run_text","stride_text","low","high"] (agT K):=by
 refine ZZ.F_read_strided.dfs sc_read_strided (fun vs H Q E h=>?_) (fun f cdv A outer s H vs Q E hr h=>?_)
 ·obtain⟨r,st,lo,hi,rfl,hr1,hs1,hb,q⟩:=h
  rfl
 obtain⟨r,st,lo,hi,rfl,hr1,hs1,hb,q⟩:=h
 refine⟨_,(ssC (aaK 4 (eD (agF ZZ) hr (aC (v_ 0) (aC (v_ 2) (aC (v_ 3) aN)))) sc_read_strided.nd)
   (ssC (aaK 5 (eD (aa5 ZZ) hr (aC (v_ 1) (aC eI (aC (eGl (v:=.int 99) ZZ.m_MOST_STRIDE ⟨_,rfl⟩) aN)))) sc_read_strided.nd)
   (ssC (sIf (tW (wOr (tCm ahG (v_ 4) eN) (afY (tCm ahG (v_ 5) eN)))) (ss1 (aaH eN)) ssN)
   (ssC (aaK 6 (eIf (tVa (eD (aeE ZZ) hr (aC (v_ 0) aN))) (v_ 3) (eIx xT (v_ 4) eI)) sc_read_strided.nd)
   (ss1 (aaH (eD (af8 ZZ) hr (aC (eIx xT (v_ 4) eI) (aC (v_ 6) (aC (v_ 5) aN)))))))))),?_⟩
 refine⟨_,rfl,_,rfl,_,rfl,r,lo,hi,rfl,(by omega),fun rv H1 s1 hrv=>?_⟩
 refine⟨_,rfl,st,1,99,rfl,(by omega),fun H2 s2=>?_⟩
 cases er:aaN lo hi r with
 |none=>
  rw[er] at hrv
  have hrv:rv=.non:=hrv
  subst hrv
  have e:aaY lo hi r st=none:=by unfold aaY;rw[er]
  rw[e] at q
  exact⟨_,rfl,rfl,_,rfl,abZ (q H2 (s1.trans s2))⟩
 |some ab=>
  obtain⟨a,b⟩:=ab
  rw[er] at hrv
  obtain⟨p,rfl,hp⟩:=hrv
  have bd:=ac0 hb.2.1 er
  refine⟨_,rfl,rfl,_,rfl,ifF rfl ⟨_,rfl,rfl,_,rfl,?_⟩⟩
  cases es:aaO 1 99 st with
  |none=>
   have e:aaY lo hi r st=none:=by unfold aaY;rw[er,es]
   rw[e] at q
   exact ifT rfl (q H2 (s1.trans s2))
  |some sv=>
   have bs:=ahV es
   have hp2:=s2 _ _ hp
   refine ifF rfl ⟨_,rfl,r,rfl,(by omega),fun H3 s3=>⟨_,rfl,?_⟩⟩
   have hp3:=s3 _ _ hp2
   refine if2 (fun c=>?_) (fun c=>?_)
   ·have e:aaY lo hi r st=some (ad1 a hi sv):=by unfold aaY;rw[er,es];show some (ad1 a (if isW r=true then hi else b) sv)=_;rw[if_pos c]
    rw[e] at q
    refine⟨_,rfl,_,rfl,p,_,_,_,rfl,rfl,SqT.of hp3,rfl,_,rfl,_,rfl,a,hi,sv,rfl,⟨by omega,by omega⟩,⟨by omega,by omega⟩,⟨by omega,by omega⟩,fun H4 s4=>?_⟩
    exact q H4 (s1.trans (s2.trans (s3.trans s4)))
   ·have e:aaY lo hi r st=some (ad1 a b sv):=by unfold aaY;rw[er,es];show some (ad1 a (if isW r=true then hi else b) sv)=_;rw[if_neg (by rw[c];exact Bool.false_ne_true)]
    rw[e] at q
    refine⟨_,rfl,p,_,_,_,rfl,rfl,SqT.of hp3,rfl,_,rfl,p,_,_,_,rfl,rfl,SqT.of hp3,rfl,_,rfl,_,rfl,a,b,sv,rfl,⟨by omega,by omega⟩,⟨by omega,by omega⟩,⟨by omega,by omega⟩,fun H4 s4=>?_⟩
    exact q H4 (s1.trans (s2.trans (s3.trans s4)))
theorem afC:Df P w K mg base "read_item" 6 ["item","low","high"] (akU K):=by
 refine ZZ.F_read_item.dfs sc_read_item (fun vs H Q E h=>?_) (fun f cdv A outer s H vs Q E hr h=>?_)
 ·obtain⟨l,lo,hi,rfl,hl,hb,q⟩:=h
  rfl
 obtain⟨l,lo,hi,rfl,hl,hb,q⟩:=h
 refine⟨_,(ssC (aaK 3 (amZ (v_ 0) (eSx [47])) sc_read_item.nd)
   (ssC (sIf (tCm oEq (eCB al3 ZZ.z_len PySem.boot_len (aC (v_ 3) aN)) eI) (ss1 (aaH (eD (agM ZZ) hr (aC (eIx xL (v_ 3) eI) (aC (eIx xL (v_ 3) eI) (aC (v_ 1) (aC (v_ 2) aN))))))) ssN)
   (ssC (aaK 4 (eD (agF ZZ) hr (aC (v_ 0) (aC (v_ 1) (aC (v_ 2) aN)))) sc_read_item.nd)
   (ssC (sIf (tCm ahG (v_ 4) eN) (ss1 (aaH eN)) ssN)
   (ss1 (aaH (eD (af8 ZZ) hr (aC (eIx xT (v_ 4) eI) (aC (eIx xT (v_ 4) eI) (aC eI aN)))))))))),?_⟩
 have hsl:=ae5 47 l
 have hml:=abB 47 l
 refine⟨_,rfl,rfl,l,47,rfl,rfl,(by rw[sizeLine_eq];omega),fun ps hps=>?_⟩
 have s0:=aaB hps (.lst ((spl 47 l).map fun q=>V.str (Tx q)))
 refine⟨_,rfl,ps,_,rfl,.inl (SqL.of aaA),rfl,_,rfl,?_⟩
 have two:(∃r s,spl 47 l=[r,s])∨(∀r s,spl 47 l≠[r,s]):=by
  by_cases z:∃r s,spl 47 l=[r,s]
  ·exact .inl z
  ·exact .inr fun r s e=>z ⟨r,s,e⟩
 rcases two with ⟨r,s,e2⟩ | hno
 ·have e:aaD lo hi l=aaY lo hi r s:=by unfold aaD;rw[e2]
  rw[e] at q
  have h1:=hml r (by rw[e2];simp)
  have h2:=hml s (by rw[e2];simp)
  rw[e2]
  refine ifT rfl ⟨_,rfl,ps,_,_,_,rfl,rfl,SqL.of aaA,rfl,_,rfl,ps,_,_,_,rfl,rfl,SqL.of aaA,rfl,_,rfl,_,rfl,r,s,lo,hi,rfl,(by omega),(by omega),hb,fun H1 s1=>?_⟩
  exact q H1 ((aaB hps _).trans s1)
 ·have hlen:¬(spl 47 l).length=2:=fun e=>by
   match h:spl 47 l,e with
   |[r,s],_=>exact hno r s h
  have e:aaD lo hi l=match aaN lo hi l with | some (a,b)=>some (ad1 a b 1) | none=>none:=by
   unfold aaD
   split
   ·rename_i r s h
    exact absurd h (hno r s)
   ·rfl
  refine ifF (decide_eq_false fun z=>hlen (by have z:=V.int.inj z;rw[List.length_map] at z;omega)) ?_
  refine⟨_,rfl,_,rfl,_,rfl,l,lo,hi,rfl,(by omega),fun rv H1 s1 hrv=>?_⟩
  cases er:aaN lo hi l with
  |none=>
   rw[er] at hrv e
   have hrv:rv=.non:=hrv
   subst hrv
   rw[e] at q
   exact⟨_,rfl,rfl,_,rfl,abZ (q H1 (s0.trans s1))⟩
  |some ab=>
   obtain⟨a,b⟩:=ab
   rw[er] at hrv e
   obtain⟨p,rfl,hp⟩:=hrv
   have bd:=ac0 hb.2.1 er
   have e:aaD lo hi l=some (ad1 a b 1):=e
   rw[e] at q
   refine⟨_,rfl,rfl,_,rfl,ifF rfl ⟨_,rfl,p,_,_,_,rfl,rfl,SqT.of hp,rfl,_,rfl,p,_,_,_,rfl,rfl,SqT.of hp,rfl,a,b,1,rfl,⟨by omega,by omega⟩,⟨by omega,by omega⟩,⟨by decide,by decide⟩,fun H4 s4=>?_⟩⟩
   exact q H4 (s0.trans (s1.trans s4))
theorem aiJ:Df1 P w K mg base "read_field" 7 ["text","low","high"] (ai0 K C_NoField):=by
 refine ZZ.F_read_field.dfs1 sc_read_field (fun vs H Q E h=>?_) (fun f cdv A outer s H vs Q E hr h=>?_)
 ·obtain⟨v,lo,hi,rfl,hb,hv⟩:=h
  rfl
 obtain⟨v,lo,hi,rfl,hb,hv⟩:=h
 refine⟨_,(ssC (sIf (tW (wOr (tNo (tVa (eCB cIs ZZ.z_isinstance PyProof.Rows.boot_isinstance (aC (v_ 0) (aC (eTy ZZ.z_str PyProof.Rows.boot_str) aN))))) (afY (tCm oGt (eCB aqF ZZ.z_len PySem.boot_len (aC (v_ 0) aN)) (eGl (v:=.int 300) ZZ.m_MOST_SIGNS ⟨_,rfl⟩))))) (ss1 (alI af2 ZZ.m_NoField ZZ.xj_NoField (aaQ ZZ) hr (aC eI aN))) ssN)
   (ssC (aaK 3 (amZ (v_ 0) (eSx [44])) sc_read_field.nd)
   (ssC (aaK 4 eI sc_read_field.nd)
   (ssC (al6 (iE ZZ.z_enumerate (eSl slL (v_ 3) poN (poS (eGl (v:=.int 40) ZZ.m_MOST_ITEMS ⟨_,rfl⟩)))) (gTu (gsC (gN 5 sc_read_field.nd) (gsC (gN 6 sc_read_field.nd) gsN))) (ssC (aaK 7 (eD (afC ZZ) hr (aC (v_ 6) (aC (v_ 1) (aC (v_ 2) aN)))) sc_read_field.nd)
   (ssC (sIf (tCm ahG (v_ 7) eN) (ss1 (alI af2 ZZ.m_NoField ZZ.xj_NoField (aaQ ZZ) hr (aC (v_ 5) aN))) ssN)
   (ss1 (aaK 4 (eOp oOr (v_ 4) (v_ 7)) sc_read_field.nd)))) PassesOwn.leaving)
   (ssC (sIf (tCm oGt (eCB al3 ZZ.z_len PySem.boot_len (aC (v_ 3) aN)) (eGl (v:=.int 40) ZZ.m_MOST_ITEMS ⟨_,rfl⟩)) (ss1 (alI af2 ZZ.m_NoField ZZ.xj_NoField (aaQ ZZ) hr (aC (eGl (v:=.int 40) ZZ.m_MOST_ITEMS ⟨_,rfl⟩) aN))) ssN)
   (ss1 (aaH (v_ 4)))))))),?_⟩
 rcases hv with ⟨kd,hk,ns,hE⟩ | ⟨l,rfl,hl,hE,hQ⟩
 ·refine⟨_,rfl,v,.str,kd,rfl,(by decide),hk,_,rfl,?_⟩
  have e:Kd.isa kd .str=false:=by cases kd<;>first | rfl | exact absurd rfl ns
  rw[e]
  exact abZ ⟨(by show 1<=sizeLine;decide),fun e he=>⟨e,_,rfl,aaA,ZZ.xs_NoField,fun dx H' n1 n2 eH=>⟨rfl,dx,(by rw[eH];exact aaA),(by rw[eH];exact hE dx _ (aaV (Same.refl _) he n1 n2).1 (aaV (Same.refl _) he n1 n2).2)⟩⟩⟩
 have hml:=abB 44 l
 refine⟨_,rfl,_,.str,.str,rfl,(by decide),rfl,_,rfl,ifF rfl ⟨_,rfl,l,rfl,(by rw[sizeLine_eq];omega),_,_,rfl,rfl,_,rfl,?_⟩⟩
 by_cases c3:300<l.length
 ·rw[decide_eq_true (show (300:Int)<((l.length:Nat):Int) by omega)]
  exact abZ ⟨(by show 1<=sizeLine;decide),fun e he=>⟨e,_,rfl,aaA,ZZ.xs_NoField,fun dx H' n1 n2 eH=>⟨rfl,dx,(by rw[eH];exact aaA),(by rw[eH];exact hE 0 (by unfold aa1;rw[if_pos c3]) dx _ (aaV (Same.refl _) he n1 n2).1 (aaV (Same.refl _) he n1 n2).2)⟩⟩⟩
 rw[decide_eq_false (show ¬(300:Int)<((l.length:Nat):Int) by omega)]
 refine aa7 ⟨_,rfl,rfl,l,44,rfl,rfl,(by rw[sizeLine_eq];omega),fun ps hps=>?_⟩
 have s0:=aaB hps (.lst ((spl 44 l).map fun q=>V.str (Tx q)))
 refine⟨_,rfl,_,rfl,ps,_,rfl,SqL.of aaA,fun pc hpc=>?_⟩
 have ecut:aiQ ((spl 44 l).map fun q=>V.str (Tx q)) none (some 40)=((spl 44 l).take 40).map fun q=>V.str (Tx q):=by rw[aqU,List.map_take]
 rw[ecut]
 have s1:=aaB hpc (.lst (((spl 44 l).take 40).map fun q=>V.str (Tx q)))
 refine⟨pc,rfl,⟨_,SqL.of aaA⟩,amJ (K:=K) (a:=pc) (xs:=((spl 44 l).take 40).map fun q=>V.str (Tx q)) (fun i σ H2=>∃(u1 u2 u3:Option V),σ=[some (.str (Tx l)),some (.int lo),some (.int hi),some (.ref ps),some (.int (orM ((abP lo hi l).take i))),u1,u2,u3]/\Same (upd (upd H ps (.lst ((spl 44 l).map fun q=>V.str (Tx q)))) pc (.lst (((spl 44 l).take 40).map fun q=>V.str (Tx q)))) H2/\∀w∈((spl 44 l).take 40).take i,(aaD lo hi w).isNone=false) ⟨_,_,_,rfl,Same.refl _,fun w hw=>(nomatch hw)⟩ (fun i σ H2 _ ⟨_,_,_,_,s2,_⟩=>SqL.of (s2 _ _ aaA)) ?_ ?_⟩
 ·rintro i x σ H2 T hx ⟨u1,u2,u3,rfl,s2,hg⟩ hT
  rw[List.getElem?_map] at hx
  cases ew:((spl 44 l).take 40)[i]? with
  |none=>rw[ew] at hx;cases hx
  |some w0=>
   rw[ew] at hx
   obtain rfl:V.str (Tx w0)=x:=Option.some.inj hx
   have hw:=hml w0 (List.mem_of_mem_take (List.mem_of_getElem? ew))
   refine⟨T,_,rfl,SqT.of aaA,rfl,_,_,rfl,_,_,rfl,rfl,?_⟩
   refine⟨_,rfl,_,rfl,_,rfl,w0,lo,hi,rfl,(by omega),hb,fun H3 s3=>?_⟩
   have sA:Same H H3:=s0.trans (s1.trans (s2.trans ((aaB hT _).trans s3)))
   cases em:aaD lo hi w0 with
   |none=>
    have hat:aa1 lo hi l=some i:=aoZ c3 ew (by rw[em];rfl) hg
    refine⟨_,rfl,rfl,_,rfl,?_⟩
    show if decide (V.non=V.non)=true then _ else _
    rw[decide_eq_true rfl]
    exact abZ ⟨_,rfl,(by show 1<=sizeLine;decide),fun e he=>⟨e,_,rfl,aaA,ZZ.xs_NoField,fun dx H' n1 n2 eH=>⟨rfl,dx,(by rw[eH];exact aaA),(by rw[eH];exact hE i hat dx _ (aaV sA he n1 n2).1 (aaV sA he n1 n2).2)⟩⟩⟩
   |some m=>
    refine⟨_,rfl,rfl,_,rfl,ifF rfl ⟨_,rfl,_,rfl,_,_,rfl,rfl,?_⟩⟩
    have ew':(spl 44 l)[i]? =some w0:=by rw[List.getElem?_take] at ew;split at ew<;>first | exact ew | cases ew
    have et:orM ((abP lo hi l).take (i+1))=Builtin.bitOr (orM ((abP lo hi l).take i)) m:=by
     rw[←al2,List.take_succ]
     unfold abP
     rw[List.getElem?_map,ew']
     show orM (_++[(aaD lo hi w0).getD 0])=_
     rw[em]
     rfl
    refine⟨_,_,_,by rw[et];rfl,s2.trans ((aaB hT _).trans s3),fun w hw=>?_⟩
    rw[List.take_succ,ew] at hw
    rcases List.mem_append.mp hw with z | z
    ·exact hg w z
    ·rw[show w=w0 by simpa using z,em]
     rfl
 ·rintro σ H2 ⟨u1,u2,u3,rfl,s2,hg⟩
  rw[List.length_map,List.take_of_length_le (Nat.le_refl _)] at hg
  have sA:Same H H2:=s0.trans (s1.trans s2)
  refine⟨_,rfl,ps,_,rfl,.inl (SqL.of (s2 _ _ (s1 _ _ aaA))),_,_,rfl,rfl,_,rfl,?_⟩
  have eL:((spl 44 l).map fun q=>V.str (Tx q)).length=(spl 44 l).length:=List.length_map _
  rw[eL]
  by_cases c4:40<(spl 44 l).length
  ·rw[decide_eq_true (show (40:Int)<(((spl 44 l).length:Nat):Int) by omega)]
   have hat:aa1 lo hi l=some 40:=apT c3 c4 hg
   exact abZ ⟨(by show 1<=sizeLine;decide),fun e he=>⟨e,_,rfl,aaA,ZZ.xs_NoField,fun dx H' n1 n2 eH=>⟨rfl,dx,(by rw[eH];exact aaA),(by rw[eH];exact hE 40 hat dx _ (aaV sA he n1 n2).1 (aaV sA he n1 n2).2)⟩⟩⟩
  ·rw[decide_eq_false (show ¬(40:Int)<(((spl 44 l).length:Nat):Int) by omega)]
   refine aa7 ⟨_,rfl,?_⟩
   have e1:(((spl 44 l).take 40).map fun q=>V.str (Tx q)).length=(abP lo hi l).length:=by unfold abP;rw[List.length_map,List.length_map,List.take_of_length_le (by omega)]
   rw[e1,List.take_length]
   exact hQ (alX c3 c4 hg) H2 sA
theorem ad4:DfM P w K mg base C_Numbers "__init__" 1 ["self","mask"] (ad5 K C_Numbers):=by
 refine ZZ.F_Numbers___init__.dfs ad0 (fun vs H Q E h=>?_) (fun f cdv A outer s H vs Q E hr h=>?_)
 ·obtain⟨p,dx,m,rfl,hp,q⟩:=h
  rfl
 obtain⟨p,dx,m,rfl,hp,q⟩:=h
 refine⟨_,(ss1 (sFl (v_ 0) (v_ 1))),?_⟩
 exact⟨_,rfl,_,rfl,p,C_Numbers,dx,[],rfl,hp,ZZ.c_Numbers.cl,ZZ.n_Numbers_mask,(by show 0<1000;decide),q⟩
theorem acK:DfMD P w K mg base C_Last "__init__" 1 ["self","back"] (afU K C_Last) [.int 0]:=by
 refine ZZ.F_Last___init__.dfs afX (fun vs H Q E h=>?_) (fun f cdv A outer s H vs Q E hr h=>?_)
 ·obtain⟨p,dx,m,rfl,hp,q⟩:=h
  rfl
 obtain⟨p,dx,m,rfl,hp,q⟩:=h
 refine⟨_,(ss1 (sFl (v_ 0) (v_ 1))),?_⟩
 exact⟨_,rfl,_,rfl,p,C_Last,dx,[],rfl,hp,ZZ.c_Last.cl,ZZ.n_Last_back,(by show 0<1000;decide),q⟩
theorem afO:DfM P w K mg base C_Near "__init__" 1 ["self","day"] (afG K C_Near):=by
 refine ZZ.F_Near___init__.dfs afI (fun vs H Q E h=>?_) (fun f cdv A outer s H vs Q E hr h=>?_)
 ·obtain⟨p,dx,m,rfl,hp,q⟩:=h
  rfl
 obtain⟨p,dx,m,rfl,hp,q⟩:=h
 refine⟨_,(ss1 (sFl (v_ 0) (v_ 1))),?_⟩
 exact⟨_,rfl,_,rfl,p,C_Near,dx,[],rfl,hp,ZZ.c_Near.cl,ZZ.n_Near_day,(by show 0<1000;decide),q⟩
theorem adQ:DfM P w K mg base C_Weekdays "__init__" 1 ["self","mask"] (adM K C_Weekdays):=by
 refine ZZ.F_Weekdays___init__.dfs adP (fun vs H Q E h=>?_) (fun f cdv A outer s H vs Q E hr h=>?_)
 ·obtain⟨p,dx,m,rfl,hp,q⟩:=h
  rfl
 obtain⟨p,dx,m,rfl,hp,q⟩:=h
 refine⟨_,(ss1 (sFl (v_ 0) (v_ 1))),?_⟩
 exact⟨_,rfl,_,rfl,p,C_Weekdays,dx,[],rfl,hp,ZZ.c_Weekdays.cl,ZZ.n_Weekdays_mask,(by show 0<1000;decide),q⟩
theorem agK:DfM P w K mg base C_Nth "__init__" 1 ["self","weekday","many"] (agN K C_Nth):=by
 refine ZZ.F_Nth___init__.dfs agS (fun vs H Q E h=>?_) (fun f cdv A outer s H vs Q E hr h=>?_)
 ·obtain⟨p,dx,wd,m,rfl,hp,q⟩:=h
  rfl
 obtain⟨p,dx,wd,m,rfl,hp,q⟩:=h
 refine⟨_,(ssC (sFl (v_ 0) (v_ 1))
   (ss1 (sFl (v_ 0) (v_ 2)))),?_⟩
 exact⟨_,rfl,_,rfl,p,C_Nth,dx,[],rfl,hp,ZZ.c_Nth.cl,ZZ.n_Nth_weekday,(by show 0<1000;decide),_,rfl,_,rfl,p,C_Nth,dx,_,rfl,aaA,ZZ.c_Nth.cl,ZZ.n_Nth_many,(by show 1<1000;decide),q⟩
theorem adY:DfM P w K mg base C_LastOne "__init__" 1 ["self","weekday"] (adZ K C_LastOne):=by
 refine ZZ.F_LastOne___init__.dfs adX (fun vs H Q E h=>?_) (fun f cdv A outer s H vs Q E hr h=>?_)
 ·obtain⟨p,dx,m,rfl,hp,q⟩:=h
  rfl
 obtain⟨p,dx,m,rfl,hp,q⟩:=h
 refine⟨_,(ss1 (sFl (v_ 0) (v_ 1))),?_⟩
 exact⟨_,rfl,_,rfl,p,C_LastOne,dx,[],rfl,hp,ZZ.c_LastOne.cl,ZZ.n_LastOne_weekday,(by show 0<1000;decide),q⟩
theorem afR:Df P w K mg base "read_day_mark" 4 ["item"] (afH K C_Numbers C_Last C_Near C_LastWork C_Weekdays C_Nth C_LastOne C_Mark):=by
 refine ZZ.F_read_day_mark.dfs sc_read_day_mark (fun vs H Q E h=>?_) (fun f cdv A outer s H vs Q E hr h=>?_)
 ·obtain⟨t,rfl,hl,q⟩:=h
  rfl
 obtain⟨t,rfl,hl,q⟩:=h
 refine⟨_,(ssC (sIf (tCm oEq (v_ 0) (eSx [76])) (ss1 (aaH (eMkD ZZ.c_Last (acK ZZ) hr))) ssN)
   (ssC (sIf (tCm oEq (v_ 0) (eSx [76,87])) (ss1 (aaH (eMkN ZZ.c_LastWork ZZ.i_LastWork))) ssN)
   (ssC (sIf (tVa (eSwN (v_ 0) (eSx [76,45]))) (ssC (aaK 1 (eD (aa5 ZZ) hr (aC (eSl slX (v_ 0) (poS eI) poN) (aC eI (aC (eGl (v:=.int 30) ZZ.m_MOST_BACK ⟨_,rfl⟩) aN)))) sc_read_day_mark.nd)
   (ss1 (aaH (eIf (tCm ahG (v_ 1) eN) eN (eMk ZZ.c_Last (acK ZZ).dfm hr (aC (v_ 1) aN)))))) ssN)
   (ssC (sIf (tVa (eEw (v_ 0) (eSx [87]))) (ssC (aaK 2 (eD (aa5 ZZ) hr (aC (eSl slX (v_ 0) poN (poS (eUn at7 eI))) (aC eI (aC (eGl (v:=.int 31) ZZ.m_MOST_DAY ⟨_,rfl⟩) aN)))) sc_read_day_mark.nd)
   (ss1 (aaH (eIf (tCm ahG (v_ 2) eN) eN (eMk ZZ.c_Near (afO ZZ) hr (aC (v_ 2) aN)))))) ssN)
   (ss1 (aaH eN)))))),?_⟩
 have hz:t.length<=sizeLine:=by rw[sizeLine_eq];omega
 have hc1:=ae4 t (some 2) none
 have hc2:=ae4 t none (some (-1))
 refine⟨_,rfl,rfl,_,rfl,ifX (fun c=>?a0) (fun c1=>⟨_,rfl,rfl,_,rfl,ifX (fun c=>?a1) (fun c2=>⟨_,rfl,rfl,t,[76,45],rfl,rfl,_,rfl,ifD (fun c=>?a2) (fun c3=>⟨_,rfl,rfl,t,87,rfl,rfl,_,rfl,ifD (fun c=>?a3) (fun c4=>?a4)⟩)⟩)⟩)⟩
 case a0=>
  have e:ab8 t=some (.lst 0):=by unfold ab8;rw[if_pos c]
  rw[e] at q
  exact fun xo dx nx ndx nex=>⟨xo,dx,0,rfl,aaA,rfl,q _ _ (ab1 nx ndx) ⟨xo,rfl,dx,aaA⟩⟩
 case a1=>
  have e:ab8 t=some .wrk:=by unfold ab8;rw[if_neg c1,if_pos c]
  rw[e] at q
  exact fun xo dx nx ndx nex=>q _ _ (ahO nx ndx) ⟨xo,rfl,dx,aaA⟩
 case a2=>
  have e:ab8 t=(aaO 1 30 (acM t (some 2) none)).map Mk.lst:=by unfold ab8;rw[if_neg c1,if_neg c2,if_pos c]
  rw[e] at q
  refine⟨_,rfl,_,rfl,t,rfl,hz,_,1,30,rfl,(by omega),fun H1 s1=>?_⟩
  cases en:aaO 1 30 (acM t (some 2) none) with
  |none=>
   rw[en] at q
   exact⟨_,rfl,rfl,_,rfl,ifT rfl (q _ _ s1 rfl)⟩
  |some b=>
   rw[en] at q
   exact⟨_,rfl,rfl,_,rfl,ifF rfl ⟨_,rfl,fun xo dx nx ndx nex=>⟨xo,dx,_,rfl,aaA,rfl,q _ _ (s1.trans (ab1 nx ndx)) ⟨xo,rfl,dx,aaA⟩⟩⟩⟩
 case a3=>
  have e:ab8 t=(aaO 1 31 (acM t none (some (-1)))).map Mk.nea:=by unfold ab8;rw[if_neg c1,if_neg c2,if_neg c3,if_pos c]
  rw[e] at q
  refine⟨_,rfl,_,rfl,_,rfl,t,rfl,hz,_,1,31,rfl,(by omega),fun H1 s1=>?_⟩
  cases en:aaO 1 31 (acM t none (some (-1))) with
  |none=>
   rw[en] at q
   exact⟨_,rfl,rfl,_,rfl,ifT rfl (q _ _ s1 rfl)⟩
  |some b=>
   rw[en] at q
   exact⟨_,rfl,rfl,_,rfl,ifF rfl ⟨_,rfl,fun xo dx nx ndx nex=>⟨xo,dx,_,rfl,aaA,rfl,q _ _ (s1.trans (ab1 nx ndx)) ⟨xo,rfl,dx,aaA⟩⟩⟩⟩
 case a4=>
  have e:ab8 t=none:=by unfold ab8;rw[if_neg c1,if_neg c2,if_neg c3,if_neg c4]
  rw[e] at q
  exact q _ _ (Same.refl H) rfl
theorem ac5:Df P w K mg base "read_weekday" 4 ["text"] (agO K):=by
 refine ZZ.F_read_weekday.dfs sc_read_weekday (fun vs H Q E h=>?_) (fun f cdv A outer s H vs Q E hr h=>?_)
 ·obtain⟨t,rfl,hl,q⟩:=h
  rfl
 obtain⟨t,rfl,hl,q⟩:=h
 refine⟨_,(ssC (aaK 1 (eD (aa5 ZZ) hr (aC (v_ 0) (aC eI (aC (eGl (v:=.int 7) ZZ.m_SUNDAY_TOO ⟨_,rfl⟩) aN)))) sc_read_weekday.nd)
   (ss1 (aaH (eIf (tCm oEq (v_ 1) (eGl (v:=.int 7) ZZ.m_SUNDAY_TOO ⟨_,rfl⟩)) (eGl (v:=.int 0) ZZ.m_SUNDAY ⟨_,rfl⟩) (v_ 1))))),?_⟩
 refine⟨_,rfl,t,0,7,rfl,(by omega),fun H1 s1=>?_⟩
 cases en:aaO 0 7 t with
 |none=>
  have e:wdN t=none:=by unfold wdN;rw[en];rfl
  rw[e] at q
  exact⟨_,rfl,rfl,_,rfl,ifF (decide_eq_false fun z=>nomatch z) ⟨_,rfl,q _ s1⟩⟩
 |some n=>
  have e:wdN t=some (if n=7 then 0 else n):=by unfold wdN;rw[en];rfl
  rw[e] at q
  refine⟨_,rfl,rfl,_,rfl,ifI (fun c=>?_) (fun c=>⟨_,rfl,?_⟩)⟩
  ·rw[if_pos c] at q
   exact q _ s1
  ·rw[if_neg c] at q
   exact q _ s1
theorem adR:Df P w K mg base "read_weekday_mark" 5 ["item"] (ac8 K C_Numbers C_Last C_Near C_LastWork C_Weekdays C_Nth C_LastOne C_Mark):=by
 refine ZZ.F_read_weekday_mark.dfs sc_read_weekday_mark (fun vs H Q E h=>?_) (fun f cdv A outer s H vs Q E hr h=>?_)
 ·obtain⟨t,rfl,hl,q⟩:=h
  rfl
 obtain⟨t,rfl,hl,q⟩:=h
 refine⟨_,(ssC (sIf (tVa (eEw (v_ 0) (eSx [76]))) (ssC (aaK 1 (eD (ac5 ZZ) hr (aC (eSl slX (v_ 0) poN (poS (eUn at7 eI))) aN)) sc_read_weekday_mark.nd)
   (ss1 (aaH (eIf (tCm ahG (v_ 1) eN) eN (eMk ZZ.c_LastOne (adY ZZ) hr (aC (v_ 1) aN)))))) ssN)
   (ssC (aaK 2 (amZ (v_ 0) (eSx [35])) sc_read_weekday_mark.nd)
   (ssC (sIf (tCm oNe (eCB al3 ZZ.z_len PySem.boot_len (aC (v_ 2) aN)) eI) (ss1 (aaH eN)) ssN)
   (ssC (aaK 1 (eD (ac5 ZZ) hr (aC (eIx xL (v_ 2) eI) aN)) sc_read_weekday_mark.nd)
   (ssC (aaK 3 (eD (aa5 ZZ) hr (aC (eIx xL (v_ 2) eI) (aC eI (aC (eGl (v:=.int 5) ZZ.m_MOST_NTH ⟨_,rfl⟩) aN)))) sc_read_weekday_mark.nd)
   (ssC (sIf (tW (wOr (tCm ahG (v_ 1) eN) (afY (tCm ahG (v_ 3) eN)))) (ss1 (aaH eN)) ssN)
   (ss1 (aaH (eMk ZZ.c_Nth (agK ZZ) hr (aC (v_ 1) (aC (v_ 3) aN))))))))))),?_⟩
 have hz:t.length<=sizeLine:=by rw[sizeLine_eq];omega
 have hc2:=ae4 t none (some (-1))
 have hsl:=ae5 35 t
 have hml:=abB 35 t
 refine⟨_,rfl,rfl,t,76,rfl,rfl,_,rfl,ifD (fun c=>?a0) (fun c1=>?a1)⟩
 case a0=>
  have e:ah4 t=(wdN (acM t none (some (-1)))).map Mk.one:=by unfold ah4;rw[if_pos c]
  rw[e] at q
  refine⟨_,rfl,_,rfl,_,rfl,t,rfl,hz,_,rfl,(by omega),fun H1 s1=>?_⟩
  cases en:wdN (acM t none (some (-1))) with
  |none=>
   rw[en] at q
   exact⟨_,rfl,rfl,_,rfl,ifT rfl (q _ _ s1 rfl)⟩
  |some b=>
   rw[en] at q
   exact⟨_,rfl,rfl,_,rfl,ifF rfl ⟨_,rfl,fun xo dx nx ndx nex=>⟨xo,dx,_,rfl,aaA,rfl,q _ _ (s1.trans (ab1 nx ndx)) ⟨xo,rfl,dx,aaA⟩⟩⟩⟩
 case a1=>
  refine⟨_,rfl,rfl,t,35,rfl,rfl,(by rw[sizeLine_eq];omega),fun ps hps=>?_⟩
  have s0:=aaB hps (.lst ((spl 35 t).map fun q=>V.str (Tx q)))
  refine⟨_,rfl,ps,_,rfl,.inl (SqL.of aaA),rfl,_,rfl,?_⟩
  have two:(∃a b,spl 35 t=[a,b])∨(∀a b,spl 35 t≠[a,b]):=by
   by_cases z:∃a b,spl 35 t=[a,b]
   ·exact .inl z
   ·exact .inr fun r s e=>z ⟨r,s,e⟩
  rcases two with ⟨a,b,e2⟩ | hno
  ·have e:ah4 t=ax1 (wdN a) (aaO 1 5 b):=by unfold ah4;rw[if_neg c1,e2]
   rw[e] at q
   have h1:=hml a (by rw[e2];simp)
   have h2:=hml b (by rw[e2];simp)
   rw[e2]
   refine ifF rfl ⟨_,rfl,ps,_,_,_,rfl,rfl,SqL.of aaA,rfl,a,rfl,(by omega),fun H1 s1=>?_⟩
   refine⟨_,rfl,ps,_,_,_,rfl,rfl,SqL.of (s1 _ _ aaA),rfl,b,1,5,rfl,(by omega),fun H2 s2=>?_⟩
   rw[e2] at s0
   cases ew:wdN a with
   |none=>
    rw[ew] at q
    exact⟨_,rfl,rfl,_,rfl,ifT rfl (q _ _ (s0.trans (s1.trans s2)) rfl)⟩
   |some wd=>
    rw[ew] at q
    refine⟨_,rfl,rfl,_,rfl,ifF rfl ⟨_,rfl,rfl,_,rfl,?_⟩⟩
    cases en:aaO 1 5 b with
    |none=>
     rw[en] at q
     exact ifT rfl (q _ _ (s0.trans (s1.trans s2)) rfl)
    |some m=>
     rw[en] at q
     exact ifF rfl ⟨_,rfl,_,rfl,fun xo dx nx ndx nex=>⟨xo,dx,_,_,rfl,aaA,rfl,q _ _ (s0.trans (s1.trans (s2.trans (apY nx ndx)))) ⟨xo,rfl,dx,aaA⟩⟩⟩
  ·have hlen:¬(spl 35 t).length=2:=fun e=>by
    match h:spl 35 t,e with
    |[r,s],_=>exact hno r s h
   have e:ah4 t=none:=by
    unfold ah4
    rw[if_neg c1]
    split
    ·rename_i a b h
     exact absurd h (hno a b)
    ·rfl
   rw[e] at q
   refine ifT ?_ (q _ _ s0 rfl)
   rw[decide_eq_false fun z=>hlen (by have z:=V.int.inj z;rw[List.length_map] at z;omega)]
   rfl
theorem aeA:Df1 P w K mg base "read_items" 7 ["text","low","high","read_mark"] (aiR K C_Numbers C_Last C_Near C_LastWork C_Weekdays C_Nth C_LastOne C_Mark C_NoField C_read_day_mark C_read_weekday_mark):=by
 refine ZZ.F_read_items.dfs1 sc_read_items (fun vs H Q E h=>?_) (fun f cdv A outer s H vs Q E hr h=>?_)
 ·obtain⟨v,lo,hi,wk,rfl,hb,hv⟩:=h
  rfl
 obtain⟨v,lo,hi,wk,rfl,hb,hv⟩:=h
 refine⟨_,(ssC (sIf (tW (wOr (tNo (tVa (eCB cIs ZZ.z_isinstance PyProof.Rows.boot_isinstance (aC (v_ 0) (aC (eTy ZZ.z_str PyProof.Rows.boot_str) aN))))) (afY (tCm oGt (eCB aqF ZZ.z_len PySem.boot_len (aC (v_ 0) aN)) (eGl (v:=.int 300) ZZ.m_MOST_SIGNS ⟨_,rfl⟩))))) (ss1 (alI af2 ZZ.m_NoField ZZ.xj_NoField (aaQ ZZ) hr (aC eI aN))) ssN)
   (ssC (aaK 4 (amZ (v_ 0) (eSx [44])) sc_read_items.nd)
   (ssC (aaK 5 eI sc_read_items.nd)
   (ssC (aaK 6 (abC aN) sc_read_items.nd)
   (ssC (al6 (iE ZZ.z_enumerate (eSl slL (v_ 4) poN (poS (eGl (v:=.int 40) ZZ.m_MOST_ITEMS ⟨_,rfl⟩)))) (gTu (gsC (gN 7 sc_read_items.nd) (gsC (gN 8 sc_read_items.nd) gsN))) (ssC (aaK 9 (eD (afC ZZ) hr (aC (v_ 8) (aC (v_ 1) (aC (v_ 2) aN)))) sc_read_items.nd)
   (ss1 (sIf (tCm ahG (v_ 9) eN) (ssC (aaK 10 (eOr2 (eDV ((afR ZZ).at_ ZZ.m_read_day_mark) hr (v_ 3) (aC (v_ 8) aN)) (eDV ((adR ZZ).at_ ZZ.m_read_weekday_mark) hr (v_ 3) (aC (v_ 8) aN))) sc_read_items.nd)
   (ssC (sIf (tW (wOr (tCm ahG (v_ 10) eN) (afY (tCm oEq (eCB al3 ZZ.z_len PySem.boot_len (aC (v_ 6) aN)) (eGl (v:=.int 20) ZZ.m_MOST_MARKS ⟨_,rfl⟩))))) (ss1 (alI af2 ZZ.m_NoField ZZ.xj_NoField (aaQ ZZ) hr (aC (v_ 7) aN))) ssN)
   (ss1 (ao8 (apG (v_ 6) (v_ 10)))))) (ss1 (aaK 5 (eOp oOr (v_ 5) (v_ 9)) sc_read_items.nd))))) PassesOwn.leaving)
   (ssC (sIf (tCm oGt (eCB al3 ZZ.z_len PySem.boot_len (aC (v_ 4) aN)) (eGl (v:=.int 40) ZZ.m_MOST_ITEMS ⟨_,rfl⟩)) (ss1 (alI af2 ZZ.m_NoField ZZ.xj_NoField (aaQ ZZ) hr (aC (eGl (v:=.int 40) ZZ.m_MOST_ITEMS ⟨_,rfl⟩) aN))) ssN)
   (ss1 (aaH (aa9 (aC (v_ 5) (aC (v_ 6) aN))))))))))),?_⟩
 rcases hv with ⟨kd,hk,ns,hE⟩ | ⟨l,rfl,hl,hE,hQ⟩
 ·refine⟨_,rfl,v,.str,kd,rfl,(by decide),hk,_,rfl,?_⟩
  have e:Kd.isa kd .str=false:=by cases kd<;>first | rfl | exact absurd rfl ns
  rw[e]
  exact abZ ⟨(by show 1<=sizeLine;decide),fun e he=>⟨e,_,rfl,aaA,ZZ.xs_NoField,fun dx H' n1 n2 eH=>⟨rfl,dx,(by rw[eH];exact aaA),(by rw[eH];exact hE dx _ (aaV (Same.refl _) he n1 n2).1 (aaV (Same.refl _) he n1 n2).2)⟩⟩⟩
 have hml:=abB 44 l
 refine⟨_,rfl,_,.str,.str,rfl,(by decide),rfl,_,rfl,ifF rfl ⟨_,rfl,l,rfl,(by rw[sizeLine_eq];omega),_,_,rfl,rfl,_,rfl,?_⟩⟩
 by_cases c3:300<l.length
 ·rw[decide_eq_true (show (300:Int)<((l.length:Nat):Int) by omega)]
  exact abZ ⟨(by show 1<=sizeLine;decide),fun e he=>⟨e,_,rfl,aaA,ZZ.xs_NoField,fun dx H' n1 n2 eH=>⟨rfl,dx,(by rw[eH];exact aaA),(by rw[eH];exact hE 0 (aGH c3) dx _ (aaV (Same.refl _) he n1 n2).1 (aaV (Same.refl _) he n1 n2).2)⟩⟩⟩
 rw[decide_eq_false (show ¬(300:Int)<((l.length:Nat):Int) by omega)]
 refine aa7 ⟨_,rfl,rfl,l,44,rfl,rfl,(by rw[sizeLine_eq];omega),fun ps hps=>?_⟩
 have s0:=aaB hps (.lst ((spl 44 l).map fun q=>V.str (Tx q)))
 refine⟨(by show 0<=sizeLine;decide),fun mk hmk=>?_⟩
 have s1:=aaB hmk (.lst [])
 refine⟨_,rfl,_,rfl,ps,_,rfl,SqL.of (s1 _ _ aaA),fun pc hpc=>?_⟩
 have ecut:aiQ ((spl 44 l).map fun q=>V.str (Tx q)) none (some 40)=((spl 44 l).take 40).map fun q=>V.str (Tx q):=by rw[aqU,List.map_take]
 rw[ecut]
 have hne:pc≠mk:=fun e=>by
  rw[e,aaA] at hpc
  cases hpc
 have s1b:=aaB hpc (.lst (((spl 44 l).take 40).map fun q=>V.str (Tx q)))
 refine⟨pc,rfl,⟨_,SqL.of aaA⟩,amJ (K:=K) (a:=pc) (xs:=((spl 44 l).take 40).map fun q=>V.str (Tx q)) (fun i σ H2=>∃(u1 u2 u3 u4:Option V) (M:Int) (qs:List Addr),σ=[some (.str (Tx l)),some (.int lo),some (.int hi),some (.ref (if wk=true then C_read_weekday_mark else C_read_day_mark)),some (.ref ps),some (.int M),some (.ref mk),u1,u2,u3,u4]/\Same (upd H ps (.lst ((spl 44 l).map fun q=>V.str (Tx q)))) H2/\H2 pc=some (.lst (((spl 44 l).take 40).map fun q=>V.str (Tx q)))/\H2 mk=some (.lst (qs.map V.ref))/\qs.length<=20/\scan wk lo hi ((spl 44 l).take 40) 0 0=scan wk lo hi (((spl 44 l).take 40).drop i) i qs.length) ⟨_,_,_,_,_,[],rfl,s1.trans s1b,aaA,s1b _ _ aaA,Nat.zero_le _,rfl⟩ (fun i σ H2 _ ⟨_,_,_,_,_,_,_,_,h,_⟩=>SqL.of h) ?turn ?done⟩
 case turn=>
  rintro i x σ H2 T hx ⟨u1,u2,u3,u4,M,qs,rfl,s2,h2c,h2m,hq,hsc⟩ hT
  rw[List.getElem?_map] at hx
  cases ew:((spl 44 l).take 40)[i]? with
  |none=>rw[ew] at hx;cases hx
  |some w0=>
   rw[ew] at hx
   obtain rfl:V.str (Tx w0)=x:=Option.some.inj hx
   have hw:=hml w0 (List.mem_of_mem_take (List.mem_of_getElem? ew))
   have edr:=anP ew
   refine⟨T,_,rfl,SqT.of aaA,rfl,_,_,rfl,_,_,rfl,rfl,?_⟩
   refine⟨_,rfl,_,rfl,_,rfl,w0,lo,hi,rfl,(by omega),hb,fun H3 s3=>?_⟩
   cases em:aaD lo hi w0 with
   |some m=>
    have s23:=(aaB hT _).trans s3
    refine⟨_,rfl,rfl,_,rfl,ifF rfl ⟨_,rfl,_,rfl,_,_,rfl,rfl,?_⟩⟩
    exact⟨_,_,_,_,_,qs,rfl,s2.trans s23,s23 _ _ h2c,s23 _ _ h2m,hq,by rw[hsc,edr];exact aj0 em⟩
   |none=>
    cases wk with
    |false=>
     refine⟨_,rfl,rfl,_,rfl,ifT rfl ?_⟩
     refine .inl ⟨_,rfl,rfl,_,rfl,w0,rfl,(by omega),fun v H4 s4 hv=>?_⟩
     have s24:=(aaB hT _).trans (s3.trans s4)
     have sA:Same H H4:=s0.trans (s2.trans s24)
     cases ek:ab8 w0 with
     |none=>
      rw[ek] at hv
      obtain rfl:v=.non:=hv
      have hat:abD false lo hi l=some i:=aj7 c3 (hsc.trans (by rw[edr];exact ajX em ek))
      exact⟨_,rfl,rfl,_,rfl,ifT rfl ⟨_,rfl,(by show 1<=sizeLine;decide),fun e he=>⟨e,_,rfl,aaA,ZZ.xs_NoField,fun dx H' n1 n2 eH=>⟨rfl,dx,(by rw[eH];exact aaA),(by rw[eH];exact hE i hat dx _ (aaV sA he n1 n2).1 (aaV sA he n1 n2).2)⟩⟩⟩⟩
     |some k=>
      rw[ek] at hv
      obtain⟨x,rfl,hx⟩:=hv
      refine⟨_,rfl,rfl,_,rfl,ifF rfl ⟨_,rfl,mk,_,rfl,.inl (SqL.of (s24 _ _ h2m)),rfl,_,rfl,?_⟩⟩
      refine ifI (fun c=>?_) (fun c=>?_)
      ·rw[List.length_map] at c
       have hat:abD false lo hi l=some i:=aj7 c3 (hsc.trans (by rw[edr];exact akY em ek (by omega)))
       exact⟨_,rfl,(by show 1<=sizeLine;decide),fun e he=>⟨e,_,rfl,aaA,ZZ.xs_NoField,fun dx H' n1 n2 eH=>⟨rfl,dx,(by rw[eH];exact aaA),(by rw[eH];exact hE i hat dx _ (aaV sA he n1 n2).1 (aaV sA he n1 n2).2)⟩⟩⟩
      rw[List.length_map] at c
      refine⟨_,rfl,.inl ⟨rfl,_,SqL.of (s24 _ _ h2m)⟩,_,rfl,mk,_,_,rfl,rfl,s24 _ _ h2m,(by rw[List.length_map,sizeLine_eq];omega),?_⟩
      exact⟨_,_,_,_,M,qs++[x],rfl,abH hmk (s2.trans s24),by rw[aaE hne];exact s24 _ _ h2c,by rw[List.map_append];exact aaA,by rw[List.length_append,List.length_singleton];omega,by rw[hsc,edr,List.length_append];exact agY em ek (by omega)⟩
    |true=>
     refine⟨_,rfl,rfl,_,rfl,ifT rfl ?_⟩
     refine .inr ⟨_,rfl,rfl,_,rfl,w0,rfl,(by omega),fun v H4 s4 hv=>?_⟩
     have s24:=(aaB hT _).trans (s3.trans s4)
     have sA:Same H H4:=s0.trans (s2.trans s24)
     cases ek:ah4 w0 with
     |none=>
      rw[ek] at hv
      obtain rfl:v=.non:=hv
      have hat:abD true lo hi l=some i:=aj7 c3 (hsc.trans (by rw[edr];exact ajX em ek))
      exact⟨_,rfl,rfl,_,rfl,ifT rfl ⟨_,rfl,(by show 1<=sizeLine;decide),fun e he=>⟨e,_,rfl,aaA,ZZ.xs_NoField,fun dx H' n1 n2 eH=>⟨rfl,dx,(by rw[eH];exact aaA),(by rw[eH];exact hE i hat dx _ (aaV sA he n1 n2).1 (aaV sA he n1 n2).2)⟩⟩⟩⟩
     |some k=>
      rw[ek] at hv
      obtain⟨x,rfl,hx⟩:=hv
      refine⟨_,rfl,rfl,_,rfl,ifF rfl ⟨_,rfl,mk,_,rfl,.inl (SqL.of (s24 _ _ h2m)),rfl,_,rfl,?_⟩⟩
      refine ifI (fun c=>?_) (fun c=>?_)
      ·rw[List.length_map] at c
       have hat:abD true lo hi l=some i:=aj7 c3 (hsc.trans (by rw[edr];exact akY em ek (by omega)))
       exact⟨_,rfl,(by show 1<=sizeLine;decide),fun e he=>⟨e,_,rfl,aaA,ZZ.xs_NoField,fun dx H' n1 n2 eH=>⟨rfl,dx,(by rw[eH];exact aaA),(by rw[eH];exact hE i hat dx _ (aaV sA he n1 n2).1 (aaV sA he n1 n2).2)⟩⟩⟩
      rw[List.length_map] at c
      refine⟨_,rfl,.inl ⟨rfl,_,SqL.of (s24 _ _ h2m)⟩,_,rfl,mk,_,_,rfl,rfl,s24 _ _ h2m,(by rw[List.length_map,sizeLine_eq];omega),?_⟩
      exact⟨_,_,_,_,M,qs++[x],rfl,abH hmk (s2.trans s24),by rw[aaE hne];exact s24 _ _ h2c,by rw[List.map_append];exact aaA,by rw[List.length_append,List.length_singleton];omega,by rw[hsc,edr,List.length_append];exact agY em ek (by omega)⟩
 case done=>
  rintro σ H2 ⟨u1,u2,u3,u4,M,qs,rfl,s2,h2c,h2m,hq,hsc⟩
  have sA:Same H H2:=s0.trans s2
  refine⟨_,rfl,ps,_,rfl,.inl (SqL.of (s2 _ _ aaA)),_,_,rfl,rfl,_,rfl,?_⟩
  have eL:((spl 44 l).map fun q=>V.str (Tx q)).length=(spl 44 l).length:=List.length_map _
  rw[eL]
  have hn:scan wk lo hi ((spl 44 l).take 40) 0 0=none:=hsc.trans (by rw[List.length_map,List.drop_length];rfl)
  by_cases c4:40<(spl 44 l).length
  ·rw[decide_eq_true (show (40:Int)<(((spl 44 l).length:Nat):Int) by omega)]
   have hat:abD wk lo hi l=some 40:=az1 c3 hn c4
   exact abZ ⟨(by show 1<=sizeLine;decide),fun e he=>⟨e,_,rfl,aaA,ZZ.xs_NoField,fun dx H' n1 n2 eH=>⟨rfl,dx,(by rw[eH];exact aaA),(by rw[eH];exact hE 40 hat dx _ (aaV sA he n1 n2).1 (aaV sA he n1 n2).2)⟩⟩⟩
  ·rw[decide_eq_false (show ¬(40:Int)<(((spl 44 l).length:Nat):Int) by omega)]
   refine aa7 ⟨_,rfl,_,rfl,(by show 2<=sizeLine;decide),fun p hp=>?_⟩
   have s3:=aaB hp (.tup [.int M,.ref mk])
   exact hQ (aq8 c3 hn c4) p mk M qs _ (sA.trans s3) aaA (s3 _ _ h2m) hq
theorem akR:Df1 P w K mg base "read_days" 8 ["text"] (ajU K C_Numbers C_Last C_Near C_LastWork C_Weekdays C_Nth C_LastOne C_Mark C_NoField):=by
 refine ZZ.F_read_days.dfs1 sc_read_days (fun vs H Q E h=>?_) (fun f cdv A outer s H vs Q E hr h=>?_)
 ·obtain⟨v,rfl,hv⟩:=h
  rfl
 obtain⟨v,rfl,hv⟩:=h
 refine⟨_,(ssC (aaK 1 (eD1 (aeA ZZ) hr ak6 (aC (v_ 0) (aC eI (aC (eGl (v:=.int 31) ZZ.m_MOST_DAY ⟨_,rfl⟩) (aC (eGl (v:=.ref C_read_day_mark) ZZ.m_read_day_mark rfl) aN))))) sc_read_days.nd)
   (ssC (sIf (tCm oEq (v_ 0) (eSx [42])) (ss1 (aaH eN)) ssN)
   (ssC (sIf (tCm oEq (eIx xT (v_ 1) eI) eI) (ss1 (aaH (eIx xT (v_ 1) eI))) ssN)
   (ss1 (aaH (eOp ao0 (abC (aC (eMk ZZ.c_Numbers (ad4 ZZ) hr (aC (eIx xT (v_ 1) eI) aN)) aN)) (eIx xT (v_ 1) eI))))))),?_⟩
 rcases hv with ⟨kd,hk,ns,hE⟩ | ⟨l,rfl,hl,hE,hQ⟩
 ·exact⟨_,rfl,v,1,31,false,rfl,⟨by decide,by decide,by decide⟩,.inl ⟨kd,hk,ns,hE⟩⟩
 refine⟨_,rfl,_,1,31,false,rfl,⟨by decide,by decide,by decide⟩,.inr ⟨l,rfl,hl,hE,fun hb p m M qs H1 s1 hp hm lq=>?_⟩⟩
 obtain⟨q1,q2⟩:=hQ hb
 refine⟨_,rfl,rfl,_,rfl,ifX (fun c=>q1 c _ s1) (fun c=>?_)⟩
 have q2:=q2 c
 refine⟨_,rfl,p,_,_,_,rfl,rfl,SqT.of hp,rfl,rfl,_,rfl,ifI (fun c0=>⟨_,rfl,p,_,_,_,rfl,rfl,SqT.of hp,rfl,q2 m _ _ s1 hm⟩) (fun c0=>?_)⟩
 refine⟨_,rfl,p,_,_,_,rfl,rfl,SqT.of hp,rfl,fun xo dx nx ndx nex=>⟨xo,dx,_,rfl,aaA,rfl,(by show 1<=sizeLine;decide),fun l1 hl1=>?_⟩⟩
 have n1:Same H1 (upd (upd (upd H1 dx (.own xo)) xo (.ins C_Numbers dx [])) xo (.ins C_Numbers dx [("mask",.int M)])):=ab1 nx ndx
 have n2:=n1.trans (aaB hl1 (.lst [.ref xo]))
 refine⟨_,rfl,p,_,_,_,rfl,rfl,SqT.of (n2 _ _ hp),rfl,l1,m,_,_,rfl,rfl,aaA,n2 _ _ hm,(by rw[List.length_map,sizeLine_eq];show 1+_<=_;omega),fun l2 hl2=>?_⟩
 exact q2 l2 _ _ (s1.trans (n2.trans (aaB hl2 _))) aaA
theorem afV:Df1 P w K mg base "read_weekdays" 8 ["text"] (afP K C_Numbers C_Last C_Near C_LastWork C_Weekdays C_Nth C_LastOne C_Mark C_NoField):=by
 refine ZZ.F_read_weekdays.dfs1 sc_read_weekdays (fun vs H Q E h=>?_) (fun f cdv A outer s H vs Q E hr h=>?_)
 ·obtain⟨v,rfl,hv⟩:=h
  rfl
 obtain⟨v,rfl,hv⟩:=h
 refine⟨_,(ssC (aaK 1 (eD1 (aeA ZZ) hr ak6 (aC (v_ 0) (aC eI (aC (eGl (v:=.int 7) ZZ.m_SUNDAY_TOO ⟨_,rfl⟩) (aC (eGl (v:=.ref C_read_weekday_mark) ZZ.m_read_weekday_mark rfl) aN))))) sc_read_weekdays.nd)
   (ssC (sIf (tCm oEq (v_ 0) (eSx [42])) (ss1 (aaH eN)) ssN)
   (ssC (sIf (tCm oEq (eIx xT (v_ 1) eI) eI) (ss1 (aaH (eIx xT (v_ 1) eI))) ssN)
   (ssC (aaK 2 (eOp aFG (eOp oOr (eIx xT (v_ 1) eI) (eOp aJF (eIx xT (v_ 1) eI) (eGl (v:=.int 7) ZZ.m_SUNDAY_TOO ⟨_,rfl⟩))) (eGl (v:=.int 127) ZZ.m_ALL_WEEKDAYS ⟨_,rfl⟩)) sc_read_weekdays.nd)
   (ss1 (aaH (eOp ao0 (abC (aC (eMk ZZ.c_Weekdays (adQ ZZ) hr (aC (v_ 2) aN)) aN)) (eIx xT (v_ 1) eI)))))))),?_⟩
 rcases hv with ⟨kd,hk,ns,hE⟩ | ⟨l,rfl,hl,hE,hQ⟩
 ·exact⟨_,rfl,v,0,7,true,rfl,⟨by decide,by decide,by decide⟩,.inl ⟨kd,hk,ns,hE⟩⟩
 refine⟨_,rfl,_,0,7,true,rfl,⟨by decide,by decide,by decide⟩,.inr ⟨l,rfl,hl,hE,fun hb p m M qs H1 s1 hp hm lq=>?_⟩⟩
 obtain⟨q1,q2⟩:=hQ hb
 refine⟨_,rfl,rfl,_,rfl,ifX (fun c=>q1 c _ s1) (fun c=>?_)⟩
 have q2:=q2 c
 refine⟨_,rfl,p,_,_,_,rfl,rfl,SqT.of hp,rfl,rfl,_,rfl,ifI (fun c0=>⟨_,rfl,p,_,_,_,rfl,rfl,SqT.of hp,rfl,q2 m _ _ s1 hm⟩) (fun c0=>?_)⟩
 refine⟨_,rfl,p,_,_,_,rfl,rfl,SqT.of hp,rfl,_,rfl,p,_,_,_,rfl,rfl,SqT.of hp,rfl,_,_,rfl,rfl,(by show (0:Int)<=7;decide),_,_,rfl,rfl,_,_,rfl,rfl,?_⟩
 refine⟨_,rfl,fun xo dx nx ndx nex=>⟨xo,dx,_,rfl,aaA,rfl,(by show 1<=sizeLine;decide),fun l1 hl1=>?_⟩⟩
 have n1:Same H1 (upd (upd (upd H1 dx (.own xo)) xo (.ins C_Weekdays dx [])) xo (.ins C_Weekdays dx [("mask",.int (wk7 M))])):=ab1 nx ndx
 have n2:=n1.trans (aaB hl1 (.lst [.ref xo]))
 refine⟨_,rfl,p,_,_,_,rfl,rfl,SqT.of (n2 _ _ hp),rfl,l1,m,_,_,rfl,rfl,aaA,n2 _ _ hm,(by rw[List.length_map,sizeLine_eq];show 1+_<=_;omega),fun l2 hl2=>?_⟩
 exact q2 l2 _ _ (s1.trans (n2.trans (aaB hl2 _))) aaA
theorem amB:Df P w K mg base "times_of" 3 ["hours","minutes"] (al1 K):=by
 refine ZZ.F_times_of.dfs sc_times_of (fun vs H Q E h=>?_) (fun f cdv A outer s H vs Q E hr h=>?_)
 ·obtain⟨h,m,rfl,hh,hm,q⟩:=h
  rfl
 obtain⟨h,m,rfl,hh,hm,q⟩:=h
 refine⟨_,(ssC (aaK 2 eI sc_times_of.nd)
   (ssC (al6 (iL (eD (aiL ZZ) hr (aC (v_ 0) aN))) (gN 3 sc_times_of.nd) (ss1 (aaK 2 (eOp oOr (v_ 2) (eOp aCR (v_ 1) (eOp aj4 (eGl (v:=.int 60) ZZ.m_HOUR_MINUTES ⟨_,rfl⟩) (v_ 3)))) sc_times_of.nd)) PassesOwn.never)
   (ss1 (aaH (v_ 2))))),?_⟩
 have bh:=ajY hh.1 hh.2
 have bm:=ajY hm.1 hm.2
 refine⟨_,rfl,h,rfl,⟨hh.1,by omega⟩,fun p H1 s1 h1=>⟨p,rfl,⟨_,SqL.of h1⟩,ag2 (K:=K) (a:=p) (xs:=(alJ h).map V.int) (fun i σ H2=>∃(v3:Option V),σ=[some (.int h),some (.int m),some (.int (orM (((alJ h).take i).map fun z=>m*2^(60*z).toNat))),v3]/\Same H1 H2) ⟨_,rfl,Same.refl _⟩ (fun i σ H2 _ ⟨_,_,s2⟩=>SqL.of (s2 _ _ h1)) ?turn ?done⟩⟩
 case done=>
  rintro σ H2 ⟨v3,rfl,s2⟩
  rw[List.length_map,List.take_length]
  exact⟨_,rfl,q _ H2 rfl (s1.trans s2)⟩
 case turn=>
  rintro i x σ H2 hx ⟨v3,rfl,s2⟩
  rw[List.getElem?_map] at hx
  cases ez:(alJ h)[i]? with
  |none=>rw[ez] at hx;cases hx
  |some z=>
   rw[ez] at hx
   obtain rfl:V.int z=x:=Option.some.inj hx
   have et:orM (((alJ h).take (i+1)).map fun z=>m*2^(60*z).toNat)=Builtin.bitOr (orM (((alJ h).take i).map fun z=>m*2^(60*z).toNat)) (m*2^(60*z).toNat):=by rw[List.take_succ,ez,List.map_append];exact al2 _ _
   rw[et]
   have hz:=List.mem_of_getElem? ez
   rw[asY hh.1 hh.2] at hz
   obtain⟨n,hn,_,rfl⟩:=flt_mem.mp hz
   refine⟨_,rfl,_,rfl,_,rfl,_,_,rfl,rfl,.inl ⟨by decide,by decide⟩,_,_,rfl,rfl,⟨?_,?_,?_⟩,_,_,rfl,rfl,?_⟩
   ·omega
   ·omega
   ·omega
   ·exact⟨_,rfl,s2⟩
theorem agR:DfM P w K mg base C_Row "__init__" 4 ["self","fields"] (agJ K C_Row):=by
 refine ZZ.F_Row___init__.dfs agU (fun vs H Q E h=>?_) (fun f cdv A outer s H vs Q E hr h=>?_)
 ·obtain⟨p,dx,fa,m0,m1,m3,dv,wv,rfl,hp,hf,h0,h1,q⟩:=h
  rfl
 obtain⟨p,dx,fa,m0,m1,m3,dv,wv,rfl,hp,hf,h0,h1,q⟩:=h
 refine⟨_,(ssC (sFl (v_ 0) (eIx xL (v_ 1) (eGl (v:=.int 0) ZZ.m_MINUTE ⟨_,rfl⟩)))
   (ssC (sFl (v_ 0) (eIx xL (v_ 1) (eGl (v:=.int 1) ZZ.m_HOUR ⟨_,rfl⟩)))
   (ssC (sFl (v_ 0) (eIx xL (v_ 1) (eGl (v:=.int 2) ZZ.m_DAY ⟨_,rfl⟩)))
   (ssC (sFl (v_ 0) (eIx xL (v_ 1) (eGl (v:=.int 3) ZZ.m_MONTH ⟨_,rfl⟩)))
   (ssC (sFl (v_ 0) (eIx xL (v_ 1) (eGl (v:=.int 4) ZZ.m_WEEKDAY ⟨_,rfl⟩)))
   (ss1 (sFl (v_ 0) (eD (amB ZZ) hr (aC (eFl (v_ 0)) (aC (eFl (v_ 0)) aN)))))))))),?_⟩
 have hfp:fa≠p:=fun e=>by rw[e,hp] at hf;cases hf
 have g0:H fa=some (.lst [.int m0,.int m1,dv,.int m3,wv]):=hf
 have g1:(upd H p (.ins C_Row dx (aaM "minute_mask" (.int m0) []))) fa=some (.lst [.int m0,.int m1,dv,.int m3,wv]):=by rw[aaE hfp];exact g0
 have g2:(upd (upd H p (.ins C_Row dx (aaM "minute_mask" (.int m0) []))) p (.ins C_Row dx (aaM "hour_mask" (.int m1) (aaM "minute_mask" (.int m0) [])))) fa=some (.lst [.int m0,.int m1,dv,.int m3,wv]):=by rw[aaE hfp];exact g1
 have g3:(upd (upd (upd H p (.ins C_Row dx (aaM "minute_mask" (.int m0) []))) p (.ins C_Row dx (aaM "hour_mask" (.int m1) (aaM "minute_mask" (.int m0) [])))) p (.ins C_Row dx (aaM "day_marks" dv (aaM "hour_mask" (.int m1) (aaM "minute_mask" (.int m0) []))))) fa=some (.lst [.int m0,.int m1,dv,.int m3,wv]):=by rw[aaE hfp];exact g2
 have g4:(upd (upd (upd (upd H p (.ins C_Row dx (aaM "minute_mask" (.int m0) []))) p (.ins C_Row dx (aaM "hour_mask" (.int m1) (aaM "minute_mask" (.int m0) [])))) p (.ins C_Row dx (aaM "day_marks" dv (aaM "hour_mask" (.int m1) (aaM "minute_mask" (.int m0) []))))) p (.ins C_Row dx (aaM "month_mask" (.int m3) (aaM "day_marks" dv (aaM "hour_mask" (.int m1) (aaM "minute_mask" (.int m0) [])))))) fa=some (.lst [.int m0,.int m1,dv,.int m3,wv]):=by rw[aaE hfp];exact g3
 have g5:(upd (upd (upd (upd (upd H p (.ins C_Row dx (aaM "minute_mask" (.int m0) []))) p (.ins C_Row dx (aaM "hour_mask" (.int m1) (aaM "minute_mask" (.int m0) [])))) p (.ins C_Row dx (aaM "day_marks" dv (aaM "hour_mask" (.int m1) (aaM "minute_mask" (.int m0) []))))) p (.ins C_Row dx (aaM "month_mask" (.int m3) (aaM "day_marks" dv (aaM "hour_mask" (.int m1) (aaM "minute_mask" (.int m0) [])))))) p (.ins C_Row dx (aaM "weekday_marks" wv (aaM "month_mask" (.int m3) (aaM "day_marks" dv (aaM "hour_mask" (.int m1) (aaM "minute_mask" (.int m0) []))))))) fa=some (.lst [.int m0,.int m1,dv,.int m3,wv]):=by rw[aaE hfp];exact g4
 have l5:∀(f:Str) (v:V),(am0 m0 m1 dv m3 wv 0).lookup f=some v->f≠"time_mask"->(aaM "weekday_marks" wv (aaM "month_mask" (.int m3) (aaM "day_marks" dv (aaM "hour_mask" (.int m1) (aaM "minute_mask" (.int m0) []))))).lookup f=some v:=fun f v h hne=>by
  unfold am0 at h
  rw[aaJ,if_neg hne] at h
  exact h
 refine⟨_,rfl,fa,_,_,_,rfl,rfl,SqL.of g0,rfl,_,rfl,p,C_Row,dx,_,rfl,hp,ZZ.c_Row.cl,ZZ.n_Row_minute_mask,(by show 0<1000;decide),_,rfl,fa,_,_,_,rfl,rfl,SqL.of g1,rfl,_,rfl,p,C_Row,dx,_,rfl,aaA,ZZ.c_Row.cl,ZZ.n_Row_hour_mask,(by show 1<1000;decide),_,rfl,fa,_,_,_,rfl,rfl,SqL.of g2,rfl,_,rfl,p,C_Row,dx,_,rfl,aaA,ZZ.c_Row.cl,ZZ.n_Row_day_marks,(by show 2<1000;decide),_,rfl,fa,_,_,_,rfl,rfl,SqL.of g3,rfl,_,rfl,p,C_Row,dx,_,rfl,aaA,ZZ.c_Row.cl,ZZ.n_Row_month_mask,(by show 3<1000;decide),_,rfl,fa,_,_,_,rfl,rfl,SqL.of g4,rfl,_,rfl,p,C_Row,dx,_,rfl,aaA,ZZ.c_Row.cl,ZZ.n_Row_weekday_marks,(by show 4<1000;decide),_,rfl,p,C_Row,dx,_,_,rfl,aaA,ZZ.c_Row.cl,ZZ.n_Row_hour_mask,l5 _ _ (ah5 ..) (by decide +kernel),_,rfl,p,C_Row,dx,_,_,rfl,aaA,ZZ.c_Row.cl,ZZ.n_Row_minute_mask,l5 _ _ (afN ..) (by decide +kernel),m1,m0,rfl,h1,h0,fun t HT ht sT=>?_⟩
 refine⟨_,rfl,p,C_Row,dx,_,rfl,sT _ _ aaA,ZZ.c_Row.cl,ZZ.n_Row_time_mask,(by show 5<1000;decide),q t _ ht aaA fun b o hb hne=>?_⟩
 rw[aaE hne]
 refine sT _ _ ?_
 rw[aaE hne,aaE hne,aaE hne,aaE hne,aaE hne]
 exact hb
theorem akW:Df1 P w K mg base "read_word" 9 ["word","place"] (aj3 K C_Numbers C_Last C_Near C_LastWork C_Weekdays C_Nth C_LastOne C_Mark C_NoField):=by
 refine ZZ.F_read_word.dfs1 sc_read_word (fun vs H Q E h=>?_) (fun f cdv A outer s H vs Q E hr h=>?_)
 ·obtain⟨t,pl,rfl,hl,hp5,hz⟩:=h
  rfl
 obtain⟨t,pl,rfl,hl,hp5,hz⟩:=h
 refine⟨_,(ssC (sIf (tCm oEq (v_ 1) (eGl (v:=.int 2) ZZ.m_DAY ⟨_,rfl⟩)) (ss1 (aaH (eD1 (akR ZZ) hr ak6 (aC (v_ 0) aN)))) ssN)
   (ssC (sIf (tCm oEq (v_ 1) (eGl (v:=.int 4) ZZ.m_WEEKDAY ⟨_,rfl⟩)) (ss1 (aaH (eD1 (afV ZZ) hr ak6 (aC (v_ 0) aN)))) ssN)
   (ssC (aaK 2 (eDgK (eGl (v:=.ref a_BOUNDS) ZZ.m_BOUNDS rfl) (v_ 1)) sc_read_word.nd)
   (ss1 (aaH (eD1 (aiJ ZZ) hr ak6 (aC (v_ 0) (aC (eIx xT (v_ 2) eI) (aC (eIx xT (v_ 2) eI) aN))))))))),?_⟩
 match pl,hp5,hz with
 |0,_,hz=>
  rcases hz with ⟨hb,hE⟩ | ⟨hb,hQ⟩
  ·refine⟨_,rfl,rfl,_,rfl,ifI (fun c=>absurd c (by decide)) (fun _=>⟨_,rfl,rfl,_,rfl,ifI (fun c=>absurd c (by decide)) (fun _=>⟨_,rfl,a_BOUNDS,_,_,_,rfl,ZZ.q_BOUNDS,rfl,rfl,_,rfl,_,rfl,a_BOUNDS_0,_,_,_,rfl,rfl,ZZ.q_BOUNDS_0 _,rfl,_,rfl,a_BOUNDS_0,_,_,_,rfl,rfl,ZZ.q_BOUNDS_0 _,rfl,_,_,_,rfl,⟨by decide,by decide,by decide⟩,.inr ⟨t,rfl,hl,fun p hp dx H' s h=>hE p dx H' s h,fun hn=>?_⟩⟩)⟩)⟩
   rw[show wb 0 t=(aa1 0 59 t).isSome from rfl,hn] at hb
   cases hb
  ·refine⟨_,rfl,rfl,_,rfl,ifI (fun c=>absurd c (by decide)) (fun _=>⟨_,rfl,rfl,_,rfl,ifI (fun c=>absurd c (by decide)) (fun _=>⟨_,rfl,a_BOUNDS,_,_,_,rfl,ZZ.q_BOUNDS,rfl,rfl,_,rfl,_,rfl,a_BOUNDS_0,_,_,_,rfl,rfl,ZZ.q_BOUNDS_0 _,rfl,_,rfl,a_BOUNDS_0,_,_,_,rfl,rfl,ZZ.q_BOUNDS_0 _,rfl,_,_,_,rfl,⟨by decide,by decide,by decide⟩,.inr ⟨t,rfl,hl,fun p hp=>?_,fun hn H' s=>hQ _ H' s ?_⟩⟩)⟩)⟩
   ·rw[show wb 0 t=(aa1 0 59 t).isSome from rfl,hp] at hb
    cases hb
   ·have z:=ahT (n:=60) (lo:=0) (hi:=59) (by decide) (by decide) (by decide) hn
    exact⟨_,rfl,z⟩
 |1,_,hz=>
  rcases hz with ⟨hb,hE⟩ | ⟨hb,hQ⟩
  ·refine⟨_,rfl,rfl,_,rfl,ifI (fun c=>absurd c (by decide)) (fun _=>⟨_,rfl,rfl,_,rfl,ifI (fun c=>absurd c (by decide)) (fun _=>⟨_,rfl,a_BOUNDS,_,_,_,rfl,ZZ.q_BOUNDS,rfl,rfl,_,rfl,_,rfl,a_BOUNDS_1,_,_,_,rfl,rfl,ZZ.q_BOUNDS_1 _,rfl,_,rfl,a_BOUNDS_1,_,_,_,rfl,rfl,ZZ.q_BOUNDS_1 _,rfl,_,_,_,rfl,⟨by decide,by decide,by decide⟩,.inr ⟨t,rfl,hl,fun p hp dx H' s h=>hE p dx H' s h,fun hn=>?_⟩⟩)⟩)⟩
   rw[show wb 1 t=(aa1 0 23 t).isSome from rfl,hn] at hb
   cases hb
  ·refine⟨_,rfl,rfl,_,rfl,ifI (fun c=>absurd c (by decide)) (fun _=>⟨_,rfl,rfl,_,rfl,ifI (fun c=>absurd c (by decide)) (fun _=>⟨_,rfl,a_BOUNDS,_,_,_,rfl,ZZ.q_BOUNDS,rfl,rfl,_,rfl,_,rfl,a_BOUNDS_1,_,_,_,rfl,rfl,ZZ.q_BOUNDS_1 _,rfl,_,rfl,a_BOUNDS_1,_,_,_,rfl,rfl,ZZ.q_BOUNDS_1 _,rfl,_,_,_,rfl,⟨by decide,by decide,by decide⟩,.inr ⟨t,rfl,hl,fun p hp=>?_,fun hn H' s=>hQ _ H' s ?_⟩⟩)⟩)⟩
   ·rw[show wb 1 t=(aa1 0 23 t).isSome from rfl,hp] at hb
    cases hb
   ·have z:=ahT (n:=24) (lo:=0) (hi:=23) (by decide) (by decide) (by decide) hn
    exact⟨_,rfl,z⟩
 |2,_,hz=>
  rcases hz with ⟨hb,hE⟩ | ⟨hb,hQ⟩
  ·refine⟨_,rfl,rfl,_,rfl,ifI (fun _=>⟨_,rfl,_,rfl,.inr ⟨t,rfl,hl,fun p hp dx H' s h=>hE p dx H' s h,fun hn=>?_⟩⟩) (fun c=>absurd rfl c)⟩
   rw[show wb 2 t=(abD false 1 31 t).isSome from rfl,hn] at hb
   cases hb
  ·refine⟨_,rfl,rfl,_,rfl,ifI (fun _=>⟨_,rfl,_,rfl,.inr ⟨t,rfl,hl,fun p hp=>?_,fun hn=>⟨fun e H' s=>hQ _ H' s trivial,fun ne m ys H' s hm=>hQ _ H' s trivial⟩⟩⟩) (fun c=>absurd rfl c)⟩
   rw[show wb 2 t=(abD false 1 31 t).isSome from rfl,hp] at hb
   cases hb
 |3,_,hz=>
  rcases hz with ⟨hb,hE⟩ | ⟨hb,hQ⟩
  ·refine⟨_,rfl,rfl,_,rfl,ifI (fun c=>absurd c (by decide)) (fun _=>⟨_,rfl,rfl,_,rfl,ifI (fun c=>absurd c (by decide)) (fun _=>⟨_,rfl,a_BOUNDS,_,_,_,rfl,ZZ.q_BOUNDS,rfl,rfl,_,rfl,_,rfl,a_BOUNDS_3,_,_,_,rfl,rfl,ZZ.q_BOUNDS_3 _,rfl,_,rfl,a_BOUNDS_3,_,_,_,rfl,rfl,ZZ.q_BOUNDS_3 _,rfl,_,_,_,rfl,⟨by decide,by decide,by decide⟩,.inr ⟨t,rfl,hl,fun p hp dx H' s h=>hE p dx H' s h,fun hn=>?_⟩⟩)⟩)⟩
   rw[show wb 3 t=(aa1 1 12 t).isSome from rfl,hn] at hb
   cases hb
  ·refine⟨_,rfl,rfl,_,rfl,ifI (fun c=>absurd c (by decide)) (fun _=>⟨_,rfl,rfl,_,rfl,ifI (fun c=>absurd c (by decide)) (fun _=>⟨_,rfl,a_BOUNDS,_,_,_,rfl,ZZ.q_BOUNDS,rfl,rfl,_,rfl,_,rfl,a_BOUNDS_3,_,_,_,rfl,rfl,ZZ.q_BOUNDS_3 _,rfl,_,rfl,a_BOUNDS_3,_,_,_,rfl,rfl,ZZ.q_BOUNDS_3 _,rfl,_,_,_,rfl,⟨by decide,by decide,by decide⟩,.inr ⟨t,rfl,hl,fun p hp=>?_,fun hn H' s=>hQ _ H' s ?_⟩⟩)⟩)⟩
   ·rw[show wb 3 t=(aa1 1 12 t).isSome from rfl,hp] at hb
    cases hb
   ·have z:=ahT (n:=13) (lo:=1) (hi:=12) (by decide) (by decide) (by decide) hn
    exact⟨_,rfl⟩
 |4,_,hz=>
  rcases hz with ⟨hb,hE⟩ | ⟨hb,hQ⟩
  ·refine⟨_,rfl,rfl,_,rfl,ifI (fun c=>absurd c (by decide)) (fun _=>⟨_,rfl,rfl,_,rfl,ifI (fun _=>⟨_,rfl,_,rfl,.inr ⟨t,rfl,hl,fun p hp dx H' s h=>hE p dx H' s h,fun hn=>?_⟩⟩) (fun c=>absurd rfl c)⟩)⟩
   rw[show wb 4 t=(abD true 0 7 t).isSome from rfl,hn] at hb
   cases hb
  ·refine⟨_,rfl,rfl,_,rfl,ifI (fun c=>absurd c (by decide)) (fun _=>⟨_,rfl,rfl,_,rfl,ifI (fun _=>⟨_,rfl,_,rfl,.inr ⟨t,rfl,hl,fun p hp=>?_,fun hn=>⟨fun e H' s=>hQ _ H' s trivial,fun ne m ys H' s hm=>hQ _ H' s trivial⟩⟩⟩) (fun c=>absurd rfl c)⟩)⟩
   rw[show wb 4 t=(abD true 0 7 t).isSome from rfl,hp] at hb
   cases hb
theorem am8:Df1 P w K mg base "read_at" 10 ["word","place"] (amU K C_Numbers C_Last C_Near C_LastWork C_Weekdays C_Nth C_LastOne C_Mark C_NoRow):=by
 refine ZZ.F_read_at.dfs1 anA (fun vs H Q E h=>?_) (fun f cdv A outer s H vs Q E hr h=>?_)
 ·obtain⟨t,pl,rfl,hl,hp5,hz⟩:=h
  rfl
 obtain⟨t,pl,rfl,hl,hp5,hz⟩:=h
 refine⟨_,(ss1 (aJT ZZ.m_NoField ZZ.xb_NoField (bR (xD (akW ZZ) hr (aC (v_ 0) (aC (v_ 1) aN)))) (fun _=>(ss1 (aIF aIW ZZ.m_NoRow ZZ.xj_NoRow (aeJ ZZ) (hr.q.mark _) (aC (v_ 1) aN)))))),?_⟩
 refine⟨fun e d H'=>∃dx:Addr,e=.ref C_NoField/\d=some dx/\Same H H'/\wb pl t=true,?_,fun C d b H' ⟨dx,hC,hd,s0,hw⟩=>?_⟩
 ·refine⟨_,rfl,_,rfl,t,pl,rfl,hl,hp5,?_⟩
  rcases hz with ⟨hb,hE⟩ | ⟨hb,hQ⟩
  ·exact .inl ⟨hb,fun p dx H' s h=>⟨dx,rfl,rfl,s,hb⟩⟩
  ·exact .inr ⟨hb,fun v H' s hv=>hQ v H' s hv⟩
 ·obtain⟨rfl,rfl⟩:=arI hC
  subst hd
  refine⟨ZZ.xk_NoField_NoField,fun a ha=>?_⟩
  have sn:=s0.trans (aaB ha (xo a C (some dx) true))
  rcases hz with ⟨hb,hE⟩ | ⟨hb,_⟩
  ·refine⟨_,rfl,(by show 1<=sizeLine;decide),⟨_,aaA⟩,fun e he=>⟨e,_,rfl,aaA,ZZ.xs_NoRow,fun dx' H2 n1 n2 eH=>⟨rfl,⟨C,some dx,?_⟩,dx',(by rw[eH];exact aaA),?_⟩⟩⟩
   ·have nae:a≠e:=fun z=>by rw[←z,aaA] at he;cases he
    have nad:a≠dx':=fun z=>by rw[←z,aaE nae,aaA] at n1;cases n1
    rw[eH,aaE nae,aaE nad,aaE nae]
    exact aaA
   ·rw[eH]
    exact hE false dx' _ (aaV sn he n1 n2).1 (aaV sn he n1 n2).2
  ·rw[hb] at hw
   cases hw
theorem amD:Df1 P w K mg base "read_row" 11 ["text"] (alL K C_Numbers C_Last C_Near C_LastWork C_Weekdays C_Nth C_LastOne C_Mark C_Row C_NoRow):=by
 refine ZZ.F_read_row.dfs1 sc_read_row (fun vs H Q E h=>?_) (fun f cdv A outer s H vs Q E hr h=>?_)
 ·obtain⟨v,rfl,hv⟩:=h
  rfl
 obtain⟨v,rfl,hv⟩:=h
 refine⟨_,(ssC (sIf (tW (wOr (tNo (tVa (eCB cIs ZZ.z_isinstance PyProof.Rows.boot_isinstance (aC (v_ 0) (aC (eTy ZZ.z_str PyProof.Rows.boot_str) aN))))) (afY (tCm oGt (eCB aqF ZZ.z_len PySem.boot_len (aC (v_ 0) aN)) (eGl (v:=.int 1600) ZZ.m_MOST_ROW_SIGNS ⟨_,rfl⟩))))) (ss1 (alI af2 ZZ.m_NoRow ZZ.xj_NoRow (acG ZZ) hr (aC (eGl (v:=.int 5) ZZ.m_NO_PLACE ⟨_,rfl⟩) aN))) ssN)
   (ssC (aaK 1 (amZ (v_ 0) (eSx [32])) sc_read_row.nd)
   (ssC (sIf (tW (wOr (tCm oNe (eCB al3 ZZ.z_len PySem.boot_len (aC (v_ 1) aN)) (eGl (v:=.int 5) ZZ.m_NO_PLACE ⟨_,rfl⟩)) (afY (tCm oIn (eSx []) (v_ 1))))) (ss1 (alI af2 ZZ.m_NoRow ZZ.xj_NoRow (acG ZZ) hr (aC (eGl (v:=.int 5) ZZ.m_NO_PLACE ⟨_,rfl⟩) aN))) ssN)
   (ss1 (aaH (eMk ZZ.c_Row (agR ZZ) hr (aC (auQ ["place","word"] [] [] (iE ZZ.z_enumerate (v_ 1)) (fun _ _ _ _ _ _=>gTuc (K:=K) (n:=2) (gsC (gN 0 (show ((["place","word"]:List Str)++([]:List Str)).Nodup by decide +kernel)) (gsC (gN 1 (show ((["place","word"]:List Str)++([]:List Str)).Nodup by decide +kernel)) gsN))) (fun _ _ _ _ _ _=>fsN) (fun _ _ _ _ _ _=>(xD (am8 ZZ) hr (aC (v_ 1) (aC (v_ 0) aN))))) aN))))))),?_⟩
 rcases hv with ⟨kd,hk,ns,hE⟩ | ⟨l,rfl,hl,hE,hQ⟩
 ·refine⟨_,rfl,v,.str,kd,rfl,(by decide),hk,_,rfl,?_⟩
  have e:Kd.isa kd .str=false:=by cases kd<;>first | rfl | exact absurd rfl ns
  rw[e]
  exact abZ ⟨(by show 1<=sizeLine;decide),fun e he=>⟨e,_,rfl,aaA,ZZ.xs_NoRow,fun dx H' n1 n2 eH=>⟨rfl,dx,(by rw[eH];exact aaA),(by rw[eH];exact hE true dx _ (aaV (Same.refl _) he n1 n2).1 (aaV (Same.refl _) he n1 n2).2)⟩⟩⟩
 refine⟨_,rfl,_,.str,.str,rfl,(by decide),rfl,_,rfl,ifF rfl ⟨_,rfl,l,rfl,(by rw[sizeLine_eq];omega),_,_,rfl,rfl,_,rfl,?_⟩⟩
 by_cases c6:1600<l.length
 ·rw[decide_eq_true (show (1600:Int)<((l.length:Nat):Int) by omega)]
  exact abZ ⟨(by show 1<=sizeLine;decide),fun e he=>⟨e,_,rfl,aaA,ZZ.xs_NoRow,fun dx H' n1 n2 eH=>⟨rfl,dx,(by rw[eH];exact aaA),(by rw[eH];exact hE 5 (aGS c6) true dx _ (aaV (Same.refl _) he n1 n2).1 (aaV (Same.refl _) he n1 n2).2)⟩⟩⟩
 rw[decide_eq_false (show ¬(1600:Int)<((l.length:Nat):Int) by omega)]
 refine aa7 ⟨_,rfl,rfl,l,32,rfl,rfl,(by rw[sizeLine_eq];omega),fun ps hps=>?_⟩
 have s0:=aaB hps (.lst ((spl 32 l).map fun q=>V.str (Tx q)))
 have eL:((spl 32 l).map fun q=>V.str (Tx q)).length=(spl 32 l).length:=List.length_map _
 by_cases c5:(spl 32 l).length=5
 case neg=>
  refine⟨_,rfl,ps,_,rfl,.inl (SqL.of aaA),rfl,_,rfl,?_⟩
  rw[decide_eq_false (fun z=>c5 (by have z:=V.int.inj z;rw[eL] at z;omega))]
  exact abZ ⟨(by show 1<=sizeLine;decide),fun e he=>⟨e,_,rfl,aaA,ZZ.xs_NoRow,fun dx H' n1 n2 eH=>⟨rfl,dx,(by rw[eH];exact aaA),(by rw[eH];exact hE 5 (ax4 c6 (.inl c5)) true dx _ (aaV s0 he n1 n2).1 (aaV s0 he n1 n2).2)⟩⟩⟩
 refine⟨_,rfl,ps,_,rfl,.inl (SqL.of aaA),rfl,_,rfl,ifNe (by rw[eL,c5];rfl) ⟨_,rfl,ps,_,rfl,.inl (SqL.of aaA),rfl,?fl,_,rfl,?_⟩⟩
 case fl=>
  rw[List.all_map]
  exact List.all_eq_true.mpr fun w _=>rfl
 show if inV (.str (Tx [])) ((spl 32 l).map fun q=>V.str (Tx q))=true then _ else _
 by_cases c0:[]∈spl 32 l
 ·rw[asT c0]
  exact abZ ⟨(by show 1<=sizeLine;decide),fun e he=>⟨e,_,rfl,aaA,ZZ.xs_NoRow,fun dx H' n1 n2 eH=>⟨rfl,dx,(by rw[eH];exact aaA),(by rw[eH];exact hE 5 (ax4 c6 (.inr c0)) true dx _ (aaV s0 he n1 n2).1 (aaV s0 he n1 n2).2)⟩⟩⟩
 rw[atA (fun w hw e=>c0 (e▸hw))]
 have hrow:=aIO c6 c5 c0
 have hml:=abB 32 l
 generalize spl 32 l=ws at c5 c0 hrow s0 hml eL ⊢
 refine aa7 ⟨_,rfl,ps,rfl,⟨_,SqL.of aaA⟩,amP (xs:=ws.map fun q=>V.str (Tx q)) (fun D i l' H=>l'.length=i/\(∀(k:Nat) v,l'[k]? =some v->WV k v)/\acT ws 0=acT (ws.drop i) i) (fun _ _ _ _ _ h=>h) (fun _ _ _ _ _ _ h=>h) (by rw[eL,c5];decide) (fun D _=>⟨rfl,fun k v h=>(by simp at h),rfl⟩) (SqL.of aaA) ?st ?dn⟩
 case st=>
  intro i x l' D H2 F G hx hR hD s2 hz hF hG
  obtain⟨hl',hW,hsc⟩:=hR
  rw[List.getElem?_map] at hx
  cases ew:ws[i]? with
  |none=>rw[ew] at hx;cases hx
  |some w0=>
   rw[ew] at hx
   obtain rfl:V.str (Tx w0)=x:=Option.some.inj hx
   have hi5:i<5:=by rw[←c5];exact (List.getElem?_eq_some_iff.mp ew).1
   have hw:=hml w0 (List.mem_of_getElem? ew)
   rw[anP ew] at hsc
   refine⟨_,rfl,_,rfl,w0,i,rfl,(by omega),hi5,?_⟩
   cases hb:wb i w0 with
   |true=>
    have hat:abU l=some i:=by
     rw[hrow,hsc]
     unfold acT
     rw[if_pos hb]
    exact .inl ⟨rfl,fun b dx H' s h=>hE i hat b dx H' (s0.trans (s2.trans s)) h⟩
   |false=>
    refine .inr ⟨rfl,fun v H' s hv=>hF _ _ s ⟨by rw[List.length_append,List.length_singleton,hl'],fun k u hk=>?_,?_⟩⟩
    ·by_cases ck:k<l'.length
     ·rw[List.getElem?_append_left ck] at hk
      exact hW k u hk
     ·rw[List.getElem?_append_right (by omega)] at hk
      have e0:k-l'.length=0:=by
       rcases Nat.eq_zero_or_pos (k-l'.length) with z | z
       ·exact z
       ·rw[List.getElem?_eq_none (by rw[List.length_singleton];omega)] at hk;cases hk
      rw[e0] at hk
      obtain rfl:v=u:=by simpa using hk
      have:k=i:=by omega
      subst this
      exact hv
    ·rw[hsc]
     unfold acT
     rw[if_neg (by rw[hb];decide)]
     cases List.drop (i+1) ws<;>rfl
 case dn=>
  intro D H2 l' hR hD s2 hz
  obtain⟨hl',hW,hsc⟩:=hR
  rw[eL] at hl' hsc
  rw[List.drop_length] at hsc
  have hok:abU l=none:=hrow.trans hsc
  rw[c5] at hl'
  obtain⟨v0,v1,v2,v3,v4,rfl⟩:=aF4 hl'
  obtain⟨m0,rfl,b0⟩:=hW 0 _ rfl
  obtain⟨m1,rfl,b1⟩:=hW 1 _ rfl
  obtain⟨m3,rfl⟩:=hW 3 _ rfl
  intro x dx nx ndx nex
  have n1:=ahO (a:=.own x) (b:=.ins C_Row dx []) nx ndx
  refine⟨x,dx,D,m0,m1,m3,v2,v4,rfl,aaA,n1 _ _ hz,b0,b1,fun tm H' htm hx' hs'=>⟨rfl,?_⟩⟩
  have sX:Same H2 H':=fun b o hb'=>hs' b o (n1 _ _ hb') (fun e=>by rw[e,nx] at hb';cases hb')
  exact hQ hok x dx _ H' (s0.trans (s2.trans sX)) hx'
theorem abO:Df P w K mg base "_law_cell_at" 1 ["_law_script","_law_k"] (agL K):=by
 refine ZZ.F__law_cell_at.dfs agV (fun vs H Q E h=>?_) (fun f cdv A outer s H vs Q E hr h=>?_)
 ·obtain⟨a,k,rfl,⟨ns,hS⟩,⟨h0,h9⟩,q⟩:=h
  rfl
 obtain⟨a,k,rfl,⟨ns,hS⟩,⟨h0,h9⟩,q⟩:=h
 refine⟨_,(ssC (sIf (tCm oLt (v_ 1) (eCB al3 ZZ.z_len PySem.boot_len (aC (v_ 0) aN))) (ss1 (aaH (eIx xL (v_ 0) (v_ 1)))) ssN)
   (ss1 (aaH (eOp abQ (eOp aj4 (eOp azC (eOp abE (v_ 1) eI) eI) eI) eI)))),?_⟩
 refine⟨_,rfl,_,rfl,a,_,rfl,.inl hS,_,_,rfl,rfl,_,rfl,?_⟩
 refine ifD (fun c=>?_) (fun c=>?_)
 ·rw[List.length_map] at c
  have hk:k.toNat<ns.length:=by omega
  have ek:k=((k.toNat:Nat):Int):=by omega
  have e:atI (ns.map V.int) k=some (.int ns[k.toNat]):=by
   have z:atI (ns.map V.int) ((k.toNat:Nat):Int)=some (.int ns[k.toNat]):=akJ (by rw[List.getElem?_map,List.getElem?_eq_getElem hk];rfl)
   rw[←ek] at z
   exact z
  refine⟨_,rfl,_,rfl,a,_,_,_,rfl,rfl,hS,e,?_⟩
  exact q _
 ·refine⟨_,rfl,_,_,rfl,rfl,_,_,rfl,rfl,⟨by decide,by decide,(by show (k+2).natAbs<2^64;omega)⟩,_,_,rfl,rfl,.inr ⟨by decide,by decide⟩,_,_,rfl,rfl,(by show (0:Int)<15485863;decide),?_⟩
  exact q _
theorem ajW:Df P w K mg base "_law_stir" 1 ["_law_number"] (akF K):=by
 refine ZZ.F__law_stir.dfs sc__law_stir (fun vs H Q E h=>?_) (fun f cdv A outer s H vs Q E hr h=>?_)
 ·obtain⟨n,rfl,q⟩:=h
  rfl
 obtain⟨n,rfl,q⟩:=h
 refine⟨_,(ssC (aaK 1 (eOp abQ (eOp aj4 (eOp abE (eOp abQ (v_ 0) (eOp azC eI eI)) eI) eI) eI) sc__law_stir.nd)
   (ssC (aaK 2 (eOp abQ (eOp aj4 (v_ 1) (eOp abE (eOp abQ (v_ 1) eI) eI)) eI) sc__law_stir.nd)
   (ss1 (aaH (eOp abQ (eOp aj4 (v_ 2) (eOp abE (eOp abQ (v_ 2) eI) eI)) eI))))),?_⟩
 refine⟨_,rfl,_,_,rfl,rfl,⟨by decide,by decide,by decide⟩,_,_,rfl,rfl,(by rw[aJN];show (0:Int)<_;decide),_,_,rfl,rfl,_,_,rfl,rfl,.inr ⟨by decide,by decide⟩,_,_,rfl,rfl,(by show (0:Int)<4294967291;decide),?_⟩
 refine⟨_,rfl,_,rfl,_,_,rfl,rfl,(by show (0:Int)<65521;decide),_,_,rfl,rfl,_,_,rfl,rfl,aH7 (by decide) (by decide),_,_,rfl,rfl,(by show (0:Int)<999999937;decide),?_⟩
 refine⟨_,rfl,_,rfl,_,_,rfl,rfl,(by show (0:Int)<32749;decide),_,_,rfl,rfl,_,_,rfl,rfl,aH7 (by decide) (by decide),_,_,rfl,rfl,(by show (0:Int)<2147483629;decide),?_⟩
 exact q _ (Int.emod_nonneg _ (by decide)) (Int.emod_lt_of_pos _ (by decide))
theorem ab0:Df P w K mg base "_law_digits" 2 ["_law_cell","_law_sizes","_law_mixed"] (aiA K):=by
 refine ZZ.F__law_digits.dfs sc__law_digits (fun vs H Q E h=>?_) (fun f cdv A outer s H vs Q E hr h=>?_)
 ·obtain⟨c,a,b,ss,rfl,hS,hz,hl,q⟩:=h
  rfl
 obtain⟨c,a,b,ss,rfl,hS,hz,hl,q⟩:=h
 refine⟨_,(ssC (aaK 3 (abC aN) sc__law_digits.nd)
   (ssC (aaK 2 (eOr (v_ 2) (ap1 (akO oLt (eCB cAbs ZZ.z_abs PyProof.Rows.boot_abs (aC (v_ 0) aN)) (eOp azC eI eI)))) sc__law_digits.nd)
   (ssC (al6 (iL (v_ 1)) (gN 4 sc__law_digits.nd) (ss1 (sIf (tVa (v_ 2)) (ssC (aaK 0 (eD (ajW ZZ) hr (aC (v_ 0) aN)) sc__law_digits.nd)
   (ss1 (ao8 (apG (v_ 3) (eOp abQ (eOp aI4 (v_ 0) eI) (v_ 4)))))) (ssC (ao8 (apG (v_ 3) (eOp abQ (v_ 0) (v_ 4))))
   (ss1 (aaK 0 (eOp aI4 (v_ 0) (v_ 4)) sc__law_digits.nd))))) PassesOwn.never)
   (ss1 (aaH (v_ 3)))))),?_⟩
 refine⟨(by show 0<=sizeLine;decide),fun fl hfl=>?_⟩
 refine⟨_,rfl,_,rfl,az9 (fun _=>?_) (fun _=>⟨_,rfl,_,rfl,_,_,rfl,rfl,⟨by decide,by decide,by decide⟩,_,_,rfl,rfl,?_⟩)⟩
 all_goals
  refine⟨_,rfl,a,rfl,⟨_,(aaB hfl _).seq hS⟩,ag2 (K:=K) (a:=a) (xs:=ss.map V.int) (fun i σ H2=>∃(c':Int) (b':Bool) (u:Option V) (ds:List Int),σ=[some (.int c'),some (.ref a),some (.bl b'),some (.ref fl),u]/\Same H H2/\H2 fl=some (.lst (ds.map V.int))/\Digs ds (ss.take i)) ⟨_,_,_,[],rfl,aaB hfl _,aaA,.nil⟩ (fun i σ H2 _ ⟨_,_,_,_,_,s2,_⟩=>s2.seq hS) ?_ ?_⟩
  ·rintro i x σ H2 hx ⟨c',b',u,ds,rfl,s2,hf,hd⟩
   rw[List.getElem?_map] at hx
   cases e:ss[i]? with
   |none=>rw[e] at hx;cases hx
   |some z=>
    rw[e] at hx
    obtain rfl:V.int z=x:=Option.some.inj hx
    have hzz:=hz z (List.mem_of_getElem? e)
    have et:ss.take (i+1)=ss.take i++[z]:=by rw[List.take_succ,e];rfl
    have hdl:(ds.map V.int).length<sizeLine:=by
     have q1:=hd.len
     rw[List.length_take] at q1
     rw[List.length_map,sizeLine_eq]
     omega
    have app:∀d:Int,(ds.map V.int)++[V.int d]=(ds++[d]).map V.int:=fun d=>by rw[List.map_append];rfl
    refine⟨_,rfl,_,rfl,?_⟩
    cases b' with
    |true=>
     refine abZ ⟨_,rfl,_,rfl,fun r hr0 hr1=>?_⟩
     refine⟨_,rfl,.inl ⟨rfl,_,SqL.of hf⟩,_,rfl,_,_,rfl,rfl,⟨by decide,by decide⟩,_,rfl,_,_,rfl,rfl,hzz.1,fl,_,_,rfl,rfl,hf,hdl,?_⟩
     refine⟨_,_,_,ds++[r / 8%z],rfl,abH hfl s2,by rw[app];exact aaA,?_⟩
     rw[et]
     exact hd.snoc (Int.emod_nonneg _ (Int.ne_of_gt hzz.1)) (Int.emod_lt_of_pos _ hzz.1)
    |false=>
     refine aa7 ⟨_,rfl,.inl ⟨rfl,_,SqL.of hf⟩,_,rfl,_,rfl,_,_,rfl,rfl,hzz.1,fl,_,_,rfl,rfl,hf,hdl,?_⟩
     refine⟨_,rfl,_,rfl,_,_,rfl,rfl,hzz,?_⟩
     refine⟨_,_,_,ds++[c'%z],rfl,abH hfl s2,by rw[app];exact aaA,?_⟩
     rw[et]
     exact hd.snoc (Int.emod_nonneg _ (Int.ne_of_gt hzz.1)) (Int.emod_lt_of_pos _ hzz.1)
  ·rintro σ H2 ⟨c',b',u,ds,rfl,s2,hf,hd⟩
   rw[List.length_map,List.take_length] at hd
   exact⟨_,rfl,q ds fl H2 s2 hf hd⟩
theorem aiC:DfQ P w K mg base "_law_whole" 1 ["_law_found"] (aiK K):=by
 refine ZZ.F__law_whole.dfsQ aiN (fun vs H Q E h=>?_) (fun f cdv A outer s H vs Q hr h=>?_)
 ·obtain⟨v,k,rfl,hk,q⟩:=h
  rfl
 obtain⟨v,k,rfl,hk,q⟩:=h
 refine⟨_,(ss1 (aaH (aCS (eCB cIs ZZ.z_isinstance PyProof.Rows.boot_isinstance (aC (v_ 0) (aC (eTy ZZ.z_int PyProof.Rows.boot_int) aN))) (ap1 (eNot (eCB cIs ZZ.z_isinstance PyProof.Rows.boot_isinstance (aC (v_ 0) (aC (eTy ZZ.z_bool PyProof.Rows.boot_bool) aN)))))))),?_⟩
 refine⟨_,rfl,v,.int,k,rfl,(by decide),hk,_,rfl,?_⟩
 cases k with
 |int=>exact abZ ⟨_,rfl,v,.bool,.int,rfl,(by decide),hk,_,rfl,q⟩
 |bool=>exact abZ ⟨_,rfl,v,.bool,.bool,rfl,(by decide),hk,_,rfl,q⟩
 |str=>exact aa7 q
 |non=>exact aa7 q
 |list=>exact aa7 q
 |tuple=>exact aa7 q
 |dict=>exact aa7 q
theorem acV:Df P w K mg base "_law_item" 1 ["_law_way","_law_first","_law_last","_law_step","_law_bounds"] (ajV K):=by
 refine ZZ.F__law_item.dfs sc__law_item (fun vs H Q E h=>?_) (fun f cdv A outer s H vs Q E hr h=>?_)
 ·obtain⟨p,way,fi,la,st,lo,hi,rfl,hp,hb,q⟩:=h
  rfl
 obtain⟨p,way,fi,la,st,lo,hi,rfl,hp,hb,q⟩:=h
 refine⟨_,(ssC (ahK (v_ 4) (gTu (gsC (gN 5 sc__law_item.nd) (gsC (gN 6 sc__law_item.nd) gsN))))
   (ssC (aaK 1 (eOp abE (v_ 5) (eOp abQ (v_ 1) (eOp abE (eOp arS (v_ 6) (v_ 5)) eI))) sc__law_item.nd)
   (ssC (aaK 2 (eOp abE (v_ 1) (eOp abQ (v_ 2) (eOp abE (eOp arS (v_ 6) (v_ 1)) eI))) sc__law_item.nd)
   (ssC (sIf (tCm oEq (v_ 0) eI) (ss1 (aaH (aa9 (aC (eCT acA ZZ.z_str PyProof.Rows.boot_str (aC (v_ 1) aN)) (aC (abC (aC (v_ 1) aN)) aN))))) ssN)
   (ssC (sIf (tCm oEq (v_ 0) eI) (ss1 (aaH (aa9 (aC (eOp aa6 (eOp aa6 (eCT acA ZZ.z_str PyProof.Rows.boot_str (aC (v_ 1) aN)) (eSx [45])) (eCT acA ZZ.z_str PyProof.Rows.boot_str (aC (v_ 2) aN))) (aC (eCT cLR ZZ.z_list PyProof.Rows.boot_list (aC (eCT aFC ZZ.z_range boot_range (aC (v_ 1) (aC (eOp abE (v_ 2) eI) aN))) aN)) aN))))) ssN)
   (ssC (aaK 3 (eOp abE eI (eOp abQ (v_ 3) (eIx xL (abC (aC eI (aC eI aN))) (eOp abQ (v_ 0) eI)))) sc__law_item.nd)
   (ssC (sIf (tCm oLt (v_ 0) eI) (ss1 (aaH (aa9 (aC (eOp aa6 (eOp aa6 (eCT acA ZZ.z_str PyProof.Rows.boot_str (aC (v_ 1) aN)) (eSx [47])) (eCT acA ZZ.z_str PyProof.Rows.boot_str (aC (v_ 3) aN))) (aC (eCT cLR ZZ.z_list PyProof.Rows.boot_list (aC (eCT auX ZZ.z_range boot_range (aC (v_ 1) (aC (eOp abE (v_ 6) eI) (aC (v_ 3) aN)))) aN)) aN))))) ssN)
   (ssC (sIf (tCm oLt (v_ 0) eI) (ss1 (aaH (aa9 (aC (eOp aa6 (eOp aa6 (eOp aa6 (eOp aa6 (eCT acA ZZ.z_str PyProof.Rows.boot_str (aC (v_ 1) aN)) (eSx [45])) (eCT acA ZZ.z_str PyProof.Rows.boot_str (aC (v_ 2) aN))) (eSx [47])) (eCT acA ZZ.z_str PyProof.Rows.boot_str (aC (v_ 3) aN))) (aC (eCT cLR ZZ.z_list PyProof.Rows.boot_list (aC (eCT auX ZZ.z_range boot_range (aC (v_ 1) (aC (eOp abE (v_ 2) eI) (aC (v_ 3) aN)))) aN)) aN))))) ssN)
   (ss1 (aaH (aa9 (aC (eOp aa6 (eSx [42,47]) (eCT acA ZZ.z_str PyProof.Rows.boot_str (aC (v_ 3) aN))) (aC (eCT cLR ZZ.z_list PyProof.Rows.boot_list (aC (eCT auX ZZ.z_range boot_range (aC (v_ 5) (aC (eOp abE (v_ 6) eI) (aC (v_ 3) aN)))) aN)) aN))))))))))))),?_⟩
 have p1:0<hi-lo+1:=by omega
 have m0:=Int.emod_nonneg fi (show (hi-lo+1)≠0 by omega)
 have m1:=Int.emod_lt_of_pos fi p1
 refine⟨_,rfl,p,_,rfl,hp,rfl,_,_,rfl,_,_,rfl,rfl,?_⟩
 refine⟨_,rfl,_,rfl,_,rfl,_,rfl,_,_,rfl,rfl,_,_,rfl,rfl,_,_,rfl,rfl,p1,_,_,rfl,rfl,?_⟩
 obtain⟨A,eA⟩:∃A,A=lo+fi%(hi-lo+1):=⟨_,rfl⟩
 have a1:lo<=A/\A<=hi:=by omega
 show abS 1 (V.int (lo+fi%(hi-lo+1))) _ _ _
 rw[←eA]
 have p2:0<hi-A+1:=by omega
 have n0:=Int.emod_nonneg la (show (hi-A+1)≠0 by omega)
 have n1:=Int.emod_lt_of_pos la p2
 refine⟨_,rfl,_,rfl,_,rfl,_,rfl,_,_,rfl,rfl,_,_,rfl,rfl,_,_,rfl,rfl,p2,_,_,rfl,rfl,?_⟩
 obtain⟨B,eB⟩:∃B,B=A+la%(hi-A+1):=⟨_,rfl⟩
 have b1:A<=B/\B<=hi:=by omega
 show abS 2 (V.int (A+la%(hi-A+1))) _ _ _
 rw[←eB]
 have sm:∀z:Int,0<=z->z<=99->z.toNat<10^500/\[V.int z]=[V.int (z.toNat:Nat)]:=fun z h1 h2=>⟨Nat.lt_of_lt_of_le (show z.toNat<100 by omega) (by decide +kernel),by rw[Int.toNat_of_nonneg h1]⟩
 have nl:∀z:Int,0<=z->z<=99->(num z.toNat).length<=2:=fun z h1 h2=>(afK _ (by omega)).2.2.2
 have z4':∀{n m:Nat},n<=20->m<=20->n+m<=sizeLine:=fun {n m} h1 h2=>by rw[sizeLine_eq];omega
 have hA0:0<=A:=Int.le_trans hb.1 a1.1
 have hA31:A<=63:=Int.le_trans a1.2 hb.2.2
 have hB0:0<=B:=Int.le_trans hA0 b1.1
 have hB31:B<=63:=Int.le_trans b1.2 hb.2.2
 have hl31:lo<=63:=Int.le_trans hb.2.1 hb.2.2
 have hh0:0<=hi:=Int.le_trans hb.1 hb.2.1
 have up:∀{z:Int},z<=63->z<=1000/\z<=99:=fun h=>⟨Int.le_trans h (by decide),Int.le_trans h (by decide)⟩
 have dn:∀{z:Int},0<=z-> -1<=z:=fun h=>Int.le_trans (by decide) h
 have tn:∀{n:Nat},n<=1001->n<=100000:=fun h=>Nat.le_trans h (by decide)
 have t2:∀{n:Nat},n<=2->n<=20/\n+1<=20:=fun h=>⟨Nat.le_trans h (by decide),Nat.le_trans (Nat.add_le_add_right h 1) (by decide)⟩
 have t5:∀{n m:Nat},n<=2->m<=2->n+1+m<=20/\n+1+m+1<=20:=fun h h'=>⟨Nat.le_trans (Nat.add_le_add (Nat.add_le_add_right h 1) h') (by decide),Nat.le_trans (Nat.add_le_add_right (Nat.add_le_add (Nat.add_le_add_right h 1) h') 1) (by decide)⟩
 clear m0 m1 n0 n1 p1 p2 eA eB
 have qA:=sm A hA0 (up hA31).2
 have qB:=sm B hB0 (up hB31).2
 have lA:=nl A hA0 (up hA31).2
 have lB:=nl B hB0 (up hB31).2
 refine⟨_,rfl,rfl,_,rfl,ifI (fun c=>?g0) (fun c0=>⟨_,rfl,rfl,_,rfl,ifI (fun c=>?g1) (fun c1=>?_)⟩)⟩
 case g0=>
  refine⟨_,rfl,A.toNat,qA.2,qA.1,_,rfl,(by show 1<=sizeLine;decide),fun u hu=>⟨(by show 2<=sizeLine;decide),fun t ht=>?_⟩⟩
  exact q t u _ [A] _ ((aaB hu _).trans (aaB ht _)) aaA ((aaB ht _) _ _ aaA) (i1 hb.1 a1.1 a1.2 hb.2.2) (alY (n42 (by omega)))
 case g1=>
  have n2:=acZ (a:=A) (b:=B) (s:=1) hA0 (up hB31).1 (by decide)
  refine⟨_,rfl,A.toNat,qA.2,qA.1,_,_,rfl,rfl,z4' (t2 lA).1 (by decide),_,rfl,B.toNat,qB.2,qB.1,_,_,rfl,rfl,z4' (by rw[List.length_append];exact (t2 lA).2) (t2 lB).1,_,rfl,_,rfl,_,_,rfl,rfl,_,_,rfl,fun r hr=>⟨r,A,B+1,1,(Builtin.Range.rangeSize A (B+1) 1).toNat,rfl,aaA,acO hA0 (up hA31).1 (dn hB0) (up hB31).1 (by decide) (by decide),n2.2,tn n2.1,fun u hu=>⟨(by show 2<=sizeLine;decide),fun t ht=>?_⟩⟩⟩
  exact q t u _ (ab5 A B 1) _ ((aaB hr _).trans ((aaB hu _).trans (aaB ht _))) aaA ((aaB ht _) _ _ (by rw[abV,List.map_map];exact aaA)) (by rw[List.append_assoc];exact i2 hb.1 a1.1 b1.1 b1.2 hb.2.2) (alY (c42 (c42 (n42 (by omega)) (by decide)) (n42 (by omega))))
 have w0:=Int.emod_nonneg way (show (2:Int)≠0 by decide)
 have w1:=Int.emod_lt_of_pos way (show (0:Int)<2 by decide)
 obtain⟨v,hv,hor⟩:=at2 (i:=way%2) (x:=V.int 99) (y:=V.int 5) w0 w1
 obtain⟨k,ek,k0,k1⟩:∃k:Int,v=V.int k/\0<k/\k<=99:=by
  rcases hor with rfl | rfl
  ·exact⟨99,rfl,by decide,by decide⟩
  ·exact⟨5,rfl,by decide,by decide⟩
 subst ek
 refine⟨_,rfl,(by show 2<=sizeLine;decide),fun l1 hl1=>⟨_,rfl,_,_,rfl,rfl,(by show (0:Int)<2;decide),l1,_,_,_,rfl,rfl,SqL.of aaA,hv,_,_,rfl,rfl,k0,_,_,rfl,rfl,?_⟩⟩
 have s0:=Int.emod_nonneg st (show k≠0 by omega)
 have s1:=Int.emod_lt_of_pos st k0
 obtain⟨S,eS⟩:∃S,S=1+st%k:=⟨_,rfl⟩
 have ss:1<=S/\S<=99:=by omega
 have hS0:0<S:=Int.lt_of_lt_of_le (by decide) ss.1
 have hSm:S<=1000:=Int.le_trans ss.2 (by decide)
 have hSx:S<1073741824:=Int.lt_of_le_of_lt ss.2 (by decide)
 show abS 3 (V.int (1+st%k)) _ _ _
 rw[←eS]
 have sl:=aaB hl1 (.lst [V.int 99,V.int 5])
 clear s0 s1 eS
 have qS:=sm S (Int.le_of_lt hS0) ss.2
 have lS:=nl S (Int.le_of_lt hS0) ss.2
 refine⟨_,rfl,_,_,rfl,rfl,_,rfl,ifD (fun c=>?g2) (fun c2=>⟨_,rfl,_,_,rfl,rfl,_,rfl,ifD (fun c=>?g3) (fun c3=>?g4)⟩)⟩
 case g2=>
  have n2:=acZ (a:=A) (b:=hi) (s:=S) hA0 (up hb.2.2).1 hS0
  refine⟨_,rfl,A.toNat,qA.2,qA.1,_,_,rfl,rfl,z4' (t2 lA).1 (by decide),_,rfl,S.toNat,qS.2,qS.1,_,_,rfl,rfl,z4' (by rw[List.length_append];exact (t2 lA).2) (t2 lS).1,_,rfl,_,rfl,_,_,rfl,rfl,_,rfl,_,_,_,rfl,⟨hS0,hSx⟩,fun r hr=>⟨r,A,hi+1,S,(Builtin.Range.rangeSize A (hi+1) S).toNat,rfl,aaA,acO hA0 (up hA31).1 (dn hh0) (up hb.2.2).1 hS0 hSm,n2.2,tn n2.1,fun u hu=>⟨(by show 2<=sizeLine;decide),fun t ht=>?_⟩⟩⟩
  exact q t u _ (ab5 A hi S) _ (sl.trans ((aaB hr _).trans ((aaB hu _).trans (aaB ht _)))) aaA ((aaB ht _) _ _ (by rw[abV,List.map_map];exact aaA)) (by rw[List.append_assoc];exact i4 hb.1 a1.1 a1.2 hb.2.2 ss) (alY (c42 (c42 (n42 (by omega)) (by decide)) (n42 (by omega))))
 case g3=>
  have n2:=acZ (a:=A) (b:=B) (s:=S) hA0 (up hB31).1 hS0
  refine⟨_,rfl,A.toNat,qA.2,qA.1,_,_,rfl,rfl,z4' (t2 lA).1 (by decide),_,rfl,B.toNat,qB.2,qB.1,_,_,rfl,rfl,z4' (by rw[List.length_append];exact (t2 lA).2) (t2 lB).1,_,_,rfl,rfl,z4' (by rw[List.length_append,List.length_append];exact (t5 lA lB).1) (by decide),_,rfl,S.toNat,qS.2,qS.1,_,_,rfl,rfl,z4' (by rw[List.length_append,List.length_append,List.length_append];exact (t5 lA lB).2) (t2 lS).1,_,rfl,_,rfl,_,_,rfl,rfl,_,rfl,_,_,_,rfl,⟨hS0,hSx⟩,fun r hr=>⟨r,A,B+1,S,(Builtin.Range.rangeSize A (B+1) S).toNat,rfl,aaA,acO hA0 (up hA31).1 (dn hB0) (up hB31).1 hS0 hSm,n2.2,tn n2.1,fun u hu=>⟨(by show 2<=sizeLine;decide),fun t ht=>?_⟩⟩⟩
  have e5:((num A.toNat++[45])++num B.toNat++[47])++num S.toNat=(num A.toNat++45::num B.toNat)++47::num S.toNat:=by simp
  exact q t u _ (ab5 A B S) _ (sl.trans ((aaB hr _).trans ((aaB hu _).trans (aaB ht _)))) aaA ((aaB ht _) _ _ (by rw[abV,List.map_map];exact aaA)) (by rw[e5];exact i5 hb.1 a1.1 b1.1 b1.2 hb.2.2 ss) (alY (c42 (c42 (c42 (c42 (n42 (by omega)) (by decide)) (n42 (by omega))) (by decide)) (n42 (by omega))))
 case g4=>
  have n2:=acZ (a:=lo) (b:=hi) (s:=S) hb.1 (up hb.2.2).1 hS0
  refine⟨_,rfl,S.toNat,qS.2,qS.1,_,_,rfl,rfl,z4' (by decide) (t2 lS).1,_,rfl,_,rfl,_,_,rfl,rfl,_,rfl,_,_,_,rfl,⟨hS0,hSx⟩,fun r hr=>⟨r,lo,hi+1,S,(Builtin.Range.rangeSize lo (hi+1) S).toNat,rfl,aaA,acO hb.1 (up hl31).1 (dn hh0) (up hb.2.2).1 hS0 hSm,n2.2,tn n2.1,fun u hu=>⟨(by show 2<=sizeLine;decide),fun t ht=>?_⟩⟩⟩
  exact q t u _ (ab5 lo hi S) _ (sl.trans ((aaB hr _).trans ((aaB hu _).trans (aaB ht _)))) aaA ((aaB ht _) _ _ (by rw[abV,List.map_map];exact aaA)) (i3 hb.1 hb.2.1 hb.2.2 ss) (fun e=>by have:=congrArg List.length e;simp at this)
theorem abY:Df P w K mg base "_law_mask" 1 ["_law_numbers"] (aj2 K):=by
 refine ZZ.F__law_mask.dfs akX (fun vs H Q E h=>?_) (fun f cdv A outer s H vs Q E hr h=>?_)
 ·obtain⟨a,ns,rfl,hS,hlen,hin,q⟩:=h
  rfl
 obtain⟨a,ns,rfl,hS,hlen,hin,q⟩:=h
 refine⟨_,(ss1 (aaH (eCB cSum ZZ.z_sum PyProof.Rows.boot_sum (aC (ag9 [] [] (iL (eCB cSrt ZZ.z_sorted PyProof.Rows.boot_sorted (aC (eCT cSet ZZ.z_set PyProof.Rows.boot_set (aC (v_ 0) aN)) aN))) (fun _ _ _ _ _ _=>fsN) (fun _ _ _ _ _ _=>(eOp aCR eI (v_ 0)))) aN)))),?_⟩
 refine⟨_,rfl,a,ns,rfl,hS,(by omega),fun st hst=>⟨st,ns,rfl,aaA,(fun x hx=>by have:=hin x hx;omega),fun so zs hso hpw hmem=>?_⟩⟩
 have hz:∀d∈zs,0<=d/\d<=62:=fun d hd=>hin d ((hmem d).mp hd)
 have hzl:=aqV (n:=63) 0 hpw (fun d hd=>by have:=hz d hd;omega) (by decide)
 have s1:=(aaB hst (stO P w st ns)).trans (aaB hso (.lst (zs.map V.int)))
 refine⟨so,rfl,⟨_,SqL.of aaA⟩,acP (xs:=zs.map V.int) (fun i z=>z=((zs.take i).map fun d=>V.int (1*2^d.toNat))) (by rw[List.length_map,sizeLine_eq];omega) rfl (SqL.of aaA) ?_ ?_⟩
 ·intro i v z D H2 E' F' hv hR hD s2 hz2 hE hF
  subst hR
  rw[List.getElem?_map] at hv
  cases ez:zs[i]? with
  |none=>rw[ez] at hv;cases hv
  |some d=>
   rw[ez] at hv
   obtain rfl:V.int d=v:=Option.some.inj hv
   have hd:=hz d (List.mem_of_getElem? ez)
   exact⟨_,rfl,_,_,rfl,rfl,⟨hd.1,by omega,by decide⟩,hE _ _ (Same.refl _) (by rw[List.take_succ,ez,List.map_append];rfl)⟩
 ·intro D H2 z hR hD s2 hz2
  subst hR
  rw[List.length_map,List.take_length] at hz2
  refine⟨D,zs.map fun d=>1*2^d.toNat,rfl,SqL.of (by rw[hz2,List.map_map];rfl),?_⟩
  exact q zs H2 hpw hmem (s1.trans s2)
theorem aj6:Df P w K mg base "_law_spec" 2 ["_law_parts","_law_week"] (akP K):=by
 refine ZZ.F__law_spec.dfs sc__law_spec (fun vs H Q E h=>?_) (fun f cdv A outer s H vs Q E hr h=>?_)
 ·obtain⟨p,b,way,fi,la,st,rfl,hp,hw,q⟩:=h
  rfl
 obtain⟨p,b,way,fi,la,st,rfl,hp,hw,q⟩:=h
 refine⟨_,(ssC (ahK (v_ 0) (aEN (gsC (gN 2 sc__law_spec.nd) (gsC (gN 3 sc__law_spec.nd) (gsC (gN 4 sc__law_spec.nd) (gsC (gN 5 sc__law_spec.nd) gsN))))))
   (ssC (sIf (tVa (v_ 1)) (ssC (aaK 6 (eOp abQ (v_ 3) eI) sc__law_spec.nd)
   (ssC (sIf (tCm oLt (v_ 2) eI) (ss1 (aaH (aa9 (aC (eOp aa6 (eOp aa6 (eCT acA ZZ.z_str PyProof.Rows.boot_str (aC (v_ 6) aN)) (eSx [35])) (eCT acA ZZ.z_str PyProof.Rows.boot_str (aC (eOp abE eI (eOp abQ (v_ 4) eI)) aN))) (aC (aa9 (aC (eSx [110,116,104]) (aC (eOp abQ (v_ 6) eI) (aC (eOp abE eI (eOp abQ (v_ 4) eI)) aN)))) aN))))) ssN)
   (ssC (sIf (tCm oLt (v_ 2) eI) (ss1 (aaH (aa9 (aC (eOp aa6 (eCT acA ZZ.z_str PyProof.Rows.boot_str (aC (v_ 6) aN)) (eSx [76])) (aC (aa9 (aC (eSx [108,97,115,116,111,110,101]) (aC (eOp abQ (v_ 6) eI) (aC eI aN)))) aN))))) ssN)
   (ssC (ahK (eD (acV ZZ) hr (aC (eIx xL (abC (aC (eOp arS (v_ 2) eI) (aC eI aN))) (eCT ay5 ZZ.z_int PyProof.Rows.boot_int (aC (akO oGt (v_ 2) eI) aN))) (aC (v_ 3) (aC (v_ 4) (aC (v_ 5) (aC (aa9 (aC eI (aC eI aN))) aN)))))) (gTu (gsC (gN 7 sc__law_spec.nd) (gsC (gN 8 sc__law_spec.nd) gsN))))
   (ss1 (aaH (aa9 (aC (v_ 7) (aC (aa9 (aC (eSx [112,108,97,105,110]) (aC (eD (abY ZZ) hr (aC (ag9 [] [] (iL (v_ 8)) (fun _ _ _ _ _ _=>fsN) (fun _ _ _ _ _ _=>(eOp abQ (v_ 0) eI))) aN)) (aC eI aN)))) aN))))))))) ssN)
   (ssC (sIf (tCm oEq (v_ 2) eI) (ss1 (aaH (aa9 (aC (eSx [76]) (aC (aa9 (aC (eSx [108,97,115,116]) (aC eI (aC eI aN)))) aN))))) ssN)
   (ssC (sIf (tCm oLt (v_ 2) eI) (ss1 (aaH (aa9 (aC (eOp aa6 (eSx [76,45]) (eCT acA ZZ.z_str PyProof.Rows.boot_str (aC (eOp abE eI (eOp abQ (v_ 3) eI)) aN))) (aC (aa9 (aC (eSx [108,97,115,116]) (aC (eOp abE eI (eOp abQ (v_ 3) eI)) (aC eI aN)))) aN))))) ssN)
   (ssC (sIf (tCm oLt (v_ 2) eI) (ss1 (aaH (aa9 (aC (eOp aa6 (eCT acA ZZ.z_str PyProof.Rows.boot_str (aC (eOp abE eI (eOp abQ (v_ 3) eI)) aN)) (eSx [87])) (aC (aa9 (aC (eSx [110,101,97,114]) (aC (eOp abE eI (eOp abQ (v_ 3) eI)) (aC eI aN)))) aN))))) ssN)
   (ssC (sIf (tCm oEq (v_ 2) eI) (ss1 (aaH (aa9 (aC (eSx [76,87]) (aC (aa9 (aC (eSx [119,111,114,107]) (aC eI (aC eI aN)))) aN))))) ssN)
   (ssC (ahK (eD (acV ZZ) hr (aC (eIx xL (abC (aC (eOp arS (v_ 2) eI) (aC eI aN))) (eCT ay5 ZZ.z_int PyProof.Rows.boot_int (aC (akO oGt (v_ 2) eI) aN))) (aC (v_ 3) (aC (v_ 4) (aC (v_ 5) (aC (aa9 (aC eI (aC eI aN))) aN)))))) (gTu (gsC (gN 7 sc__law_spec.nd) (gsC (gN 8 sc__law_spec.nd) gsN))))
   (ss1 (aaH (aa9 (aC (v_ 7) (aC (aa9 (aC (eSx [112,108,97,105,110]) (aC (eD (abY ZZ) hr (aC (v_ 8) aN)) (aC eI aN)))) aN)))))))))))),?_⟩
 have sm:∀z:Int,0<=z->z<=99->z.toNat<10^500/\[V.int z]=[V.int (z.toNat:Nat)]:=fun z h1 h2=>⟨Nat.lt_of_lt_of_le (show z.toNat<100 by omega) (by decide +kernel),by rw[Int.toNat_of_nonneg h1]⟩
 have nl:∀z:Int,0<=z->z<=99->(num z.toNat).length<=2:=fun z h1 h2=>(afK _ (by omega)).2.2.2
 have z4':∀{n m:Nat},n<=20->m<=20->n+m<=sizeLine:=fun {n m} h1 h2=>by rw[sizeLine_eq];omega
 refine⟨_,rfl,p,_,rfl,hp,rfl,_,_,rfl,_,_,rfl,_,_,rfl,_,_,rfl,rfl,?_⟩
 refine⟨_,rfl,_,rfl,?_⟩
 cases b with
 |true=>
  refine abZ ⟨_,rfl,_,_,rfl,rfl,(by show (0:Int)<8;decide),?_⟩
  have d0:=Int.emod_nonneg fi (show (8:Int)≠0 by decide)
  have d1:=Int.emod_lt_of_pos fi (show (0:Int)<8 by decide)
  obtain⟨dy,edy⟩:∃dy,dy=fi%8:=⟨_,rfl⟩
  show abS 6 (V.int (fi%8)) _ _ _
  rw[←edy]
  have f0:=Int.emod_nonneg la (show (5:Int)≠0 by decide)
  have f1:=Int.emod_lt_of_pos la (show (0:Int)<5 by decide)
  have g0:=Int.emod_nonneg dy (show (7:Int)≠0 by decide)
  have g1:=Int.emod_lt_of_pos dy (show (0:Int)<7 by decide)
  have qD:=sm dy (by omega) (by omega)
  have lD:=nl dy (by omega) (by omega)
  have qM:=sm (1+la%5) (by omega) (by omega)
  have lM:=nl (1+la%5) (by omega) (by omega)
  refine⟨_,rfl,_,_,rfl,rfl,_,rfl,ifD (fun c=>?w0) (fun c0=>⟨_,rfl,_,_,rfl,rfl,_,rfl,ifD (fun c=>?w1) (fun c1=>?w2)⟩)⟩
  case w0=>
   refine⟨_,rfl,dy.toNat,qD.2,qD.1,_,_,rfl,rfl,z4' (by omega) (by decide),_,rfl,_,_,rfl,rfl,(by show (0:Int)<5;decide),_,_,rfl,rfl,(1+la%5).toNat,qM.2,qM.1,_,_,rfl,rfl,z4' (by rw[List.length_append];show _+1<=20;omega) (by omega),_,rfl,_,_,rfl,rfl,(by show (0:Int)<7;decide),_,rfl,_,_,rfl,rfl,(by show (0:Int)<5;decide),_,_,rfl,rfl,(by show 3<=sizeLine;decide),fun u hu=>⟨(by show 2<=sizeLine;decide),fun t ht=>?_⟩⟩
   have z:=aHW dy.toNat (by omega) (1+la%5).toNat (by omega) (by omega)
   rw[Int.toNat_of_nonneg (by omega),Int.toNat_of_nonneg (by omega)] at z
   exact q t u _ (.nth (dy%7) (1+la%5)) _ ((aaB hu _).trans (aaB ht _)) aaA ((aaB ht _) _ _ aaA) ⟨⟨by omega,by omega⟩,by omega,by omega⟩ rfl rfl z.1 z.2 (alY (c42 (c42 (n42 (by omega)) (by decide)) (n42 (by omega))))
  case w1=>
   refine⟨_,rfl,dy.toNat,qD.2,qD.1,_,_,rfl,rfl,z4' (by omega) (by decide),_,rfl,_,_,rfl,rfl,(by show (0:Int)<7;decide),(by show 3<=sizeLine;decide),fun u hu=>⟨(by show 2<=sizeLine;decide),fun t ht=>?_⟩⟩
   have z:=aHV dy.toNat (by omega)
   rw[Int.toNat_of_nonneg (by omega)] at z
   exact q t u _ (.one (dy%7)) _ ((aaB hu _).trans (aaB ht _)) aaA ((aaB ht _) _ _ aaA) ⟨by omega,by omega⟩ rfl rfl z.1 z.2 (alY (c42 (n42 (by omega)) (by decide)))
  case w2=>
   refine⟨_,rfl,_,_,rfl,rfl,(by show 2<=sizeLine;decide),fun l1 hl1=>?_⟩
   obtain⟨x,hx⟩:∃x:Int,atI [V.int (way-6),V.int 1] (if decide (13<way) then 1 else 0)=some (V.int x):=by
    by_cases c:13<way
    ·rw[decide_eq_true c];exact⟨1,rfl⟩
    ·rw[decide_eq_false c];exact⟨_,rfl⟩
   have s1:=aaB hl1 (.lst [V.int (way-6),V.int 1])
   refine⟨_,rfl,_,_,rfl,rfl,.inr ⟨_,rfl,l1,_,_,_,rfl,rfl,SqL.of aaA,hx,_,rfl,_,rfl,_,rfl,(by show 2<=sizeLine;decide),fun tb htb=>?_⟩⟩
   have s2:=s1.trans (aaB htb (.tup [V.int 0,V.int 7]))
   refine⟨tb,x,fi,la,st,0,7,rfl,SqT.of aaA,⟨by decide,by decide,by decide⟩,fun t u tw ns H3 s3 ht hu it h42=>?_⟩
   have hin:=it.2.2.1
   have hlen:=it.2.2.2.2
   refine⟨t,_,rfl,SqT.of ht,rfl,_,_,rfl,_,_,rfl,rfl,?_⟩
   refine⟨_,rfl,_,rfl,u,rfl,⟨_,SqL.of hu⟩,acP (xs:=ns.map V.int) (fun i z=>z=((ns.take i).map fun d=>V.int (d%7))) (by rw[List.length_map,sizeLine_eq];omega) rfl (SqL.of hu) ?_ ?_⟩
   ·intro i v z D H4 E' F' hv hR hD s4 hz hE hF
    subst hR
    rw[List.getElem?_map] at hv
    cases ez:ns[i]? with
    |none=>rw[ez] at hv;cases hv
    |some d=>
     rw[ez] at hv
     obtain rfl:V.int d=v:=Option.some.inj hv
     exact⟨_,rfl,_,_,rfl,rfl,(by show (0:Int)<7;decide),hE _ _ (Same.refl _) (by rw[List.take_succ,ez,List.map_append];rfl)⟩
   ·intro D H4 z hR hD s4 hz
    subst hR
    rw[List.length_map,List.take_length] at hz
    have hm7:∀n∈ns.map (fun d=>d%7),0<=n/\n<=6:=fun n hn=>by
     obtain⟨d,_,rfl⟩:=List.mem_map.mp hn
     show 0<=d%7/\d%7<=6
     omega
    refine⟨D,ns.map (fun d=>d%7),rfl,SqL.of (by rw[hz,List.map_map];rfl),(by rw[List.length_map];omega),(fun n hn=>by have:=hm7 n hn;omega),fun zs H5 hpw hmem s5=>⟨(by show 3<=sizeLine;decide),fun u' hu'=>⟨(by show 2<=sizeLine;decide),fun t' ht'=>?_⟩⟩⟩
    have hb:=an8 (n:=7) 0 hpw (fun d hd=>by have:=hm7 d ((hmem d).mp hd);omega) (by decide)
    have e128:(2:Int)^7=128:=by decide
    have e1:(2:Int)^0=1:=by decide
    have hlt:=aeY (n:=8) (fun z hz=>by have:=hin z hz;omega)
    have e256:(2:Int)^8=256:=by decide
    exact q t' u' _ (.wkd (adL zs)) _ (s2.trans (s3.trans (s4.trans (s5.trans ((aaB hu' _).trans (aaB ht' _)))))) aaA ((aaB ht' _) _ _ aaA) ⟨anU _,by omega⟩ rfl rfl ⟨rfl,aa4 ns,it.1,⟨adW it.2.2.2.1 (fun n hn=>(hin n hn).1),by omega⟩,avI hpw hmem hin⟩ it.2.1 h42
 |false=>
  refine aa7 ?_
  have f0:=Int.emod_nonneg fi (show (30:Int)≠0 by decide)
  have f1:=Int.emod_lt_of_pos fi (show (0:Int)<30 by decide)
  have g0:=Int.emod_nonneg fi (show (31:Int)≠0 by decide)
  have g1:=Int.emod_lt_of_pos fi (show (0:Int)<31 by decide)
  have qD:=sm (1+fi%30) (by omega) (by omega)
  have lD:=nl (1+fi%30) (by omega) (by omega)
  have qM:=sm (1+fi%31) (by omega) (by omega)
  have lM:=nl (1+fi%31) (by omega) (by omega)
  refine⟨_,rfl,rfl,_,rfl,ifI (fun c=>?m0) (fun c0=>⟨_,rfl,_,_,rfl,rfl,_,rfl,ifD (fun c=>?m1) (fun c1=>⟨_,rfl,_,_,rfl,rfl,_,rfl,ifD (fun c=>?m2) (fun c2=>⟨_,rfl,rfl,_,rfl,ifI (fun c=>?m3) (fun c3=>?m4)⟩)⟩)⟩)⟩
  case m0=>
   refine⟨(by show 3<=sizeLine;decide),fun u hu=>⟨(by show 2<=sizeLine;decide),fun t ht=>?_⟩⟩
   exact q t u _ (.lst 0) _ ((aaB hu _).trans (aaB ht _)) aaA ((aaB ht _) _ _ aaA) ⟨by decide,by decide⟩ rfl rfl aqP.1 aqP.2 (by decide)
  case m1=>
   refine⟨_,rfl,_,_,rfl,rfl,(by show (0:Int)<30;decide),_,_,rfl,rfl,(1+fi%30).toNat,qD.2,qD.1,_,_,rfl,rfl,z4' (by decide) (by omega),_,rfl,_,_,rfl,rfl,(by show (0:Int)<30;decide),_,_,rfl,rfl,(by show 3<=sizeLine;decide),fun u hu=>⟨(by show 2<=sizeLine;decide),fun t ht=>?_⟩⟩
   have z:=ay8 (1+fi%30).toNat (by omega) (by omega)
   rw[Int.toNat_of_nonneg (by omega)] at z
   exact q t u _ (.lst (1+fi%30)) _ ((aaB hu _).trans (aaB ht _)) aaA ((aaB ht _) _ _ aaA) ⟨by omega,by omega⟩ rfl rfl z.1 z.2 (alY (c42 (by decide) (n42 (by omega))))
  case m2=>
   refine⟨_,rfl,_,_,rfl,rfl,(by show (0:Int)<31;decide),_,_,rfl,rfl,(1+fi%31).toNat,qM.2,qM.1,_,_,rfl,rfl,z4' (by omega) (by decide),_,rfl,_,_,rfl,rfl,(by show (0:Int)<31;decide),_,_,rfl,rfl,(by show 3<=sizeLine;decide),fun u hu=>⟨(by show 2<=sizeLine;decide),fun t ht=>?_⟩⟩
   have z:=aCU (1+fi%31).toNat (by omega) (by omega)
   rw[Int.toNat_of_nonneg (by omega)] at z
   exact q t u _ (.nea (1+fi%31)) _ ((aaB hu _).trans (aaB ht _)) aaA ((aaB ht _) _ _ aaA) ⟨by omega,by omega⟩ rfl rfl z.1 z.2 (alY (c42 (n42 (by omega)) (by decide)))
  case m3=>
   refine⟨(by show 3<=sizeLine;decide),fun u hu=>⟨(by show 2<=sizeLine;decide),fun t ht=>?_⟩⟩
   exact q t u _ .wrk _ ((aaB hu _).trans (aaB ht _)) aaA ((aaB ht _) _ _ aaA) trivial rfl rfl apR.1 apR.2 (by decide)
  case m4=>
   refine⟨_,rfl,_,_,rfl,rfl,(by show 2<=sizeLine;decide),fun l1 hl1=>?_⟩
   obtain⟨x,hx⟩:∃x:Int,atI [V.int (way-6),V.int 1] (if decide (13<way) then 1 else 0)=some (V.int x):=by
    by_cases c:13<way
    ·rw[decide_eq_true c];exact⟨1,rfl⟩
    ·rw[decide_eq_false c];exact⟨_,rfl⟩
   have s1:=aaB hl1 (.lst [V.int (way-6),V.int 1])
   refine⟨_,rfl,_,_,rfl,rfl,.inr ⟨_,rfl,l1,_,_,_,rfl,rfl,SqL.of aaA,hx,_,rfl,_,rfl,_,rfl,(by show 2<=sizeLine;decide),fun tb htb=>?_⟩⟩
   have s2:=s1.trans (aaB htb (.tup [V.int 1,V.int 31]))
   refine⟨tb,x,fi,la,st,1,31,rfl,SqT.of aaA,⟨by decide,by decide,by decide⟩,fun t u tw ns H3 s3 ht hu it h42=>?_⟩
   have hin:=it.2.2.1
   have hlen:=it.2.2.2.2
   refine⟨t,_,rfl,SqT.of ht,rfl,_,_,rfl,_,_,rfl,rfl,?_⟩
   refine⟨_,rfl,_,rfl,u,ns,rfl,SqL.of hu,(by omega),(fun n hn=>by have:=hin n hn;omega),fun zs H5 hpw hmem s5=>⟨(by show 3<=sizeLine;decide),fun u' hu'=>⟨(by show 2<=sizeLine;decide),fun t' ht'=>?_⟩⟩⟩
   have em:=adT hpw hmem (fun n hn=>by have:=hin n hn;omega)
   exact q t' u' _ (.num (adL zs)) _ (s2.trans (s3.trans (s5.trans ((aaB hu' _).trans (aaB ht' _))))) aaA ((aaB ht' _) _ _ aaA) (anU _) rfl rfl ⟨rfl,by rw[em];exact it.1,by rw[em];exact adW it.2.2.2.1 (fun n hn=>by have:=hin n hn;omega)⟩ it.2.1 h42
theorem acH:Df P w K mg base "_law_field" 3 ["_law_cell","_law_low","_law_high","_law_mixed"] (aiD K):=by
 refine ZZ.F__law_field.dfs sc__law_field (fun vs H Q E h=>?_) (fun f cdv A outer s H vs Q E hr h=>?_)
 ·obtain⟨c,lo,hi,bm,rfl,hb,q⟩:=h
  rfl
 obtain⟨c,lo,hi,bm,rfl,hb,q⟩:=h
 refine⟨_,(ssC (aaK 4 (eOp abE (eOp arS (v_ 2) (v_ 1)) eI) sc__law_field.nd)
   (ssC (aaK 5 (eD (ab0 ZZ) hr (aC (v_ 0) (aC (eOp ao0 (abC (aC eI (aC eI aN))) (eOp axR (abC (aC eI (aC (v_ 4) (aC (v_ 4) (aC eI aN))))) eI)) (aC (v_ 3) aN)))) sc__law_field.nd)
   (ssC (sIf (tCm oEq (eIx xL (v_ 5) eI) eI) (ss1 (aaH (aa9 (aC (eSx [42]) (aC (eD (abY ZZ) hr (aC (eCT cLR ZZ.z_list PyProof.Rows.boot_list (aC (eCT aFC ZZ.z_range boot_range (aC (v_ 1) (aC (eOp abE (v_ 2) eI) aN))) aN)) aN)) aN))))) ssN)
   (ssC (aaK 6 (abC aN) sc__law_field.nd)
   (ssC (aaK 7 (abC aN) sc__law_field.nd)
   (ssC (al6 (iR1 ZZ.z_range (aC (eOp abE eI (eIx xL (v_ 5) eI)) aN)) (gN 8 sc__law_field.nd) (ssC (ahK (eSl slL (v_ 5) (poS (eOp abE eI (eOp aj4 eI (v_ 8)))) (poS (eOp abE eI (eOp aj4 eI (v_ 8))))) (aEN (gsC (gN 9 sc__law_field.nd) (gsC (gN 10 sc__law_field.nd) (gsC (gN 11 sc__law_field.nd) (gsC (gN 12 sc__law_field.nd) gsN))))))
   (ssC (ahK (eD (acV ZZ) hr (aC (v_ 9) (aC (v_ 10) (aC (v_ 11) (aC (v_ 12) (aC (aa9 (aC (v_ 1) (aC (v_ 2) aN))) aN)))))) (gTu (gsC (gN 13 sc__law_field.nd) (gsC (gN 14 sc__law_field.nd) gsN))))
   (ssC (ao8 (apG (v_ 6) (v_ 13)))
   (ss1 (aaK 7 (eOp aEZ (v_ 7) (v_ 14)) sc__law_field.nd))))) PassesOwn.never)
   (ss1 (aaH (aa9 (aC (ac9 (eSx [44]) (v_ 6)) (aC (eD (abY ZZ) hr (aC (v_ 7) aN)) aN))))))))))),?_⟩
 have hwd:(0:Int)<hi-lo+1/\hi-lo+1<1073741824:=by omega
 refine⟨_,rfl,_,rfl,_,_,rfl,rfl,_,_,rfl,rfl,?_⟩
 obtain⟨W,eW⟩:∃W,W=hi-lo+1:=⟨_,rfl⟩
 show abS 4 (V.int (hi-lo+1)) _ _ _
 rw[←eW]
 have e18:∀z∈([5,4,8,W,W,99,8,W,W,99,8,W,W,99,8,W,W,99]:List Int),0<z/\z<1073741824:=fun z hz=>by
  simp only[List.mem_cons,List.not_mem_nil,or_false] at hz
  omega
 refine⟨_,rfl,(by show 2<=sizeLine;decide),fun x1 n1=>⟨_,rfl,_,rfl,(by show 4<=sizeLine;decide),fun x2 n2=>⟨x2,4,_,rfl,rfl,aaA,(by decide),(by decide),(by show 4*4<=sizeLine;decide),fun x3 n3=>⟨x1,x3,_,_,rfl,rfl,(aaB n3 _) _ _ ((aaB n2 _) _ _ aaA),aaA,(by show 2+16<=sizeLine;decide),fun ls hls=>⟨_,rfl,c,ls,bm,[5,4,8,W,W,99,8,W,W,99,8,W,W,99,8,W,W,99],rfl,SqL.of aaA,e18,(by show 18<=63;decide),fun ds p H3 s3 hp hd=>?_⟩⟩⟩⟩⟩
 obtain⟨d0,d1,d2,d3,d4,d5,d6,d7,d8,d9,d10,d11,d12,d13,d14,d15,d16,d17,rfl,k0,k1,k2,k6,k10,k14⟩:∃d0 d1 d2 d3 d4 d5 d6 d7 d8 d9 d10 d11 d12 d13 d14 d15 d16 d17:Int,ds=[d0,d1,d2,d3,d4,d5,d6,d7,d8,d9,d10,d11,d12,d13,d14,d15,d16,d17]/\(0<=d0/\d0<5)/\(0<=d1/\d1<4)/\(0<=d2/\d2<8)/\(0<=d6/\d6<8)/\(0<=d10/\d10<8)/\(0<=d14/\d14<8):=by cases hd with | cons g0 r0=>cases r0 with | cons g1 r1=>cases r1 with | cons g2 r2=>cases r2 with | cons g3 r3=>cases r3 with | cons g4 r4=>cases r4 with | cons g5 r5=>cases r5 with | cons g6 r6=>cases r6 with | cons g7 r7=>cases r7 with | cons g8 r8=>cases r8 with | cons g9 r9=>cases r9 with | cons g10 r10=>cases r10 with | cons g11 r11=>cases r11 with | cons g12 r12=>cases r12 with | cons g13 r13=>cases r13 with | cons g14 r14=>cases r14 with | cons g15 r15=>cases r15 with | cons g16 r16=>cases r16 with | cons g17 r17=>cases r17;exact⟨_,_,_,_,_,_,_,_,_,_,_,_,_,_,_,_,_,_,rfl,g0,g1,g2,g6,g10,g14⟩
 have s13:Same H H3:=(aaB n1 _).trans ((aaB n2 _).trans ((aaB n3 _).trans ((aaB hls _).trans s3)))
 refine⟨_,rfl,p,_,_,_,rfl,rfl,SqL.of hp,rfl,rfl,_,rfl,ifI (fun c0=>?star) (fun c0=>?more)⟩
 case star=>
  have n2':=acZ (a:=lo) (b:=hi) (s:=1) hb.1 (by omega) (by decide)
  have r2:=aeO (a:=lo) (b:=hi) (s:=1) (lo:=lo) (hi:=hi) hb.1 (by omega) (by omega) (by decide) (Int.le_refl _) (Int.le_refl _)
  refine⟨_,rfl,_,rfl,_,_,rfl,rfl,_,_,rfl,fun r hr=>⟨r,lo,hi+1,1,(Builtin.Range.rangeSize lo (hi+1) 1).toNat,rfl,aaA,acO hb.1 (by omega) (by omega) (by omega) (by decide) (by decide),n2'.2,(by have:=n2'.1;omega),fun u hu=>⟨u,ab5 lo hi 1,rfl,SqL.of (by rw[abV,List.map_map];exact aaA),(by have:=r2.2.2;omega),(fun n hn=>by have:=r2.1 n hn;omega),fun zs H5 hpw hmem s5=>⟨(by show 2<=sizeLine;decide),fun t ht=>?_⟩⟩⟩⟩
  refine q t [42] (adL zs) _ (s13.trans ((aaB hr _).trans ((aaB hu _).trans (s5.trans (aaB ht _))))) aaA ?_ (by rw[adT hpw hmem (fun n hn=>by have:=r2.1 n hn;omega)];exact⟨adW r2.2.1 (fun n hn=>by have:=r2.1 n hn;omega),aeY fun n hn=>by have:=r2.1 n hn;omega⟩)
  rw[adT hpw hmem (fun n hn=>by have:=r2.1 n hn;omega),show aa4 (ab5 lo hi 1)=aa4 [ab5 lo hi 1].flatten by simp]
  exact alV (ws:=[[42]]) (.cons (i0 hb.1 (by omega) (by omega)) .nil) (List.cons_ne_nil _ _) (by decide)
 case more=>
  refine⟨(by show 0<=sizeLine;decide),fun T hT=>⟨(by show 0<=sizeLine;decide),fun N0 hN0=>?_⟩⟩
  have s1:=(aaB hT (.lst [])).trans (aaB hN0 (.lst []))
  have hTN:T≠N0:=fun e=>by rw[←e,aaA] at hN0;cases hN0
  refine⟨_,rfl,p,_,_,_,rfl,rfl,SqL.of (s1 _ _ hp),rfl,_,_,rfl,rfl,_,rfl,?lo,?hi,afQ (fun i σ H2=>∃(v8 v9 v10 v11 v12 v13 v14:Option V) (N:Addr) (ws:List (List Nat)) (nss:List (List Int)),σ=[some (.int c),some (.int lo),some (.int hi),some (.bl bm),some (.int W),some (.ref p),some (.ref T),some (.ref N),v8,v9,v10,v11,v12,v13,v14]/\T≠N/\Same H3 H2/\H2 T=some (.lst (ws.map fun x=>V.str (Tx x)))/\H2 N=some (.lst (nss.flatten.map V.int))/\Paired (ac3 lo hi) ws nss/\ws.length=i) ⟨_,_,_,_,_,_,_,N0,[],[],rfl,hTN,s1,by rw[aaE hTN];exact aaA,aaA,.nil,rfl⟩ ?turn ?done⟩
  case lo=>omega
  case hi=>omega
  case turn=>
   rintro i σ H2 hi' ⟨v8,v9,v10,v11,v12,v13,v14,N,ws,nss,rfl,tn,s2p,h2,h3,hP,lw⟩
   obtain⟨w1,w2,w3,w4,ec,hw⟩:∃w1 w2 w3 w4:Int,aiQ ([d0,d1,d2,d3,d4,d5,d6,d7,d8,d9,d10,d11,d12,d13,d14,d15,d16,d17].map V.int) (some (2+4*(0+(i:Int)))) (some (6+4*(0+(i:Int))))=[.int w1,.int w2,.int w3,.int w4]/\0<=w1/\w1<8:=by
    match i,(show i<4 by omega) with
    |0,_=>exact⟨d2,d3,d4,d5,rfl,k2⟩
    |1,_=>exact⟨d6,d7,d8,d9,rfl,k6⟩
    |2,_=>exact⟨d10,d11,d12,d13,rfl,k10⟩
    |3,_=>exact⟨d14,d15,d16,d17,rfl,k14⟩
   refine⟨_,rfl,_,rfl,_,_,rfl,rfl,.inl ⟨by decide,by decide⟩,_,_,rfl,rfl,_,rfl,_,rfl,_,_,rfl,rfl,.inl ⟨by decide,by decide⟩,_,_,rfl,rfl,_,rfl,p,_,rfl,SqL.of (s2p _ _ hp),fun pc hpc=>?_⟩
   rw[ec]
   have s5:=aaB hpc (.lst [V.int w1,V.int w2,V.int w3,V.int w4])
   refine⟨pc,_,rfl,SqL.of aaA,rfl,_,_,rfl,_,_,rfl,_,_,rfl,_,_,rfl,rfl,?_⟩
   refine⟨_,rfl,_,rfl,_,rfl,_,rfl,_,rfl,_,rfl,(by show 2<=sizeLine;decide),fun tb htb=>⟨tb,w1,w2,w3,w4,lo,hi,rfl,SqT.of aaA,⟨hb.1,by omega,by omega⟩,fun t u tw ns H6 s6 ht hu it h42=>?_⟩⟩
   have s26:Same H2 H6:=s5.trans ((aaB htb _).trans s6)
   refine⟨t,_,rfl,SqT.of ht,rfl,_,_,rfl,_,_,rfl,rfl,?_⟩
   have hT6:H6 T=some (.lst (ws.map fun x=>V.str (Tx x))):=s26 _ _ h2
   have hN6:H6 N=some (.lst (nss.flatten.map V.int)):=s26 _ _ h3
   have ia:=acL hP
   refine⟨_,rfl,.inl ⟨rfl,_,SqL.of hT6⟩,_,rfl,T,_,_,rfl,rfl,hT6,(by rw[List.length_map,sizeLine_eq];omega),?_⟩
   have hne2:u≠T:=fun e=>by
    rw[e,hT6] at hu
    have hz:=it.2.2.2.1
    cases ws with
    |nil=>cases ns with
     |nil=>exact hz rfl
     |cons x y=>cases hu
    |cons x y=>cases ns with
     |nil=>exact hz rfl
     |cons x' y'=>cases hu
   refine⟨_,rfl,_,rfl,N,u,_,_,rfl,rfl,SqL.of (by rw[aaE (Ne.symm tn)];exact hN6),SqL.of (by rw[aaE hne2];exact hu),(by rw[List.length_map,List.length_map,sizeLine_eq];have:=it.2.2.2.2;omega),fun N' hN'=>?_⟩
   have hN'T:T≠N':=fun e=>by rw[←e,aaA] at hN';cases hN'
   refine⟨_,_,_,_,_,_,_,N',ws++[tw],nss++[ns],rfl,hN'T,?_,?_,?_,agE hP it,by rw[List.length_append,List.length_singleton,lw]⟩
   ·exact (abH hT (s2p.trans s26)).trans (aaB hN' _)
   ·rw[aaE hN'T,List.map_append]
    exact aaA
   ·rw[List.flatten_append,List.flatten_singleton,List.map_append]
    exact aaA
  case done=>
   rintro σ H2 ⟨v8,v9,v10,v11,v12,v13,v14,N,ws,nss,rfl,tn,s2p,h2,h3,hP,lw⟩
   have ia:=acL hP
   have hlen:=adN ws fun x hx=>(ia.1 x hx).2.2
   have hne:ws≠[]:=fun e=>by rw[e] at lw;simp at lw;omega
   refine⟨rfl,_,rfl,44,T,ws,rfl,rfl,SqL.of h2,(by omega),_,rfl,N,nss.flatten,rfl,SqL.of h3,(by have:=ia.2.2;omega),(fun n hn=>by have:=ia.2.1 n hn;omega),fun zs H5 hpw hmem s5=>⟨(by show 2<=sizeLine;decide),fun t ht=>?_⟩⟩
   refine q t _ (adL zs) _ (s13.trans (s2p.trans (s5.trans (aaB ht _)))) aaA ?_ (by rw[adT hpw hmem (fun n hn=>by have:=ia.2.1 n hn;omega)];exact⟨adW (awS hP hne) (fun n hn=>by have:=ia.2.1 n hn;omega),aeY fun n hn=>by have:=ia.2.1 n hn;omega⟩)
   rw[adT hpw hmem (fun n hn=>by have:=ia.2.1 n hn;omega)]
   exact alV hP hne (by omega)
theorem acD:Df P w K mg base "_law_day_field" 3 ["_law_cell","_law_week","_law_mixed"] (ae1 K):=by
 refine ZZ.F__law_day_field.dfs sc__law_day_field (fun vs H Q E h=>?_) (fun f cdv A outer s H vs Q E hr h=>?_)
 ·obtain⟨c,b,bm,rfl,q⟩:=h
  rfl
 obtain⟨c,b,bm,rfl,q⟩:=h
 refine⟨_,(ssC (aaK 3 (eD (ab0 ZZ) hr (aC (v_ 0) (aC (eOp ao0 (abC (aC eI (aC eI aN))) (eOp axR (abC (axO [16,31,31,99])) eI)) (aC (v_ 2) aN)))) sc__law_day_field.nd)
   (ssC (sIf (tCm oEq (eIx xL (v_ 3) eI) eI) (ss1 (aaH (aa9 (aC (eSx [42]) (aC eN aN))))) ssN)
   (ssC (aaK 4 (abC aN) sc__law_day_field.nd)
   (ssC (aaK 5 (abC aN) sc__law_day_field.nd)
   (ssC (al6 (iR1 ZZ.z_range (aC (eOp abE eI (eIx xL (v_ 3) eI)) aN)) (gN 6 sc__law_day_field.nd) (ssC (ahK (eD (aj6 ZZ) hr (aC (eSl slL (v_ 3) (poS (eOp abE eI (eOp aj4 eI (v_ 6)))) (poS (eOp abE eI (eOp aj4 eI (v_ 6))))) (aC (v_ 1) aN))) (gTu (gsC (gN 7 sc__law_day_field.nd) (gsC (gN 8 sc__law_day_field.nd) gsN))))
   (ssC (ao8 (apG (v_ 4) (v_ 7)))
   (ss1 (ao8 (apG (v_ 5) (v_ 8)))))) PassesOwn.never)
   (ss1 (aaH (aa9 (aC (ac9 (eSx [44]) (v_ 4)) (aC (v_ 5) aN)))))))))),?_⟩
 have e18:∀z∈([3,4,16,31,31,99,16,31,31,99,16,31,31,99,16,31,31,99]:List Int),0<z/\z<1073741824:=by decide +kernel
 refine⟨_,rfl,(by show 2<=sizeLine;decide),fun x1 n1=>⟨(by show 4<=sizeLine;decide),fun x2 n2=>⟨x2,4,_,rfl,rfl,aaA,(by decide),(by decide),(by show 4*4<=sizeLine;decide),fun x3 n3=>⟨x1,x3,_,_,rfl,rfl,(aaB n3 _) _ _ ((aaB n2 _) _ _ aaA),aaA,(by show 2+16<=sizeLine;decide),fun ls hls=>⟨_,rfl,c,ls,bm,[3,4,16,31,31,99,16,31,31,99,16,31,31,99,16,31,31,99],rfl,SqL.of aaA,e18,(by show 18<=63;decide),fun ds p H3 s3 hp hd=>?_⟩⟩⟩⟩⟩
 obtain⟨d0,d1,d2,d3,d4,d5,d6,d7,d8,d9,d10,d11,d12,d13,d14,d15,d16,d17,rfl,k0,k1,k2,k6,k10,k14⟩:∃d0 d1 d2 d3 d4 d5 d6 d7 d8 d9 d10 d11 d12 d13 d14 d15 d16 d17:Int,ds=[d0,d1,d2,d3,d4,d5,d6,d7,d8,d9,d10,d11,d12,d13,d14,d15,d16,d17]/\(0<=d0/\d0<3)/\(0<=d1/\d1<4)/\(0<=d2/\d2<16)/\(0<=d6/\d6<16)/\(0<=d10/\d10<16)/\(0<=d14/\d14<16):=by cases hd with | cons g0 r0=>cases r0 with | cons g1 r1=>cases r1 with | cons g2 r2=>cases r2 with | cons g3 r3=>cases r3 with | cons g4 r4=>cases r4 with | cons g5 r5=>cases r5 with | cons g6 r6=>cases r6 with | cons g7 r7=>cases r7 with | cons g8 r8=>cases r8 with | cons g9 r9=>cases r9 with | cons g10 r10=>cases r10 with | cons g11 r11=>cases r11 with | cons g12 r12=>cases r12 with | cons g13 r13=>cases r13 with | cons g14 r14=>cases r14 with | cons g15 r15=>cases r15 with | cons g16 r16=>cases r16 with | cons g17 r17=>cases r17;exact⟨_,_,_,_,_,_,_,_,_,_,_,_,_,_,_,_,_,_,rfl,g0,g1,g2,g6,g10,g14⟩
 have s13:Same H H3:=(aaB n1 _).trans ((aaB n2 _).trans ((aaB n3 _).trans ((aaB hls _).trans s3)))
 refine⟨_,rfl,p,_,_,_,rfl,rfl,SqL.of hp,rfl,rfl,_,rfl,ifI (fun c0=>?star) (fun c0=>?more)⟩
 case star=>exact⟨(by show 2<=sizeLine;decide),fun t ht=>q t [42] .non none _ (s13.trans (aaB ht _)) aaA rfl (auP b)⟩
 case more=>
  refine⟨(by show 0<=sizeLine;decide),fun T hT=>⟨(by show 0<=sizeLine;decide),fun S hSn=>?_⟩⟩
  have s1:=(aaB hT (.lst [])).trans (aaB hSn (.lst []))
  have hTS:T≠S:=fun e=>by rw[←e,aaA] at hSn;cases hSn
  have hSn':H3 S=none:=by rw[aaE (Ne.symm hTS)] at hSn;exact hSn
  refine⟨_,rfl,p,_,_,_,rfl,rfl,SqL.of (s1 _ _ hp),rfl,_,_,rfl,rfl,_,rfl,?lo,?hi,afQ (fun i σ H2=>∃(v6 v7 v8:Option V) (ws:List (List Nat)) (us:List Addr) (ks:List Mk),σ=[some (.int c),some (.bl b),some (.bl bm),some (.ref p),some (.ref T),some (.ref S),v6,v7,v8]/\Same H3 H2/\H2 T=some (.lst (ws.map fun x=>V.str (Tx x)))/\H2 S=some (.lst (us.map V.ref))/\Ft (TpAt b H2) us ks/\Ws b ws ks/\(∀w∈ws,w≠[42])/\ws.length=i/\us.length=i) ⟨_,_,_,[],[],[],rfl,s1,by rw[aaE hTS];exact aaA,aaA,.nil,.nil,(fun w hw=>nomatch hw),rfl,rfl⟩ ?turn ?done⟩
  case lo=>omega
  case hi=>omega
  case turn=>
   rintro i σ H2 hi ⟨v6,v7,v8,ws,us,ks,rfl,s2p,h2,h3,fT,hW,n42',lw,lu⟩
   obtain⟨w1,w2,w3,w4,ec,hw⟩:∃w1 w2 w3 w4:Int,aiQ ([d0,d1,d2,d3,d4,d5,d6,d7,d8,d9,d10,d11,d12,d13,d14,d15,d16,d17].map V.int) (some (2+4*(0+(i:Int)))) (some (6+4*(0+(i:Int))))=[.int w1,.int w2,.int w3,.int w4]/\0<=w1/\w1<16:=by
    match i,(show i<4 by omega) with
    |0,_=>exact⟨d2,d3,d4,d5,rfl,k2⟩
    |1,_=>exact⟨d6,d7,d8,d9,rfl,k6⟩
    |2,_=>exact⟨d10,d11,d12,d13,rfl,k10⟩
    |3,_=>exact⟨d14,d15,d16,d17,rfl,k14⟩
   refine⟨_,rfl,_,rfl,_,_,rfl,rfl,.inl ⟨by decide,by decide⟩,_,_,rfl,rfl,_,rfl,_,rfl,_,_,rfl,rfl,.inl ⟨by decide,by decide⟩,_,_,rfl,rfl,_,rfl,p,_,rfl,SqL.of (s2p _ _ hp),fun pc hpc=>?_⟩
   rw[ec]
   have s5:=aaB hpc (.lst [V.int w1,V.int w2,V.int w3,V.int w4])
   refine⟨_,rfl,pc,b,w1,w2,w3,w4,rfl,SqL.of aaA,hw,fun t u tw k H6 s6 ht hu hok hsp hwk hST hCl h42=>?_⟩
   have s26:Same H2 H6:=s5.trans s6
   refine⟨t,_,rfl,SqT.of ht,rfl,_,_,rfl,_,_,rfl,rfl,?_⟩
   have hT6:H6 T=some (.lst (ws.map fun x=>V.str (Tx x))):=s26 _ _ h2
   have hS6:H6 S=some (.lst (us.map V.ref)):=s26 _ _ h3
   refine⟨_,rfl,.inl ⟨rfl,_,SqL.of hT6⟩,_,rfl,T,_,_,rfl,rfl,hT6,(by rw[List.length_map,sizeLine_eq];omega),?_⟩
   have hS7:(upd H6 T (.lst ((ws.map fun x=>V.str (Tx x))++[.str (Tx tw)]))) S=some (.lst (us.map V.ref)):=by rw[aaE (Ne.symm hTS)];exact hS6
   refine⟨_,rfl,.inl ⟨rfl,_,SqL.of hS7⟩,_,rfl,S,_,_,rfl,rfl,hS7,(by rw[List.length_map,sizeLine_eq];omega),?_⟩
   have kp:=(ag7 (l':=(ws.map fun x=>V.str (Tx x))++[.str (Tx tw)]) hT6).trans (ag7 (l':=us.map V.ref++[.ref u]) hS7)
   refine⟨_,_,_,ws++[tw],us++[u],ks++[k],rfl,abH hSn' (abH hT (s2p.trans s26)),?_,(by rw[List.map_append];exact aaA),Ft.app ((fT.keepT s26.keep).keepT kp) (.cons ⟨kp.tup hu,hsp,hwk,hok⟩ .nil),ap8 hW ⟨hCl,hST⟩,(fun w hw=>(List.mem_append.mp hw).elim (n42' w) fun z=>by rw[List.mem_singleton.mp z];exact h42),(by rw[List.length_append,List.length_singleton,lw]),(by rw[List.length_append,List.length_singleton,lu])⟩
   rw[aaE hTS,List.map_append]
   exact aaA
  case done=>
   rintro σ H2 ⟨v6,v7,v8,ws,us,ks,rfl,s2p,h2,h3,fT,hW,n42',lw,lu⟩
   have hlen:=adN ws fun x hx=>(hW.cl x hx).2.2
   have hne:ws≠[]:=fun e=>by rw[e] at lw;simp at lw;omega
   refine⟨rfl,_,rfl,44,T,ws,rfl,rfl,SqL.of h2,(by omega),_,rfl,(by show 2<=sizeLine;decide),fun t ht=>?_⟩
   have sE:=aaB ht (.tup [V.str (Tx (aaF 44 ws)),V.ref S])
   exact q t _ (.ref S) (some ks) _ (s13.trans (s2p.trans sE)) aaA ⟨S,us,rfl,sE _ _ h3,fT.keepT sE.keep⟩ (aEE hW hne (by omega) n42' fT.okT)
theorem akZ:Df P w K mg base "_law_row" 4 ["_law_cells_here","_law_mixed"] (ak3 K):=by
 refine ZZ.F__law_row.dfs sc__law_row (fun vs H Q E h=>?_) (fun f cdv A outer s H vs Q E hr h=>?_)
 ·obtain⟨a,c0,c1,c2,c3,c4,bm,rfl,hC,q⟩:=h
  rfl
 obtain⟨a,c0,c1,c2,c3,c4,bm,rfl,hC,q⟩:=h
 refine⟨_,(ssC (aaK 2 (eD (acH ZZ) hr (aC (eIx xL (v_ 0) eI) (aC eI (aC eI (aC (v_ 1) aN))))) sc__law_row.nd)
   (ssC (aaK 3 (eD (acH ZZ) hr (aC (eIx xL (v_ 0) eI) (aC eI (aC eI (aC (v_ 1) aN))))) sc__law_row.nd)
   (ssC (aaK 4 (eD (acD ZZ) hr (aC (eIx xL (v_ 0) eI) (aC eB (aC (v_ 1) aN)))) sc__law_row.nd)
   (ssC (aaK 5 (eD (acH ZZ) hr (aC (eIx xL (v_ 0) eI) (aC eI (aC eI (aC (v_ 1) aN))))) sc__law_row.nd)
   (ssC (aaK 6 (eD (acD ZZ) hr (aC (eIx xL (v_ 0) eI) (aC eB (aC (v_ 1) aN)))) sc__law_row.nd)
   (ssC (aaK 7 (abC (aC (v_ 2) (aC (v_ 3) (aC (v_ 4) (aC (v_ 5) (aC (v_ 6) aN)))))) sc__law_row.nd)
   (ss1 (aaH (aa9 (aC (ac9 (eSx [32]) (ag9 [] [] (iL (v_ 7)) (fun _ _ _ _ _ _=>fsN) (fun _ _ _ _ _ _=>(eIx (xTc (K:=K)) (v_ 0) eI)))) (aC (ag9 [] [] (iL (v_ 7)) (fun _ _ _ _ _ _=>fsN) (fun _ _ _ _ _ _=>(eIx (xTc (K:=K)) (v_ 0) eI))) aN))))))))))),?_⟩
 refine⟨_,rfl,a,_,_,_,rfl,rfl,hC,rfl,_,rfl,c0,0,59,bm,rfl,⟨by decide,by decide,by decide⟩,fun t0 w0 m0 H1 s0 h0 f0 l0=>?_⟩
 have sA0:=s0
 refine⟨_,rfl,a,_,_,_,rfl,rfl,(sA0.seq hC),rfl,_,rfl,c1,0,23,bm,rfl,⟨by decide,by decide,by decide⟩,fun t1 w1 m1 H2 s1 h1 f1 l1=>?_⟩
 have sA1:=sA0.trans s1
 refine⟨_,rfl,a,_,_,_,rfl,rfl,(sA1.seq hC),rfl,_,rfl,c2,false,bm,rfl,fun t2 w2 v2 k2 H3 s2 h2 sv2 d2=>?_⟩
 have sA2:=sA1.trans s2
 refine⟨_,rfl,a,_,_,_,rfl,rfl,(sA2.seq hC),rfl,_,rfl,c3,1,12,bm,rfl,⟨by decide,by decide,by decide⟩,fun t3 w3 m3 H4 s3 h3 f3 l3=>?_⟩
 have sA3:=sA2.trans s3
 refine⟨_,rfl,a,_,_,_,rfl,rfl,(sA3.seq hC),rfl,_,rfl,c4,true,bm,rfl,fun t4 w4 v4 k4 H5 s4 h4 sv4 d4=>?_⟩
 have sA4:=sA3.trans s4
 refine⟨_,rfl,_,rfl,_,rfl,_,rfl,_,rfl,(by show 5<=sizeLine;decide),fun S hS=>?_⟩
 have sS:=aaB hS (.lst [V.ref t0,V.ref t1,V.ref t2,V.ref t3,V.ref t4])
 have g0:=(s1.trans (s2.trans (s3.trans (s4.trans sS)))) _ _ h0
 have g1:=(s2.trans (s3.trans (s4.trans sS))) _ _ h1
 have g2:=(s3.trans (s4.trans sS)) _ _ h2
 have g3:=(s4.trans sS) _ _ h3
 have g4:=sS _ _ h4
 refine⟨rfl,_,rfl,S,rfl,⟨_,SqL.of aaA⟩,acP (xs:=[.ref t0,.ref t1,.ref t2,.ref t3,.ref t4]) (fun i z=>z=([w0,w1,w2,w3,w4].take i).map fun x=>V.str (Tx x)) (by show 5<=sizeLine;decide) rfl (SqL.of aaA) ?st ?dn⟩
 case st=>
  intro i v z D H7 E' F' hv hR hD s7 hz hE hF
  subst hR
  match i,hv with
  |0,hv=>cases hv;exact⟨_,rfl,t0,_,_,_,rfl,rfl,SqT.of (s7 _ _ g0),rfl,hE _ _ (Same.refl _) rfl⟩
  |1,hv=>cases hv;exact⟨_,rfl,t1,_,_,_,rfl,rfl,SqT.of (s7 _ _ g1),rfl,hE _ _ (Same.refl _) rfl⟩
  |2,hv=>cases hv;exact⟨_,rfl,t2,_,_,_,rfl,rfl,SqT.of (s7 _ _ g2),rfl,hE _ _ (Same.refl _) rfl⟩
  |3,hv=>cases hv;exact⟨_,rfl,t3,_,_,_,rfl,rfl,SqT.of (s7 _ _ g3),rfl,hE _ _ (Same.refl _) rfl⟩
  |4,hv=>cases hv;exact⟨_,rfl,t4,_,_,_,rfl,rfl,SqT.of (s7 _ _ g4),rfl,hE _ _ (Same.refl _) rfl⟩
  |i+5,hv=>cases hv
 case dn=>
  intro D H7 z hR hD s7 hz
  subst hR
  refine⟨32,D,[w0,w1,w2,w3,w4],rfl,rfl,SqL.of hz,?len,_,rfl,S,rfl,⟨_,SqL.of (s7 _ _ aaA)⟩,acP (xs:=[.ref t0,.ref t1,.ref t2,.ref t3,.ref t4]) (fun i z=>z=[V.int m0,V.int m1,v2,V.int m3,v4].take i) (by show 5<=sizeLine;decide) rfl (SqL.of (s7 _ _ aaA)) ?st2 ?dn2⟩
  case len=>
   have:=f0.len
   have:=f1.len
   have:=f3.len
   have:=d2.2.1.len
   have:=d4.2.1.len
   show (w0++32::(w1++32::(w2++32::(w3++32::w4)))).length<=1000000
   simp only[List.length_append,List.length_cons]
   omega
  case st2=>
   intro i v z D2 H8 E' F' hv hR hD2 s8 hz2 hE hF
   subst hR
   match i,hv with
   |0,hv=>cases hv;exact⟨_,rfl,t0,_,_,_,rfl,rfl,SqT.of ((s7.trans s8) _ _ g0),rfl,hE _ _ (Same.refl _) rfl⟩
   |1,hv=>cases hv;exact⟨_,rfl,t1,_,_,_,rfl,rfl,SqT.of ((s7.trans s8) _ _ g1),rfl,hE _ _ (Same.refl _) rfl⟩
   |2,hv=>cases hv;exact⟨_,rfl,t2,_,_,_,rfl,rfl,SqT.of ((s7.trans s8) _ _ g2),rfl,hE _ _ (Same.refl _) rfl⟩
   |3,hv=>cases hv;exact⟨_,rfl,t3,_,_,_,rfl,rfl,SqT.of ((s7.trans s8) _ _ g3),rfl,hE _ _ (Same.refl _) rfl⟩
   |4,hv=>cases hv;exact⟨_,rfl,t4,_,_,_,rfl,rfl,SqT.of ((s7.trans s8) _ _ g4),rfl,hE _ _ (Same.refl _) rfl⟩
   |i+5,hv=>cases hv
  case dn2=>
   intro D2 H8 z hR hD2 s8 hz2
   subst hR
   refine⟨(by show 2<=sizeLine;decide),fun t ht=>?_⟩
   have sE:=aaB ht (.tup [V.str (Tx (aaF 32 [w0,w1,w2,w3,w4])),V.ref D2])
   have sT:=s7.trans (s8.trans sE)
   exact q t D2 w0 w1 w2 w3 w4 m0 m1 m3 v2 v4 k2 k4 _ (sA4.trans (sS.trans sT)) aaA (sE _ _ hz2) f0 f1 f3 d2 d4 (sv2.keep ((s3.trans (s4.trans sS)).trans sT)) (sv4.keep (sS.trans sT)) ⟨l0.1,l1.1⟩ ⟨l0.2,l1.2⟩
theorem aiI:Df P w K mg base "_law_cells" 2 ["_law_script","_law_at"] (aiW K):=by
 refine ZZ.F__law_cells.dfs aiX (fun vs H Q E h=>?_) (fun f cdv A outer s H vs Q E hr h=>?_)
 ·obtain⟨a,k,rfl,⟨ns,hS⟩,hk,q⟩:=h
  rfl
 obtain⟨a,k,rfl,⟨ns,hS⟩,hk,q⟩:=h
 refine⟨_,(ss1 (aaH (ag9 ["_law_script","_law_at"] [0,1] (iR1 ZZ.z_range (aC eI aN)) (fun _ _ _ _ _ _=>fsN) (fun _ _ _ _ _ _=>(eD (abO ZZ) hr (aC (v_ 1) (aC (eOp abE (v_ 2) (v_ 0)) aN))))))),?_⟩
 refine⟨_,rfl,by decide,by decide,ahQ (fun i z=>∃cs:List Int,cs.length=i/\z=cs.map V.int) (by show 5<=sizeLine;decide) ⟨[],rfl,rfl⟩ ?st ?dn⟩
 case st=>
  rintro i z D H2 E' F' hi ⟨cs,hl,rfl⟩ hD s2 hz hE hF
  have hi':i<5:=hi
  exact⟨_,rfl,_,rfl,_,rfl,_,_,rfl,rfl,a,_,rfl,⟨ns,s2.seq hS⟩,⟨by omega,by omega⟩,fun c=>hE _ _ (Same.refl _) ⟨cs++[c],by rw[List.length_append,hl];rfl,by rw[List.map_append];rfl⟩⟩
 case dn=>
  rintro D H2 z ⟨cs,hl,rfl⟩ hD s2 hz
  match cs,hl with
  |[c0,c1,c2,c3,c4],_=>exact q D c0 c1 c2 c3 c4 H2 s2 hz
theorem aaZ:Df P w K mg base "_law_told" 12 ["_law_text"] (akM K C_Row):=by
 refine ZZ.F__law_told.dfs sc__law_told (fun vs H Q E h=>?_) (fun f cdv A outer s H vs Q E hr h=>?_)
 ·obtain⟨v,rfl,hv⟩:=h
  rfl
 obtain⟨v,rfl,hv⟩:=h
 refine⟨_,(ssC (az2 2 ZZ.m_FieldError ZZ.xb_FieldError (bS 1 (xD (amD ZZ) hr (aC (v_ 0) aN)) sc__law_told.nd) (fun _=>(ssC (sIf (tW (wOr (tNo (tVa (eCB cXi ZZ.z_isinstance PyProof.Rows.boot_isinstance (aC (v_ 2) (aC (eGl (v:=.ref C_NoRow) ZZ.m_NoRow rfl) aN))))) (wOr (tNo (tVa (eCB cXy ZZ.z_isinstance PyProof.Rows.boot_isinstance (aC (v_ 2) (aC (eTy ZZ.z_ValueError agQ) aN))))) (afY (tNo (tVa (eDQ (aiC ZZ) (hr.q.mark _) (aC (aEF (v_ 2)) aN)))))))) (ss1 (aaH (eSx [111,116,104,101,114]))) ssN)
   (ssC (sIf (tVa (eCB cXt ZZ.z_isinstance PyProof.Rows.boot_isinstance (aC (v_ 2) (aC (aa9 (aC (eGl (v:=.ref C_NoBook) ZZ.m_NoBook rfl) (aC (eGl (v:=.ref C_NoClock) ZZ.m_NoClock rfl) (aC (eGl (v:=.ref C_NoDay) ZZ.m_NoDay rfl) (aC (eGl (v:=.ref C_NoField) ZZ.m_NoField rfl) (aC (eGl (v:=.ref C_NoMoment) ZZ.m_NoMoment rfl) (aC (eGl (v:=.ref C_NoName) ZZ.m_NoName rfl) (aC (eGl (v:=.ref C_NoWord) ZZ.m_NoWord rfl) aN)))))))) aN)))) (ss1 (aaH (eSx [111,116,104,101,114]))) ssN)
   (ss1 (aaH (aEF (v_ 2))))))) sc__law_told.nd)
   (ss1 (aaH (eIx xL (abC (aC (eSx [111,100,100]) (aC (eSx [114,111,119]) aN))) (eCT ay5 ZZ.z_int PyProof.Rows.boot_int (aC (eCB cIn ZZ.z_isinstance PyProof.Rows.boot_isinstance (aC (v_ 1) (aC (eGl (v:=.ref C_Row) ZZ.c_Row.at_ rfl) aN))) aN)))))),?_⟩
 refine⟨fun e d H'=>∃(dx:Addr) (p:Nat) (b:Bool),e=cv C_NoRow b/\d=some dx/\Same H H'/\H' dx=some (.xd [(("place":Str),.int p)])/\∀H2,Same H H2->Q (.int p) H2,?_,fun C d b H' ⟨dx,p,b',hC,hd,s0,hat,qp⟩=>?_⟩
 ·refine⟨_,rfl,v,rfl,?_⟩
  rcases hv with ⟨kd,hk,ns,q0⟩ | ⟨l,rfl,hl,q⟩
  ·exact .inl ⟨kd,hk,ns,fun b dx H' s h=>⟨dx,5,b,rfl,rfl,s,h,q0⟩⟩
  refine .inr ⟨l,rfl,hl,fun p hp b dx H' s h=>⟨dx,p,b,rfl,rfl,s,h,fun H2 s2=>?_⟩,fun hn x dx fs H' s hx=>?_⟩
  ·have z:=q H2 s2
   rw[hp] at z
   exact z
  ·refine⟨(by show 2<=sizeLine;decide),fun ls hls=>?_⟩
   have z:=q _ (s.trans (aaB hls (.lst [V.str (Tx [111,100,100]),V.str (Tx [114,111,119])])))
   rw[hn] at z
   exact⟨_,rfl,_,_,_,_,rfl,ZZ.is_Row.ty ZZ.c_Row.cl ((aaB hls _) _ _ hx),ZZ.kt_Row,.inr ⟨_,rfl,ls,_,_,_,rfl,rfl,SqL.of aaA,rfl,z⟩⟩
 ·obtain⟨rfl,rfl⟩:=ayF hC
  subst hd
  refine⟨ZZ.xk_NoRow_FieldError,fun a ha=>?_⟩
  have sn:=aaB ha (xo a C (some dx) b)
  have sa:=s0.trans sn
  refine⟨_,rfl,a,C,C,_,_,true,rfl,aaA,ZZ.xs_NoRow.xf,ZZ.xi_NoRow,_,rfl,aa7 ⟨_,rfl,a,C,"ValueError",_,_,true,rfl,aaA,ZZ.xs_NoRow.xf,ZZ.xv_NoRow,_,rfl,aa7 ?_⟩⟩
  refine⟨_,rfl,a,C,dx,b,_,_,rfl,aaA,sn _ _ hat,ZZ.xs_NoRow,rfl,V.int p,.int,rfl,rfl,_,rfl,aa7 ?_⟩
  refine⟨_,rfl,(by show 7<=sizeLine;decide),fun tp htp=>⟨a,C,tp,[C_NoBook,C_NoClock,C_NoDay,C_NoField,C_NoMoment,C_NoName,C_NoWord],_,_,false,rfl,aaB htp _ _ _ aaA,ZZ.xs_NoRow.xf,SqT.of aaA,ZZ.xt_NoRow,_,rfl,aa7 ?_⟩⟩
  have st:=aaB htp (.tup [V.ref C_NoBook,V.ref C_NoClock,V.ref C_NoDay,V.ref C_NoField,V.ref C_NoMoment,V.ref C_NoName,V.ref C_NoWord])
  exact⟨_,rfl,a,C,dx,b,_,_,rfl,st _ _ aaA,st _ _ (sn _ _ hat),ZZ.xs_NoRow,rfl,qp _ (sa.trans st)⟩
theorem ad6:Df P w K mg base "_law_wrong" 1 ["_law_place","_law_turn"] (aiF K):=by
 refine ZZ.F__law_wrong.dfs sc__law_wrong (fun vs H Q E h=>?_) (fun f cdv A outer s H vs Q E hr h=>?_)
 ·obtain⟨pl,tn,rfl,hpl,htn,q⟩:=h
  rfl
 obtain⟨pl,tn,rfl,hpl,htn,q⟩:=h
 refine⟨_,(ssC (aaK 2 (abC (aC (eSx [54,48]) (aC (eSx [50,52]) (aC (eSx [51,50]) (aC (eSx [49,51]) (aC (eSx [56]) aN)))))) sc__law_wrong.nd)
   (ssC (aaK 2 (abC (aC (eIx xL (v_ 2) (v_ 0)) (aC (eSx [45,49]) (aC (eSx [53,45]) (aC (eSx [51,45,50]) (aC (eSx [49,47,48]) (aC (eSx [120]) (aC (eSx [49,44,44,50]) (aC (eSx [49,44]) (aC (eSx [48,49]) (aC (eSx [53,46]) (aC (eSx [49,47,49,48,48]) (aC (eSx [42,42]) (aC (eOp aa6 (eOp an6 (eSx [49,44]) eI) (eSx [49])) aN)))))))))))))) sc__law_wrong.nd)
   (ssC (aaK 2 (eOp ao0 (v_ 2) (eIx xL (abC (aC (abC (aC (eSx [76]) (aC (eSx [53,35,49]) aN))) (aC (abC (aC (eSx [76,87]) (aC (eSx [49,76]) aN))) (aC (abC (aC (eSx [53,76]) (aC (eSx [49,35,49]) aN))) (aC (abC (aC (eSx [48]) (aC (eSx [76]) aN))) (aC (abC (aC (eSx [76]) (aC (eSx [49,53,87]) aN))) aN)))))) (v_ 0))) sc__law_wrong.nd)
   (ss1 (aaH (eIx xL (eOp ao0 (v_ 2) (abC (aC (eIx xL (abC (aC (eSx [49,45,54,48]) (aC (eSx [48,45,50,52]) (aC (eSx [48]) (aC (eSx [48,45,53]) (aC (eSx [49,45,56]) aN)))))) (v_ 0)) aN))) (v_ 1))))))),?_⟩
 match pl,hpl with
 |0,_=>
  obtain⟨v,hv,hm⟩:=afT (xs:=(wrW 0).map fun w=>V.str (Tx w)) (i:=(tn:Int)) (by omega) (by show (tn:Int)<16;omega)
  obtain⟨w,hw,rfl⟩:=List.mem_map.mp hm
  have ck:=alB (p:=0) (by decide) hw
  refine⟨(by show 5<=sizeLine;decide),fun p0 h0=>⟨_,rfl,_,rfl,p0,_,_,_,rfl,rfl,SqL.of aaA,rfl,_,150,rfl,rfl,(by decide),(by decide),_,_,rfl,rfl,(by rw[sizeLine_eq];decide),(by show 13<=sizeLine;decide),fun p1 h1=>?_⟩⟩
  refine⟨_,rfl,(by show 2<=sizeLine;decide),fun a0 g0=>⟨(by show 2<=sizeLine;decide),fun a1 g1=>⟨(by show 2<=sizeLine;decide),fun a2 g2=>⟨(by show 2<=sizeLine;decide),fun a3 g3=>⟨(by show 2<=sizeLine;decide),fun a4 g4=>⟨(by show 5<=sizeLine;decide),fun b hb=>⟨_,rfl,b,_,_,_,rfl,rfl,SqL.of aaA,rfl,p1,a0,_,_,rfl,rfl,((aaB hb _) _ _ ((aaB g4 _) _ _ ((aaB g3 _) _ _ ((aaB g2 _) _ _ ((aaB g1 _) _ _ ((aaB g0 _) _ _ aaA)))))),((aaB hb _) _ _ ((aaB g4 _) _ _ ((aaB g3 _) _ _ ((aaB g2 _) _ _ ((aaB g1 _) _ _ aaA))))),(by show 13+2<=sizeLine;decide),fun p2 h2=>?_⟩⟩⟩⟩⟩⟩⟩
  exact⟨_,rfl,(by show 5<=sizeLine;decide),fun c1 k1=>⟨_,rfl,c1,_,_,_,rfl,rfl,SqL.of aaA,rfl,(by show 1<=sizeLine;decide),fun c2 k2=>⟨p2,c2,_,_,rfl,rfl,(aaB k2 _) _ _ ((aaB k1 _) _ _ aaA),aaA,(by show 15+1<=sizeLine;decide),fun c3 k3=>⟨_,rfl,c3,_,_,_,rfl,rfl,SqL.of aaA,hv,q w _ ((aaB h0 _).trans ((aaB h1 _).trans ((aaB g0 _).trans ((aaB g1 _).trans ((aaB g2 _).trans ((aaB g3 _).trans ((aaB g4 _).trans ((aaB hb _).trans ((aaB h2 _).trans ((aaB k1 _).trans ((aaB k2 _).trans (aaB k3 _)))))))))))) ck.1 ck.2.1 ck.2.2⟩⟩⟩⟩
 |1,_=>
  obtain⟨v,hv,hm⟩:=afT (xs:=(wrW 1).map fun w=>V.str (Tx w)) (i:=(tn:Int)) (by omega) (by show (tn:Int)<16;omega)
  obtain⟨w,hw,rfl⟩:=List.mem_map.mp hm
  have ck:=alB (p:=1) (by decide) hw
  refine⟨(by show 5<=sizeLine;decide),fun p0 h0=>⟨_,rfl,_,rfl,p0,_,_,_,rfl,rfl,SqL.of aaA,rfl,_,150,rfl,rfl,(by decide),(by decide),_,_,rfl,rfl,(by rw[sizeLine_eq];decide),(by show 13<=sizeLine;decide),fun p1 h1=>?_⟩⟩
  refine⟨_,rfl,(by show 2<=sizeLine;decide),fun a0 g0=>⟨(by show 2<=sizeLine;decide),fun a1 g1=>⟨(by show 2<=sizeLine;decide),fun a2 g2=>⟨(by show 2<=sizeLine;decide),fun a3 g3=>⟨(by show 2<=sizeLine;decide),fun a4 g4=>⟨(by show 5<=sizeLine;decide),fun b hb=>⟨_,rfl,b,_,_,_,rfl,rfl,SqL.of aaA,rfl,p1,a1,_,_,rfl,rfl,((aaB hb _) _ _ ((aaB g4 _) _ _ ((aaB g3 _) _ _ ((aaB g2 _) _ _ ((aaB g1 _) _ _ ((aaB g0 _) _ _ aaA)))))),((aaB hb _) _ _ ((aaB g4 _) _ _ ((aaB g3 _) _ _ ((aaB g2 _) _ _ aaA)))),(by show 13+2<=sizeLine;decide),fun p2 h2=>?_⟩⟩⟩⟩⟩⟩⟩
  exact⟨_,rfl,(by show 5<=sizeLine;decide),fun c1 k1=>⟨_,rfl,c1,_,_,_,rfl,rfl,SqL.of aaA,rfl,(by show 1<=sizeLine;decide),fun c2 k2=>⟨p2,c2,_,_,rfl,rfl,(aaB k2 _) _ _ ((aaB k1 _) _ _ aaA),aaA,(by show 15+1<=sizeLine;decide),fun c3 k3=>⟨_,rfl,c3,_,_,_,rfl,rfl,SqL.of aaA,hv,q w _ ((aaB h0 _).trans ((aaB h1 _).trans ((aaB g0 _).trans ((aaB g1 _).trans ((aaB g2 _).trans ((aaB g3 _).trans ((aaB g4 _).trans ((aaB hb _).trans ((aaB h2 _).trans ((aaB k1 _).trans ((aaB k2 _).trans (aaB k3 _)))))))))))) ck.1 ck.2.1 ck.2.2⟩⟩⟩⟩
 |2,_=>
  obtain⟨v,hv,hm⟩:=afT (xs:=(wrW 2).map fun w=>V.str (Tx w)) (i:=(tn:Int)) (by omega) (by show (tn:Int)<16;omega)
  obtain⟨w,hw,rfl⟩:=List.mem_map.mp hm
  have ck:=alB (p:=2) (by decide) hw
  refine⟨(by show 5<=sizeLine;decide),fun p0 h0=>⟨_,rfl,_,rfl,p0,_,_,_,rfl,rfl,SqL.of aaA,rfl,_,150,rfl,rfl,(by decide),(by decide),_,_,rfl,rfl,(by rw[sizeLine_eq];decide),(by show 13<=sizeLine;decide),fun p1 h1=>?_⟩⟩
  refine⟨_,rfl,(by show 2<=sizeLine;decide),fun a0 g0=>⟨(by show 2<=sizeLine;decide),fun a1 g1=>⟨(by show 2<=sizeLine;decide),fun a2 g2=>⟨(by show 2<=sizeLine;decide),fun a3 g3=>⟨(by show 2<=sizeLine;decide),fun a4 g4=>⟨(by show 5<=sizeLine;decide),fun b hb=>⟨_,rfl,b,_,_,_,rfl,rfl,SqL.of aaA,rfl,p1,a2,_,_,rfl,rfl,((aaB hb _) _ _ ((aaB g4 _) _ _ ((aaB g3 _) _ _ ((aaB g2 _) _ _ ((aaB g1 _) _ _ ((aaB g0 _) _ _ aaA)))))),((aaB hb _) _ _ ((aaB g4 _) _ _ ((aaB g3 _) _ _ aaA))),(by show 13+2<=sizeLine;decide),fun p2 h2=>?_⟩⟩⟩⟩⟩⟩⟩
  exact⟨_,rfl,(by show 5<=sizeLine;decide),fun c1 k1=>⟨_,rfl,c1,_,_,_,rfl,rfl,SqL.of aaA,rfl,(by show 1<=sizeLine;decide),fun c2 k2=>⟨p2,c2,_,_,rfl,rfl,(aaB k2 _) _ _ ((aaB k1 _) _ _ aaA),aaA,(by show 15+1<=sizeLine;decide),fun c3 k3=>⟨_,rfl,c3,_,_,_,rfl,rfl,SqL.of aaA,hv,q w _ ((aaB h0 _).trans ((aaB h1 _).trans ((aaB g0 _).trans ((aaB g1 _).trans ((aaB g2 _).trans ((aaB g3 _).trans ((aaB g4 _).trans ((aaB hb _).trans ((aaB h2 _).trans ((aaB k1 _).trans ((aaB k2 _).trans (aaB k3 _)))))))))))) ck.1 ck.2.1 ck.2.2⟩⟩⟩⟩
 |3,_=>
  obtain⟨v,hv,hm⟩:=afT (xs:=(wrW 3).map fun w=>V.str (Tx w)) (i:=(tn:Int)) (by omega) (by show (tn:Int)<16;omega)
  obtain⟨w,hw,rfl⟩:=List.mem_map.mp hm
  have ck:=alB (p:=3) (by decide) hw
  refine⟨(by show 5<=sizeLine;decide),fun p0 h0=>⟨_,rfl,_,rfl,p0,_,_,_,rfl,rfl,SqL.of aaA,rfl,_,150,rfl,rfl,(by decide),(by decide),_,_,rfl,rfl,(by rw[sizeLine_eq];decide),(by show 13<=sizeLine;decide),fun p1 h1=>?_⟩⟩
  refine⟨_,rfl,(by show 2<=sizeLine;decide),fun a0 g0=>⟨(by show 2<=sizeLine;decide),fun a1 g1=>⟨(by show 2<=sizeLine;decide),fun a2 g2=>⟨(by show 2<=sizeLine;decide),fun a3 g3=>⟨(by show 2<=sizeLine;decide),fun a4 g4=>⟨(by show 5<=sizeLine;decide),fun b hb=>⟨_,rfl,b,_,_,_,rfl,rfl,SqL.of aaA,rfl,p1,a3,_,_,rfl,rfl,((aaB hb _) _ _ ((aaB g4 _) _ _ ((aaB g3 _) _ _ ((aaB g2 _) _ _ ((aaB g1 _) _ _ ((aaB g0 _) _ _ aaA)))))),((aaB hb _) _ _ ((aaB g4 _) _ _ aaA)),(by show 13+2<=sizeLine;decide),fun p2 h2=>?_⟩⟩⟩⟩⟩⟩⟩
  exact⟨_,rfl,(by show 5<=sizeLine;decide),fun c1 k1=>⟨_,rfl,c1,_,_,_,rfl,rfl,SqL.of aaA,rfl,(by show 1<=sizeLine;decide),fun c2 k2=>⟨p2,c2,_,_,rfl,rfl,(aaB k2 _) _ _ ((aaB k1 _) _ _ aaA),aaA,(by show 15+1<=sizeLine;decide),fun c3 k3=>⟨_,rfl,c3,_,_,_,rfl,rfl,SqL.of aaA,hv,q w _ ((aaB h0 _).trans ((aaB h1 _).trans ((aaB g0 _).trans ((aaB g1 _).trans ((aaB g2 _).trans ((aaB g3 _).trans ((aaB g4 _).trans ((aaB hb _).trans ((aaB h2 _).trans ((aaB k1 _).trans ((aaB k2 _).trans (aaB k3 _)))))))))))) ck.1 ck.2.1 ck.2.2⟩⟩⟩⟩
 |4,_=>
  obtain⟨v,hv,hm⟩:=afT (xs:=(wrW 4).map fun w=>V.str (Tx w)) (i:=(tn:Int)) (by omega) (by show (tn:Int)<16;omega)
  obtain⟨w,hw,rfl⟩:=List.mem_map.mp hm
  have ck:=alB (p:=4) (by decide) hw
  refine⟨(by show 5<=sizeLine;decide),fun p0 h0=>⟨_,rfl,_,rfl,p0,_,_,_,rfl,rfl,SqL.of aaA,rfl,_,150,rfl,rfl,(by decide),(by decide),_,_,rfl,rfl,(by rw[sizeLine_eq];decide),(by show 13<=sizeLine;decide),fun p1 h1=>?_⟩⟩
  refine⟨_,rfl,(by show 2<=sizeLine;decide),fun a0 g0=>⟨(by show 2<=sizeLine;decide),fun a1 g1=>⟨(by show 2<=sizeLine;decide),fun a2 g2=>⟨(by show 2<=sizeLine;decide),fun a3 g3=>⟨(by show 2<=sizeLine;decide),fun a4 g4=>⟨(by show 5<=sizeLine;decide),fun b hb=>⟨_,rfl,b,_,_,_,rfl,rfl,SqL.of aaA,rfl,p1,a4,_,_,rfl,rfl,((aaB hb _) _ _ ((aaB g4 _) _ _ ((aaB g3 _) _ _ ((aaB g2 _) _ _ ((aaB g1 _) _ _ ((aaB g0 _) _ _ aaA)))))),((aaB hb _) _ _ aaA),(by show 13+2<=sizeLine;decide),fun p2 h2=>?_⟩⟩⟩⟩⟩⟩⟩
  exact⟨_,rfl,(by show 5<=sizeLine;decide),fun c1 k1=>⟨_,rfl,c1,_,_,_,rfl,rfl,SqL.of aaA,rfl,(by show 1<=sizeLine;decide),fun c2 k2=>⟨p2,c2,_,_,rfl,rfl,(aaB k2 _) _ _ ((aaB k1 _) _ _ aaA),aaA,(by show 15+1<=sizeLine;decide),fun c3 k3=>⟨_,rfl,c3,_,_,_,rfl,rfl,SqL.of aaA,hv,q w _ ((aaB h0 _).trans ((aaB h1 _).trans ((aaB g0 _).trans ((aaB g1 _).trans ((aaB g2 _).trans ((aaB g3 _).trans ((aaB g4 _).trans ((aaB hb _).trans ((aaB h2 _).trans ((aaB k1 _).trans ((aaB k2 _).trans (aaB k3 _)))))))))))) ck.1 ck.2.1 ck.2.2⟩⟩⟩⟩
theorem aiP:Df P w K mg base "_law_words" 1 ["_law_words_here","_law_way","_law_turn"] (aiS K):=by
 refine ZZ.F__law_words.dfs sc__law_words (fun vs H Q E h=>?_) (fun f cdv A outer s H vs Q E hr h=>?_)
 ·obtain⟨L,ws,wy,tn,rfl,hL,h5,hw,hwy,htn,q⟩:=h
  rfl
 obtain⟨L,ws,wy,tn,rfl,hL,h5,hw,hwy,htn,q⟩:=h
 refine⟨_,(ssC (aaK 3 (ac9 (eSx [32]) (v_ 0)) sc__law_words.nd)
   (ssC (sIf (tCm oEq (v_ 1) eI) (ss1 (aaH (ac9 (eSx [32]) (eSl slL (v_ 0) poN (poS eI))))) ssN)
   (ssC (sIf (tCm oEq (v_ 1) eI) (ss1 (aaH (eOp aa6 (v_ 3) (eSx [32,42])))) ssN)
   (ssC (sIf (tCm oEq (v_ 1) eI) (ss1 (aaH (eOp aa6 (eOp aa6 (ac9 (eSx [32]) (eSl slL (v_ 0) poN (poS (eOp abE (v_ 2) eI)))) (eSx [32,32])) (ac9 (eSx [32]) (eSl slL (v_ 0) (poS (eOp abE (v_ 2) eI)) poN))))) ssN)
   (ssC (sIf (tCm oEq (v_ 1) eI) (ss1 (aaH (eIx xL (abC (aC (eOp aa6 (eSx [32]) (v_ 3)) (aC (eOp aa6 (v_ 3) (eSx [32])) aN))) (eOp abQ (v_ 2) eI)))) ssN)
   (ssC (sIf (tCm oEq (v_ 1) eI) (ss1 (aaH (eIx xL (abC (aC (eSx []) (aC (eSx [32]) (aC (eSx [32,32,32,32]) (aC (eSx [42]) aN))))) (v_ 2)))) ssN)
   (ssC (sIf (tCm oEq (v_ 1) eI) (ss1 (aaH (eOp aa6 (eOp aa6 (ac9 (eSx [32]) (eSl slL (v_ 0) poN (poS eI))) (eSx [32,32])) (eIx xL (v_ 0) eI)))) ssN)
   (ss1 (aaH (ac9 (eSx [9]) (abC (aC (ac9 (eSx [32]) (eSl slL (v_ 0) poN (poS eI))) (aC (eIx xL (v_ 0) eI) aN))))))))))))),?_⟩
 obtain⟨w0,w1,w2,w3,w4,rfl⟩:=aF4 h5
 have n0:=hw w0 (by simp)
 have n1:=hw w1 (by simp)
 have n2:=hw w2 (by simp)
 have n3:=hw w3 (by simp)
 have n4:=hw w4 (by simp)
 have jb:∀us:List (List Nat),(∀w∈us,w.length<=700)->us.length<=7->(aaF 32 us).length<=5000:=fun us h hn=>by
  have:=ayS h
  have:(700+1)*us.length<=(700+1)*7:=Nat.mul_le_mul_left _ hn
  omega
 have fin:∀us:List (List Nat),us≠[]->us.length<=7->(∀w∈us,32∉w/\w.length<=700)->(us.length≠5∨[]∈us)->∀H',Same H H'->Q (.str (Tx (aaF 32 us))) H':=fun us hne hn h hb H' s=>q _ H' s (aFJ (fun u hu=>(h u hu).1) hne hb) (by have:=jb us (fun w hw=>(h w hw).2) hn;omega)
 have jT:=jb [w0,w1,w2,w3,w4] (fun w hw'=>by have:=(hw w hw').2;omega) (by simp)
 have z0:32∉([]:List Nat)/\([]:List Nat).length<=700:=by decide
 have z42:32∉([42]:List Nat)/\([42]:List Nat).length<=700:=by decide
 have up:∀{w:List Nat},32∉w/\w.length<=301->32∉w/\w.length<=700:=fun h=>⟨h.1,by have:=h.2;omega⟩
 have all6:∀{a b c d e f:List Nat},(32∉a/\a.length<=700)->(32∉b/\b.length<=700)->(32∉c/\c.length<=700)->(32∉d/\d.length<=700)->(32∉e/\e.length<=700)->(32∉f/\f.length<=700)->∀w∈[a,b,c,d,e,f],32∉w/\w.length<=700:=fun h1 h2 h3 h4 h5 h6 w hw=>by
  simp only[List.mem_cons,List.not_mem_nil,or_false] at hw
  rcases hw with rfl | rfl | rfl | rfl | rfl | rfl<;>assumption
 have all5:∀{a b c d e:List Nat},(32∉a/\a.length<=700)->(32∉b/\b.length<=700)->(32∉c/\c.length<=700)->(32∉d/\d.length<=700)->(32∉e/\e.length<=700)->∀w∈[a,b,c,d,e],32∉w/\w.length<=700:=fun h1 h2 h3 h4 h5 w hw=>by
  simp only[List.mem_cons,List.not_mem_nil,or_false] at hw
  rcases hw with rfl | rfl | rfl | rfl | rfl<;>assumption
 have all4:∀{a b c d:List Nat},(32∉a/\a.length<=700)->(32∉b/\b.length<=700)->(32∉c/\c.length<=700)->(32∉d/\d.length<=700)->∀w∈[a,b,c,d],32∉w/\w.length<=700:=fun h1 h2 h3 h4 w hw=>by
  simp only[List.mem_cons,List.not_mem_nil,or_false] at hw
  rcases hw with rfl | rfl | rfl | rfl<;>assumption
 refine⟨rfl,_,rfl,32,L,[w0,w1,w2,w3,w4],rfl,rfl,SqL.of hL,(by omega),?_⟩
 obtain⟨T,eT⟩:∃T,T=aaF 32 [w0,w1,w2,w3,w4]:=⟨_,rfl⟩
 show abS 3 (V.str (Tx (aaF 32 [w0,w1,w2,w3,w4]))) _ _ _
 rw[←eT] at jT ⊢
 have cF:∀us:List (List Nat),(∀w∈us,w.length<=700)->us.length<=7->(aaF 32 us).length<=1000000:=fun us h hn=>by have:=jb us h hn;omega
 match wy,hwy with
 |0,_=>
  refine⟨_,rfl,rfl,_,rfl,ifI (fun _=>⟨rfl,_,rfl,_,rfl,L,_,rfl,SqL.of hL,fun pc hpc=>?_⟩) (fun c=>absurd rfl c)⟩
  exact⟨32,pc,[w0,w1,w2,w3],rfl,rfl,SqL.of aaA,cF _ (fun w h=>(all4 (up n0) (up n1) (up n2) (up n3) w h).2) (by simp),fin _ (List.cons_ne_nil _ _) (by simp) (all4 (up n0) (up n1) (up n2) (up n3)) (.inl (by simp)) _ (aaB hpc _)⟩
 |1,_=>
  have e:T++[32,42]=aaF 32 [w0,w1,w2,w3,w4,[42]]:=by rw[eT];exact (aAR (a:=[w0,w1,w2,w3,w4]) (b:=[[42]]) (List.cons_ne_nil _ _) (List.cons_ne_nil _ _)).symm
  refine⟨_,rfl,rfl,_,rfl,ifI (fun c=>absurd c (by decide)) (fun _=>⟨_,rfl,rfl,_,rfl,ifI (fun _=>⟨_,rfl,_,_,rfl,rfl,(by rw[sizeLine_eq];show _+2<=_;omega),?_⟩) (fun c=>absurd rfl c)⟩)⟩
  rw[e]
  exact fin _ (List.cons_ne_nil _ _) (by simp) (all6 (up n0) (up n1) (up n2) (up n3) (up n4) z42) (.inl (by simp)) _ (Same.refl _)
 |2,_=>
  match tn,htn with
  |0,_=>
   have e:(aaF 32 [w0]++[32,32])++aaF 32 [w1,w2,w3,w4]=aaF 32 [w0,[],w1,w2,w3,w4]:=aqG (a:=[w0]) (b:=[w1,w2,w3,w4]) (List.cons_ne_nil _ _) (List.cons_ne_nil _ _)
   have la:=jb [w0] (fun w h=>by have:=(hw w (by simp at h ⊢;simp[h])).2;omega) (by simp)
   have lb:=jb [w1,w2,w3,w4] (fun w h=>by have:=(hw w (by simp at h ⊢;rcases h with rfl | rfl | rfl | rfl<;>simp)).2;omega) (by simp)
   refine⟨_,rfl,rfl,_,rfl,ifI (fun c=>absurd c (by decide)) (fun _=>⟨_,rfl,rfl,_,rfl,ifI (fun c=>absurd c (by decide)) (fun _=>⟨_,rfl,rfl,_,rfl,ifI (fun _=>⟨rfl,_,rfl,_,rfl,_,_,rfl,rfl,_,rfl,L,_,rfl,SqL.of hL,fun pa hpa=>?_⟩) (fun c=>absurd rfl c)⟩)⟩)⟩
   refine⟨32,pa,[w0],rfl,rfl,SqL.of aaA,(by omega),_,_,rfl,rfl,(by rw[sizeLine_eq];show _+2<=_;omega),rfl,_,rfl,_,rfl,_,_,rfl,rfl,_,rfl,L,_,rfl,SqL.of ((aaB hpa _) _ _ hL),fun pb hpb=>⟨32,pb,[w1,w2,w3,w4],rfl,rfl,SqL.of aaA,(by omega),_,_,rfl,rfl,(by rw[sizeLine_eq,List.length_append];show _+2+_<=_;omega),?_⟩⟩
   rw[e]
   exact fin _ (List.cons_ne_nil _ _) (by simp) (all6 (up n0) z0 (up n1) (up n2) (up n3) (up n4)) (.inl (by simp)) _ ((aaB hpa _).trans (aaB hpb _))
  |1,_=>
   have e:(aaF 32 [w0,w1]++[32,32])++aaF 32 [w2,w3,w4]=aaF 32 [w0,w1,[],w2,w3,w4]:=aqG (a:=[w0,w1]) (b:=[w2,w3,w4]) (List.cons_ne_nil _ _) (List.cons_ne_nil _ _)
   have la:=jb [w0,w1] (fun w h=>by have:=(hw w (by simp at h ⊢;rcases h with rfl | rfl<;>simp)).2;omega) (by simp)
   have lb:=jb [w2,w3,w4] (fun w h=>by have:=(hw w (by simp at h ⊢;rcases h with rfl | rfl | rfl<;>simp)).2;omega) (by simp)
   refine⟨_,rfl,rfl,_,rfl,ifI (fun c=>absurd c (by decide)) (fun _=>⟨_,rfl,rfl,_,rfl,ifI (fun c=>absurd c (by decide)) (fun _=>⟨_,rfl,rfl,_,rfl,ifI (fun _=>⟨rfl,_,rfl,_,rfl,_,_,rfl,rfl,_,rfl,L,_,rfl,SqL.of hL,fun pa hpa=>?_⟩) (fun c=>absurd rfl c)⟩)⟩)⟩
   refine⟨32,pa,[w0,w1],rfl,rfl,SqL.of aaA,(by omega),_,_,rfl,rfl,(by rw[sizeLine_eq];show _+2<=_;omega),rfl,_,rfl,_,rfl,_,_,rfl,rfl,_,rfl,L,_,rfl,SqL.of ((aaB hpa _) _ _ hL),fun pb hpb=>⟨32,pb,[w2,w3,w4],rfl,rfl,SqL.of aaA,(by omega),_,_,rfl,rfl,(by rw[sizeLine_eq,List.length_append];show _+2+_<=_;omega),?_⟩⟩
   rw[e]
   exact fin _ (List.cons_ne_nil _ _) (by simp) (all6 (up n0) (up n1) z0 (up n2) (up n3) (up n4)) (.inl (by simp)) _ ((aaB hpa _).trans (aaB hpb _))
  |2,_=>
   have e:(aaF 32 [w0,w1,w2]++[32,32])++aaF 32 [w3,w4]=aaF 32 [w0,w1,w2,[],w3,w4]:=aqG (a:=[w0,w1,w2]) (b:=[w3,w4]) (List.cons_ne_nil _ _) (List.cons_ne_nil _ _)
   have la:=jb [w0,w1,w2] (fun w h=>by have:=(hw w (by simp at h ⊢;rcases h with rfl | rfl | rfl<;>simp)).2;omega) (by simp)
   have lb:=jb [w3,w4] (fun w h=>by have:=(hw w (by simp at h ⊢;rcases h with rfl | rfl<;>simp)).2;omega) (by simp)
   refine⟨_,rfl,rfl,_,rfl,ifI (fun c=>absurd c (by decide)) (fun _=>⟨_,rfl,rfl,_,rfl,ifI (fun c=>absurd c (by decide)) (fun _=>⟨_,rfl,rfl,_,rfl,ifI (fun _=>⟨rfl,_,rfl,_,rfl,_,_,rfl,rfl,_,rfl,L,_,rfl,SqL.of hL,fun pa hpa=>?_⟩) (fun c=>absurd rfl c)⟩)⟩)⟩
   refine⟨32,pa,[w0,w1,w2],rfl,rfl,SqL.of aaA,(by omega),_,_,rfl,rfl,(by rw[sizeLine_eq];show _+2<=_;omega),rfl,_,rfl,_,rfl,_,_,rfl,rfl,_,rfl,L,_,rfl,SqL.of ((aaB hpa _) _ _ hL),fun pb hpb=>⟨32,pb,[w3,w4],rfl,rfl,SqL.of aaA,(by omega),_,_,rfl,rfl,(by rw[sizeLine_eq,List.length_append];show _+2+_<=_;omega),?_⟩⟩
   rw[e]
   exact fin _ (List.cons_ne_nil _ _) (by simp) (all6 (up n0) (up n1) (up n2) z0 (up n3) (up n4)) (.inl (by simp)) _ ((aaB hpa _).trans (aaB hpb _))
  |3,_=>
   have e:(aaF 32 [w0,w1,w2,w3]++[32,32])++aaF 32 [w4]=aaF 32 [w0,w1,w2,w3,[],w4]:=aqG (a:=[w0,w1,w2,w3]) (b:=[w4]) (List.cons_ne_nil _ _) (List.cons_ne_nil _ _)
   have la:=jb [w0,w1,w2,w3] (fun w h=>by have:=(hw w (by simp at h ⊢;rcases h with rfl | rfl | rfl | rfl<;>simp)).2;omega) (by simp)
   have lb:=jb [w4] (fun w h=>by have:=(hw w (by simp at h ⊢;simp[h])).2;omega) (by simp)
   refine⟨_,rfl,rfl,_,rfl,ifI (fun c=>absurd c (by decide)) (fun _=>⟨_,rfl,rfl,_,rfl,ifI (fun c=>absurd c (by decide)) (fun _=>⟨_,rfl,rfl,_,rfl,ifI (fun _=>⟨rfl,_,rfl,_,rfl,_,_,rfl,rfl,_,rfl,L,_,rfl,SqL.of hL,fun pa hpa=>?_⟩) (fun c=>absurd rfl c)⟩)⟩)⟩
   refine⟨32,pa,[w0,w1,w2,w3],rfl,rfl,SqL.of aaA,(by omega),_,_,rfl,rfl,(by rw[sizeLine_eq];show _+2<=_;omega),rfl,_,rfl,_,rfl,_,_,rfl,rfl,_,rfl,L,_,rfl,SqL.of ((aaB hpa _) _ _ hL),fun pb hpb=>⟨32,pb,[w4],rfl,rfl,SqL.of aaA,(by omega),_,_,rfl,rfl,(by rw[sizeLine_eq,List.length_append];show _+2+_<=_;omega),?_⟩⟩
   rw[e]
   exact fin _ (List.cons_ne_nil _ _) (by simp) (all6 (up n0) (up n1) (up n2) (up n3) z0 (up n4)) (.inl (by simp)) _ ((aaB hpa _).trans (aaB hpb _))
 |3,_=>
  have ea:[32]++T=aaF 32 [[],w0,w1,w2,w3,w4]:=by rw[eT];rfl
  have eb:T++[32]=aaF 32 [w0,w1,w2,w3,w4,[]]:=by rw[eT];exact (aAR (a:=[w0,w1,w2,w3,w4]) (b:=[[]]) (List.cons_ne_nil _ _) (List.cons_ne_nil _ _)).symm
  have fa:∀H',Same H H'->Q (.str (Tx ([32]++T))) H':=fun H' s=>by rw[ea];exact fin _ (List.cons_ne_nil _ _) (by simp) (all6 z0 (up n0) (up n1) (up n2) (up n3) (up n4)) (.inl (by simp)) _ s
  have fb:∀H',Same H H'->Q (.str (Tx (T++[32]))) H':=fun H' s=>by rw[eb];exact fin _ (List.cons_ne_nil _ _) (by simp) (all6 (up n0) (up n1) (up n2) (up n3) (up n4) z0) (.inl (by simp)) _ s
  match tn,htn with
  |0,_=>exact⟨_,rfl,rfl,_,rfl,ifI (fun c=>absurd c (by decide)) (fun _=>⟨_,rfl,rfl,_,rfl,ifI (fun c=>absurd c (by decide)) (fun _=>⟨_,rfl,rfl,_,rfl,ifI (fun c=>absurd c (by decide)) (fun _=>⟨_,rfl,rfl,_,rfl,ifI (fun _=>⟨_,rfl,_,_,rfl,rfl,(by rw[sizeLine_eq];show 1+_<=_;omega),_,rfl,_,_,rfl,rfl,(by rw[sizeLine_eq];show _+1<=_;omega),(by show 2<=sizeLine;decide),fun l2 h2=>⟨_,rfl,_,_,rfl,rfl,(by show (0:Int)<2;decide),l2,_,_,_,rfl,rfl,SqL.of aaA,rfl,fa _ (aaB h2 _)⟩⟩) (fun c=>absurd rfl c)⟩)⟩)⟩)⟩
  |1,_=>exact⟨_,rfl,rfl,_,rfl,ifI (fun c=>absurd c (by decide)) (fun _=>⟨_,rfl,rfl,_,rfl,ifI (fun c=>absurd c (by decide)) (fun _=>⟨_,rfl,rfl,_,rfl,ifI (fun c=>absurd c (by decide)) (fun _=>⟨_,rfl,rfl,_,rfl,ifI (fun _=>⟨_,rfl,_,_,rfl,rfl,(by rw[sizeLine_eq];show 1+_<=_;omega),_,rfl,_,_,rfl,rfl,(by rw[sizeLine_eq];show _+1<=_;omega),(by show 2<=sizeLine;decide),fun l2 h2=>⟨_,rfl,_,_,rfl,rfl,(by show (0:Int)<2;decide),l2,_,_,_,rfl,rfl,SqL.of aaA,rfl,fb _ (aaB h2 _)⟩⟩) (fun c=>absurd rfl c)⟩)⟩)⟩)⟩
  |2,_=>exact⟨_,rfl,rfl,_,rfl,ifI (fun c=>absurd c (by decide)) (fun _=>⟨_,rfl,rfl,_,rfl,ifI (fun c=>absurd c (by decide)) (fun _=>⟨_,rfl,rfl,_,rfl,ifI (fun c=>absurd c (by decide)) (fun _=>⟨_,rfl,rfl,_,rfl,ifI (fun _=>⟨_,rfl,_,_,rfl,rfl,(by rw[sizeLine_eq];show 1+_<=_;omega),_,rfl,_,_,rfl,rfl,(by rw[sizeLine_eq];show _+1<=_;omega),(by show 2<=sizeLine;decide),fun l2 h2=>⟨_,rfl,_,_,rfl,rfl,(by show (0:Int)<2;decide),l2,_,_,_,rfl,rfl,SqL.of aaA,rfl,fa _ (aaB h2 _)⟩⟩) (fun c=>absurd rfl c)⟩)⟩)⟩)⟩
  |3,_=>exact⟨_,rfl,rfl,_,rfl,ifI (fun c=>absurd c (by decide)) (fun _=>⟨_,rfl,rfl,_,rfl,ifI (fun c=>absurd c (by decide)) (fun _=>⟨_,rfl,rfl,_,rfl,ifI (fun c=>absurd c (by decide)) (fun _=>⟨_,rfl,rfl,_,rfl,ifI (fun _=>⟨_,rfl,_,_,rfl,rfl,(by rw[sizeLine_eq];show 1+_<=_;omega),_,rfl,_,_,rfl,rfl,(by rw[sizeLine_eq];show _+1<=_;omega),(by show 2<=sizeLine;decide),fun l2 h2=>⟨_,rfl,_,_,rfl,rfl,(by show (0:Int)<2;decide),l2,_,_,_,rfl,rfl,SqL.of aaA,rfl,fb _ (aaB h2 _)⟩⟩) (fun c=>absurd rfl c)⟩)⟩)⟩)⟩
 |4,_=>
  match tn,htn with
  |0,_=>exact⟨_,rfl,rfl,_,rfl,ifI (fun c=>absurd c (by decide)) (fun _=>⟨_,rfl,rfl,_,rfl,ifI (fun c=>absurd c (by decide)) (fun _=>⟨_,rfl,rfl,_,rfl,ifI (fun c=>absurd c (by decide)) (fun _=>⟨_,rfl,rfl,_,rfl,ifI (fun c=>absurd c (by decide)) (fun _=>⟨_,rfl,rfl,_,rfl,ifI (fun _=>⟨(by show 4<=sizeLine;decide),fun l2 h2=>⟨_,rfl,l2,_,_,_,rfl,rfl,SqL.of aaA,rfl,q _ _ (aaB h2 _) (by decide +kernel) (by decide)⟩⟩) (fun c=>absurd rfl c)⟩)⟩)⟩)⟩)⟩
  |1,_=>exact⟨_,rfl,rfl,_,rfl,ifI (fun c=>absurd c (by decide)) (fun _=>⟨_,rfl,rfl,_,rfl,ifI (fun c=>absurd c (by decide)) (fun _=>⟨_,rfl,rfl,_,rfl,ifI (fun c=>absurd c (by decide)) (fun _=>⟨_,rfl,rfl,_,rfl,ifI (fun c=>absurd c (by decide)) (fun _=>⟨_,rfl,rfl,_,rfl,ifI (fun _=>⟨(by show 4<=sizeLine;decide),fun l2 h2=>⟨_,rfl,l2,_,_,_,rfl,rfl,SqL.of aaA,rfl,q _ _ (aaB h2 _) (by decide +kernel) (by decide)⟩⟩) (fun c=>absurd rfl c)⟩)⟩)⟩)⟩)⟩
  |2,_=>exact⟨_,rfl,rfl,_,rfl,ifI (fun c=>absurd c (by decide)) (fun _=>⟨_,rfl,rfl,_,rfl,ifI (fun c=>absurd c (by decide)) (fun _=>⟨_,rfl,rfl,_,rfl,ifI (fun c=>absurd c (by decide)) (fun _=>⟨_,rfl,rfl,_,rfl,ifI (fun c=>absurd c (by decide)) (fun _=>⟨_,rfl,rfl,_,rfl,ifI (fun _=>⟨(by show 4<=sizeLine;decide),fun l2 h2=>⟨_,rfl,l2,_,_,_,rfl,rfl,SqL.of aaA,rfl,q _ _ (aaB h2 _) (by decide +kernel) (by decide)⟩⟩) (fun c=>absurd rfl c)⟩)⟩)⟩)⟩)⟩
  |3,_=>exact⟨_,rfl,rfl,_,rfl,ifI (fun c=>absurd c (by decide)) (fun _=>⟨_,rfl,rfl,_,rfl,ifI (fun c=>absurd c (by decide)) (fun _=>⟨_,rfl,rfl,_,rfl,ifI (fun c=>absurd c (by decide)) (fun _=>⟨_,rfl,rfl,_,rfl,ifI (fun c=>absurd c (by decide)) (fun _=>⟨_,rfl,rfl,_,rfl,ifI (fun _=>⟨(by show 4<=sizeLine;decide),fun l2 h2=>⟨_,rfl,l2,_,_,_,rfl,rfl,SqL.of aaA,rfl,q _ _ (aaB h2 _) (by decide +kernel) (by decide)⟩⟩) (fun c=>absurd rfl c)⟩)⟩)⟩)⟩)⟩
 |5,_=>
  have e:(aaF 32 [w0,w1,w2]++[32,32])++w3=aaF 32 [w0,w1,w2,[],w3]:=aqG (a:=[w0,w1,w2]) (b:=[w3]) (List.cons_ne_nil _ _) (List.cons_ne_nil _ _)
  have l3:=jb [w0,w1,w2] (fun w h=>(all4 (up n0) (up n1) (up n2) (up n2) w (by simp at h ⊢;rcases h with rfl | rfl | rfl<;>simp)).2) (by simp)
  refine⟨_,rfl,rfl,_,rfl,ifI (fun c=>absurd c (by decide)) (fun _=>⟨_,rfl,rfl,_,rfl,ifI (fun c=>absurd c (by decide)) (fun _=>⟨_,rfl,rfl,_,rfl,ifI (fun c=>absurd c (by decide)) (fun _=>⟨_,rfl,rfl,_,rfl,ifI (fun c=>absurd c (by decide)) (fun _=>⟨_,rfl,rfl,_,rfl,ifI (fun c=>absurd c (by decide)) (fun _=>⟨_,rfl,rfl,_,rfl,ifI (fun _=>⟨rfl,_,rfl,_,rfl,L,_,rfl,SqL.of hL,fun pc hpc=>?_⟩) (fun c=>absurd rfl c)⟩)⟩)⟩)⟩)⟩)⟩
  refine⟨32,pc,[w0,w1,w2],rfl,rfl,SqL.of aaA,(by omega),_,_,rfl,rfl,(by rw[sizeLine_eq];show _+2<=_;omega),_,rfl,L,_,_,_,rfl,rfl,SqL.of ((aaB hpc _) _ _ hL),rfl,_,_,rfl,rfl,(by have:=n3.2;rw[sizeLine_eq,List.length_append];show _+2+_<=_;omega),?_⟩
  rw[e]
  exact fin _ (List.cons_ne_nil _ _) (by simp) (all5 (up n0) (up n1) (up n2) z0 (up n3)) (.inr (by simp)) _ (aaB hpc _)
 |6,_=>
  have e:aaF 9 [aaF 32 [w0,w1,w2,w3],w4]=aaF 32 [w0,w1,w2,w3++9::w4]:=by
   show (w0++32::(w1++32::(w2++32::w3)))++9::w4=w0++32::(w1++32::(w2++32::(w3++9::w4)))
   simp
  have nx:32∉w3++9::w4/\(w3++9::w4).length<=700:=⟨fun h=>by
    rcases List.mem_append.mp h with z | z
    ·exact n3.1 z
    ·rcases List.mem_cons.mp z with y | y
     ·cases y
     ·exact n4.1 y,by have:=n3.2;have:=n4.2;rw[List.length_append,List.length_cons];omega⟩
  have l4:=jb [w0,w1,w2,w3] (fun w h=>(all4 (up n0) (up n1) (up n2) (up n3) w h).2) (by simp)
  refine⟨_,rfl,rfl,_,rfl,ifI (fun c=>absurd c (by decide)) (fun _=>⟨_,rfl,rfl,_,rfl,ifI (fun c=>absurd c (by decide)) (fun _=>⟨_,rfl,rfl,_,rfl,ifI (fun c=>absurd c (by decide)) (fun _=>⟨_,rfl,rfl,_,rfl,ifI (fun c=>absurd c (by decide)) (fun _=>⟨_,rfl,rfl,_,rfl,ifI (fun c=>absurd c (by decide)) (fun _=>⟨_,rfl,rfl,_,rfl,ifI (fun c=>absurd c (by decide)) (fun _=>⟨rfl,rfl,_,rfl,_,rfl,L,_,rfl,SqL.of hL,fun pc hpc=>?_⟩)⟩)⟩)⟩)⟩)⟩)⟩
  refine⟨32,pc,[w0,w1,w2,w3],rfl,rfl,SqL.of aaA,(by omega),_,rfl,L,_,_,_,rfl,rfl,SqL.of ((aaB hpc _) _ _ hL),rfl,(by show 2<=sizeLine;decide),fun p2 h2=>⟨9,p2,[aaF 32 [w0,w1,w2,w3],w4],rfl,rfl,SqL.of aaA,(by rw[e];exact cF _ (fun w h=>(all4 (up n0) (up n1) (up n2) nx w h).2) (by simp)),?_⟩⟩
  rw[e]
  exact fin _ (List.cons_ne_nil _ _) (by simp) (all4 (up n0) (up n1) (up n2) nx) (.inl (by simp)) _ ((aaB hpc _).trans (aaB h2 _))
theorem ah2:Df P w K mg base "_law_spoilt" 2 ["_law_text","_law_parts"] (ahX K):=by
 refine ZZ.F__law_spoilt.dfs sc__law_spoilt (fun vs H Q E h=>?_) (fun f cdv A outer s H vs Q E hr h=>?_)
 ·obtain⟨p,ws,d0,d1,d2,d3,d4,d5,d6,d7,d8,rfl,hp,⟨h1,h3,h4,h5,h6,h7,h8⟩,hg,q⟩:=h
  rfl
 obtain⟨p,ws,d0,d1,d2,d3,d4,d5,d6,d7,d8,rfl,hp,⟨h1,h3,h4,h5,h6,h7,h8⟩,hg,q⟩:=h
 refine⟨_,(ssC (aaK 2 (amZ (v_ 0) (eSx [32])) sc__law_spoilt.nd)
   (ssC (sIf (tCm oEq (eIx xL (v_ 1) eI) eI) (ss1 (aaH (aa9 (aC (eIx xL (abC (aC eN (aC eI (aC eB (aC (v_ 2) (aC (aa9 (aC (v_ 0) aN)) (aC eDi aN))))))) (eIx xL (v_ 1) eI)) (aC eI aN))))) ssN)
   (ssC (aaK 3 (eIx xL (v_ 1) eI) sc__law_spoilt.nd)
   (ssC (ahK (eD (ad6 ZZ) hr (aC (v_ 3) (aC (eIx xL (v_ 1) eI) aN))) (gSb (v_ 2) (v_ 3)))
   (ssC (sIf (tCm oEq (eIx xL (v_ 1) eI) eI) (ssC (ahK (eD (ad6 ZZ) hr (aC (eIx xL (v_ 1) eI) (aC (eIx xL (v_ 1) eI) aN))) (gSb (v_ 2) (eIx xL (v_ 1) eI)))
   (ss1 (aaK 3 (eCB cMin ZZ.z_min PyProof.Rows.boot_min (aC (v_ 3) (aC (eIx xL (v_ 1) eI) aN))) sc__law_spoilt.nd))) ssN)
   (ssC (sIf (tCm oEq (eIx xL (v_ 1) eI) eI) (ss1 (aaH (aa9 (aC (eD (aiP ZZ) hr (aC (v_ 2) (aC (eIx xL (v_ 1) eI) (aC (eIx xL (v_ 1) eI) aN)))) (aC eI aN))))) ssN)
   (ss1 (aaH (aa9 (aC (ac9 (eSx [32]) (v_ 2)) (aC (v_ 3) aN))))))))))),?_⟩
 obtain⟨_,jl,hs⟩:=alQ hg
 have hml:∀us:List (List Nat),(us.map fun w=>V.str (Tx w)).length=us.length:=fun us=>List.length_map _
 refine⟨_,rfl,rfl,_,32,rfl,rfl,(by rw[sizeLine_eq];omega),fun L hL=>?_⟩
 rw[hs]
 have t1:=aaB hL (.lst (ws.map fun w=>V.str (Tx w)))
 refine⟨_,rfl,p,_,_,_,rfl,rfl,SqL.of (t1 _ _ hp),rfl,rfl,_,rfl,ifI (fun c0=>?odd) (fun c0=>?_)⟩
 case odd=>
  refine⟨_,rfl,_,rfl,(by show 1<=sizeLine;decide),fun z2 u2=>fun z3 u3=>⟨(by show 6<=sizeLine;decide),fun z4 u4=>?_⟩⟩
  have w2:=aaB u2 (.tup [V.str (Tx (aaF 32 ws))])
  have w3:=aaB u3 (.dK [])
  have w4:=aaB u4 (.lst [V.non,.int 5,.bl true,.ref L,.ref z2,.ref z3])
  have wA:=w2.trans (w3.trans w4)
  obtain⟨v,hv,hm⟩:=afT (xs:=[V.non,.int 5,.bl true,.ref L,.ref z2,.ref z3]) (i:=d8) h8.1 h8.2
  refine⟨_,rfl,p,_,_,_,rfl,rfl,SqL.of (wA _ _ (t1 _ _ hp)),rfl,z4,_,_,v,rfl,rfl,SqL.of aaA,hv,(by show 2<=sizeLine;decide),fun t ht=>?_⟩
  have w5:=aaB ht (.tup [v,.int 5])
  refine q t v 5 _ (t1.trans (wA.trans w5)) aaA (.inl ?_)
  simp only[List.mem_cons,List.not_mem_nil,or_false] at hm
  rcases hm with rfl | rfl | rfl | rfl | rfl | rfl
  ·exact⟨.non,rfl,(fun z=>nomatch z),rfl⟩
  ·exact⟨.int,rfl,(fun z=>nomatch z),rfl⟩
  ·exact⟨.bool,rfl,(fun z=>nomatch z),rfl⟩
  ·exact⟨.list,.inl ⟨rfl,_,SqL.of (w5 _ _ (wA _ _ aaA))⟩,(fun z=>nomatch z),rfl⟩
  ·exact⟨.tuple,.inr (.inl ⟨rfl,_,SqT.of (w5 _ _ (w4 _ _ (w3 _ _ aaA)))⟩),(fun z=>nomatch z),rfl⟩
  ·exact⟨.dict,.inr (.inr ⟨rfl,_,w5 _ _ (w4 _ _ aaA)⟩),(fun z=>nomatch z),rfl⟩
 refine⟨_,rfl,p,_,_,_,rfl,rfl,SqL.of (t1 _ _ hp),rfl,?_⟩
 refine⟨_,rfl,_,rfl,p,_,_,_,rfl,rfl,SqL.of (t1 _ _ hp),rfl,d1,d4,rfl,h1,h4,fun w1 H3 s3 b1 o1 l1=>?_⟩
 have P1:=aBH hg h1 b1 o1 l1
 refine⟨_,rfl,_,rfl,L,_,_,d1,rfl,rfl,s3 _ _ aaA,(by unfold ixN;rw[if_pos (by omega),if_pos (by rw[hml,hg.1];omega)];rfl),?_⟩
 have m1:(ws.map fun w=>V.str (Tx w)).set d1 (V.str (Tx w1))=(ws.set d1 w1).map fun w=>V.str (Tx w):=(List.map_set ..).symm
 rw[m1]
 have sA:Same H (upd H3 L (.lst ((ws.set d1 w1).map fun w=>V.str (Tx w)))):=abH hL (t1.trans s3)
 have hpA:=sA _ _ hp
 have hLA:upd H3 L (.lst ((ws.set d1 w1).map fun w=>V.str (Tx w))) L=some (.lst ((ws.set d1 w1).map fun w=>V.str (Tx w))):=aaA
 generalize upd H3 L (.lst ((ws.set d1 w1).map fun w=>V.str (Tx w)))=HA at sA hpA hLA ⊢
 refine⟨_,rfl,p,_,_,_,rfl,rfl,SqL.of (hpA),rfl,rfl,_,rfl,ifI (fun c1=>?two) (fun c1=>?one)⟩
 case one=>
  refine⟨_,rfl,p,_,_,_,rfl,rfl,SqL.of (hpA),rfl,rfl,_,rfl,ifI (fun c2=>?_) (fun c2=>?_)⟩
  ·exact⟨_,rfl,_,rfl,p,_,_,_,rfl,rfl,SqL.of (hpA),rfl,_,rfl,p,_,_,_,rfl,rfl,SqL.of (hpA),rfl,L,ws.set d1 w1,d6,d7,rfl,hLA,P1.len,(fun w hw=>⟨(P1.ok w hw).1.1,(P1.ok w hw).2⟩),h6,h7,fun l H9 s9 hr hl9=>⟨(by show 2<=sizeLine;decide),fun t ht=>q t _ 5 _ (sA.trans (s9.trans (aaB ht _))) aaA (.inr ⟨l,5,rfl,hl9,hr,rfl⟩)⟩⟩
  ·exact⟨rfl,_,rfl,32,L,ws.set d1 w1,rfl,rfl,SqL.of hLA,(by have:=P1.row.2;omega),_,rfl,(by show 2<=sizeLine;decide),fun t ht=>q t _ _ _ (sA.trans (aaB ht _)) aaA (.inr ⟨_,_,rfl,(by have:=P1.row.2;omega),P1.row.1,rfl⟩)⟩
 case two=>
  refine⟨_,rfl,p,_,_,_,rfl,rfl,SqL.of (hpA),rfl,_,rfl,p,_,_,_,rfl,rfl,SqL.of (hpA),rfl,d3,d5,rfl,h3,h5,fun w2 H5 s5 b2 o2 l2=>?_⟩
  have P2:=put2 hg h1 h3 b1 o1 l1 b2 o2 l2
  have hp5:=s5 _ _ hpA
  refine⟨_,rfl,_,rfl,p,_,_,_,rfl,rfl,SqL.of hp5,rfl,L,_,_,d3,rfl,rfl,s5 _ _ hLA,(by unfold ixN;rw[if_pos (by omega),if_pos (by rw[hml,P1.len];omega)];rfl),?_⟩
  have m2:((ws.set d1 w1).map fun w=>V.str (Tx w)).set d3 (V.str (Tx w2))=((ws.set d1 w1).set d3 w2).map fun w=>V.str (Tx w):=(List.map_set ..).symm
  rw[m2]
  have sB:Same H (upd H5 L (.lst (((ws.set d1 w1).set d3 w2).map fun w=>V.str (Tx w)))):=abH hL (sA.trans s5)
  have hpB:=sB _ _ hp
  have hLB:upd H5 L (.lst (((ws.set d1 w1).set d3 w2).map fun w=>V.str (Tx w))) L=some (.lst (((ws.set d1 w1).set d3 w2).map fun w=>V.str (Tx w))):=aaA
  generalize upd H5 L (.lst (((ws.set d1 w1).set d3 w2).map fun w=>V.str (Tx w)))=HB at sB hpB hLB ⊢
  refine⟨_,rfl,_,rfl,p,_,_,_,rfl,rfl,SqL.of (hpB),rfl,_,_,rfl,?_⟩
  refine⟨_,rfl,p,_,_,_,rfl,rfl,SqL.of (hpB),rfl,rfl,_,rfl,ifI (fun c2=>?_) (fun c2=>?_)⟩
  ·exact⟨_,rfl,_,rfl,p,_,_,_,rfl,rfl,SqL.of (hpB),rfl,_,rfl,p,_,_,_,rfl,rfl,SqL.of (hpB),rfl,L,(ws.set d1 w1).set d3 w2,d6,d7,rfl,hLB,P2.len,(fun w hw=>⟨(P2.ok w hw).1.1,(P2.ok w hw).2⟩),h6,h7,fun l H9 s9 hr hl9=>⟨(by show 2<=sizeLine;decide),fun t ht=>q t _ 5 _ (sB.trans (s9.trans (aaB ht _))) aaA (.inr ⟨l,5,rfl,hl9,hr,rfl⟩)⟩⟩
  ·exact⟨rfl,_,rfl,32,L,(ws.set d1 w1).set d3 w2,rfl,rfl,SqL.of hLB,(by have:=P2.row.2;omega),_,rfl,(by show 2<=sizeLine;decide),fun t ht=>q t _ _ _ (sB.trans (aaB ht _)) aaA (.inr ⟨_,_,rfl,(by have:=P2.row.2;omega),P2.row.1,(by split<;>split<;>omega)⟩)⟩
theorem aD5{fL:Addr}{fdL:FuncData}(F:Fun K "law" "law" ajD fL fdL):FnOk P w K mg base CX0 13 fL fdL ["_law_script"] (sp_law K):=by
 refine F.oks sc_law (fun vs H Q E h=>?_) (fun cdv A outer s H vs Q E hr h=>?_)
 ·obtain⟨a,ns,rfl,hS,hlen,q⟩:=h
  rfl
 obtain⟨a,ns,rfl,hS,hlen,q⟩:=h
 refine⟨_,(ssC (aaK 1 (akO oEq (eOp abQ (eD (abO ZZ) hr (aC (v_ 0) (aC eI aN))) eI) eI) sc_law.nd)
   (ssC (ahK (eD (akZ ZZ) hr (aC (eD (aiI ZZ) hr (aC (v_ 0) (aC eI aN))) (aC (v_ 1) aN))) (gTu (gsC (gN 2 sc_law.nd) (gsC (gN 3 sc_law.nd) gsN))))
   (ssC (sIf (tW (wOr (tCm oNe (eD (aaZ ZZ) hr (aC (v_ 2) aN)) (eSx [114,111,119])) (afY (tCm oNe (eD (aaZ ZZ) hr (aC (eOp aa6 (eOp an6 (eSx [49,44]) eI) (eSx [32,42,32,42,32,42,32,42])) aN)) eI)))) (ss1 (aaH eB)) ssN)
   (ssC (sIf (tW (wOr (tCm oNe (eD (aaZ ZZ) hr (aC (eOp aa6 (v_ 2) (eSx [10])) aN)) eI) (afY (tCm oNe (eD (aaZ ZZ) hr (aC (eOp aa6 (eSx [10]) (v_ 2)) aN)) eI)))) (ss1 (aaH eB)) ssN)
   (ssC (sIf (tW (wOr (tCm oNe (eD (aaZ ZZ) hr (aC (eOp aa6 (eOp an6 (eSx [49,44]) eI) (eSx [49,32,42,32,42,32,42,32,42])) aN)) eI) (afY (tCm oNe (eD (aaZ ZZ) hr (aC (eOp aa6 (eSx [42,32,42,32,42,32,42,32,42,32]) (eOp an6 (eSx [32]) eI)) aN)) eI)))) (ss1 (aaH eB)) ssN)
   (ssC (al6 (iR1 ZZ.z_range (aC eI aN)) (gN 4 sc_law.nd) (ssC (aaK 5 (eD (ab0 ZZ) hr (aC (eD (abO ZZ) hr (aC (v_ 0) (aC (eOp abE eI (v_ 4)) aN))) (aC (abC (axO [4,5,3,5,16,16,7,4,6])) (aC (v_ 1) aN)))) sc_law.nd)
   (ssC (ahK (eD (ah2 ZZ) hr (aC (v_ 2) (aC (v_ 5) aN))) (gTu (gsC (gN 6 sc_law.nd) (gsC (gN 7 sc_law.nd) gsN))))
   (ss1 (sIf (tW (wOr (tCm oNe (eD (aaZ ZZ) hr (aC (v_ 6) aN)) (v_ 7)) (afY (tCm oNe (eD (aaZ ZZ) hr (aC (v_ 2) aN)) (eSx [114,111,119]))))) (ss1 (aaH eB)) ssN)))) PassesOwn.never)
   (ss1 (aaH eB)))))))),?_⟩
 have e9:∀z∈([4,5,3,5,16,16,7,4,6]:List Int),0<z/\z<1073741824:=by decide
 refine⟨_,rfl,a,_,rfl,⟨ns,hS⟩,⟨by decide,by decide⟩,fun c0=>⟨_,_,rfl,rfl,(by show (0:Int)<2;decide),rfl,?_⟩⟩
 obtain⟨bm,ebm⟩:∃bm,bm=decide (V.int (c0%2)=V.int 1):=⟨_,rfl⟩
 show abS 1 (V.bl (decide (V.int (c0%2)=V.int 1))) _ _ _
 rw[←ebm]
 refine⟨_,rfl,a,_,rfl,⟨ns,hS⟩,⟨by decide,by decide⟩,fun p c0 c1 c2 c3 c4 H1 s1 hp=>⟨_,rfl,p,c0,c1,c2,c3,c4,bm,rfl,SqL.of hp,fun t R w0 w1 w2 w3 w4 m0 m1 m3 v2 v4 kd kw H2 s2 ht hR f0 f1 f3 d2 d4 sv2 sv4 hz hb=>⟨t,_,rfl,SqT.of ht,rfl,_,_,rfl,_,_,rfl,rfl,?_⟩⟩⟩
 have hg:=atY f0 f1 f3 d2 d4
 have g4:=hg.2.2 w4 (by simp)
 have g0:=hg.2.2 w0 (by simp)
 obtain⟨gr,gl,_⟩:=alQ hg
 have rn:=ax7 (j:=4) (w:=w4++[10]) hg (by decide) (by simp) ⟨(n32 g4.1.1).1,by simp⟩ (by rw[List.length_append,List.length_singleton];omega)
 have r0:=ax7 (j:=0) (w:=10::w0) hg (by decide) (by simp) ⟨(n32 g0.1.1).2,by simp⟩ (by rw[List.length_cons];omega)
 have en:aaF 32 [w0,w1,w2,w3,w4]++[10]=aaF 32 ([w0,w1,w2,w3,w4].set 4 (w4++[10])):=by
  show (w0++32::(w1++32::(w2++32::(w3++32::w4))))++[10]=w0++32::(w1++32::(w2++32::(w3++32::(w4++[10]))))
  simp
 have e0:[10]++aaF 32 [w0,w1,w2,w3,w4]=aaF 32 ([w0,w1,w2,w3,w4].set 0 (10::w0)):=rfl
 rw[←en] at rn
 rw[←e0] at r0
 generalize [w0,w1,w2,w3,w4]=ws at hg gr gl rn r0 ⊢
 obtain⟨T,eT⟩:∃T,T=aaF 32 ws:=⟨_,rfl⟩
 rw[←eT] at gr gl rn r0 ⊢
 refine⟨_,rfl,_,rfl,.inr ⟨T,rfl,(by omega),fun H3 s3=>?_⟩⟩
 rw[gr]
 refine⟨rfl,_,rfl,?_⟩
 show if (!decide (V.str (Tx [114,111,119])=V.str (Tx [114,111,119])))=true then _ else _
 rw[decide_eq_true rfl]
 refine aa7 ⟨_,796,rfl,rfl,(by decide),(by decide),_,_,rfl,rfl,(by rw[sizeLine_eq];decide +kernel),_,rfl,.inr ⟨txA,rfl,(by rw[aE5.2];decide),fun H4 s4=>?_⟩⟩
 rw[aE5.1]
 refine⟨rfl,_,rfl,?_⟩
 show if (!decide (V.int ((0:Nat):Int)=V.int 0))=true then _ else _
 rw[show decide (V.int ((0:Nat):Int)=V.int 0)=true from decide_eq_true rfl]
 refine aa7 ⟨_,rfl,_,_,rfl,rfl,(by rw[sizeLine_eq];show _+1<=_;omega),_,rfl,.inr ⟨T++[10],rfl,(by omega),fun H5 s5=>?_⟩⟩
 rw[rn.1]
 refine⟨rfl,_,rfl,?_⟩
 show if (!decide (V.int ((4:Nat):Int)=V.int 4))=true then _ else _
 rw[show decide (V.int ((4:Nat):Int)=V.int 4)=true from decide_eq_true rfl]
 refine aa7 ⟨_,rfl,_,_,rfl,rfl,(by rw[sizeLine_eq];show 1+_<=_;omega),_,rfl,.inr ⟨[10]++T,rfl,(by omega),fun H6 s6=>?_⟩⟩
 rw[r0.1]
 refine⟨rfl,_,rfl,?_⟩
 show if (!decide (V.int ((0:Nat):Int)=V.int 0))=true then _ else _
 rw[show decide (V.int ((0:Nat):Int)=V.int 0)=true from decide_eq_true rfl]
 refine aa7 ⟨_,796,rfl,rfl,(by decide),(by decide),_,_,rfl,rfl,(by rw[sizeLine_eq];decide +kernel),_,rfl,.inr ⟨txB,rfl,(by rw[aGP.2];decide),fun H7 s7=>?_⟩⟩
 rw[aGP.1]
 refine⟨rfl,_,rfl,?_⟩
 show if (!decide (V.int ((5:Nat):Int)=V.int 5))=true then _ else _
 rw[show decide (V.int ((5:Nat):Int)=V.int 5)=true from decide_eq_true rfl]
 refine aa7 ⟨_,1595,rfl,rfl,(by decide),(by decide),_,_,rfl,rfl,(by rw[sizeLine_eq];decide +kernel),_,rfl,.inr ⟨txC,rfl,(by rw[aIL.2];decide),fun H8 s8=>?_⟩⟩
 rw[aIL.1]
 refine⟨rfl,_,rfl,?_⟩
 show if (!decide (V.int ((5:Nat):Int)=V.int 5))=true then _ else _
 rw[show decide (V.int ((5:Nat):Int)=V.int 5)=true from decide_eq_true rfl]
 have sX:Same H H8:=s1.trans (s2.trans (s3.trans (s4.trans (s5.trans (s6.trans (s7.trans s8))))))
 clear s3 s4 s5 s6 s7 s8
 refine aa7 ⟨_,rfl,by decide,by decide,afQ (fun i σ H9=>∃(u4 u5 u6 u7:Option V),σ=[some (.ref a),some (.bl bm),some (.str (Tx T)),some (.ref R),u4,u5,u6,u7]/\Same H8 H9) ⟨_,_,_,_,rfl,Same.refl _⟩ ?turn ?done⟩
 case done=>
  rintro σ H9 ⟨u4,u5,u6,u7,rfl,s9⟩
  exact q H9
 case turn=>
  rintro i σ H9 hi ⟨u4,u5,u6,u7,rfl,s6⟩
  have hi':i<4:=hi
  refine⟨_,rfl,_,rfl,_,_,rfl,rfl,a,_,rfl,⟨ns,(sX.trans s6).seq hS⟩,⟨by omega,by omega⟩,fun c=>⟨(by show 9<=sizeLine;decide),fun ls hls=>⟨_,rfl,c,ls,bm,[4,5,3,5,16,16,7,4,6],rfl,SqL.of aaA,e9,(by decide),fun ds pp H3 s3 hpp hd=>?_⟩⟩⟩
  obtain⟨d0,d1,d2',d3,d4',d5,d6,d7,d8,rfl,b1,b3,b4,b5,b6,b7,b8⟩:=nine hd
  refine⟨_,rfl,_,rfl,pp,ws,d0,d1,d2',d3,d4',d5,d6,d7,d8,(by rw[eT];rfl),hpp,⟨b1,b3,b4,b5,b6,b7,b8⟩,hg,fun tt v A H5 s5 htt hRf=>⟨tt,_,rfl,SqT.of htt,rfl,_,_,rfl,_,_,rfl,rfl,?_⟩⟩
  have s36:Same H9 H5:=(aaB hls _).trans (s3.trans s5)
  refine⟨_,rfl,v,rfl,?_⟩
  rcases hRf with ⟨kd',hk,nk,rfl⟩ | ⟨l,pz,rfl,hl,hr,rfl⟩
  ·refine .inl ⟨kd',hk,nk,fun H7 s7=>⟨_,rfl,rfl,_,rfl,?_⟩⟩
   rw[decide_eq_true rfl]
   refine aa7 ⟨_,rfl,_,rfl,.inr ⟨_,rfl,(by omega),fun H8 s8=>?_⟩⟩
   rw[gr]
   refine⟨rfl,_,rfl,?_⟩
   show if (!decide (V.str (Tx [114,111,119])=V.str (Tx [114,111,119])))=true then _ else _
   rw[decide_eq_true rfl]
   exact aa7 ⟨_,_,_,_,rfl,s6.trans (s36.trans (s7.trans s8))⟩
  ·refine .inr ⟨l,rfl,hl,fun H7 s7=>?_⟩
   rw[hr]
   refine⟨_,rfl,rfl,_,rfl,?_⟩
   show if (!decide (V.int (pz:Int)=V.int (pz:Int)))=true then _ else _
   rw[decide_eq_true rfl]
   refine aa7 ⟨_,rfl,_,rfl,.inr ⟨_,rfl,(by omega),fun H8 s8=>?_⟩⟩
   rw[gr]
   refine⟨rfl,_,rfl,?_⟩
   show if (!decide (V.str (Tx [114,111,119])=V.str (Tx [114,111,119])))=true then _ else _
   rw[decide_eq_true rfl]
   exact aa7 ⟨_,_,_,_,rfl,s6.trans (s36.trans (s7.trans s8))⟩
end
theorem all_mk{l:PySem.W.OpenLaw}{w:World}{K:PySem.W.Frag}{h:Heap}{mg:Str->Option Value}{fa f:Addr}{C_Numbers C_Last C_Near C_Weekdays C_Nth C_LastOne C_LastWork C_Mark C_Row C_NoField C_NoRow C_read_weekday_mark C_read_day_mark C_FieldError C_NoBook C_NoClock C_NoDay C_NoMoment C_NoName C_NoWord a_BOUNDS a_BOUNDS_0 a_BOUNDS_1 a_BOUNDS_3:Addr}{t_FIGURES t_MOST_STRIDE t_MOST_SIGNS t_MOST_ITEMS t_MOST_BACK t_MOST_DAY t_SUNDAY_TOO t_SUNDAY t_MOST_NTH t_MOST_MARKS t_ALL_WEEKDAYS t_HOUR_MINUTES t_MINUTE t_HOUR t_DAY t_MONTH t_WEEKDAY t_MOST_ROW_SIGNS t_NO_PLACE:Tok}{oc kV dc pm cd ct:Value}{od an:Option Addr}{sl:Array (Option Value)}(X:K.In h)(G:h.Ns mainGlobals mg)(hfa:mg "law"=some (.ref fa))(ZZ:Fs K mg C_Numbers C_Last C_Near C_Weekdays C_Nth C_LastOne C_LastWork C_Mark C_Row C_NoField C_NoRow C_read_weekday_mark C_read_day_mark C_FieldError C_NoBook C_NoClock C_NoDay C_NoMoment C_NoName C_NoWord a_BOUNDS a_BOUNDS_0 a_BOUNDS_1 a_BOUNDS_3 t_FIGURES t_MOST_STRIDE t_MOST_SIGNS t_MOST_ITEMS t_MOST_BACK t_MOST_DAY t_SUNDAY_TOO t_SUNDAY t_MOST_NTH t_MOST_MARKS t_ALL_WEEKDAYS t_HOUR_MINUTES t_MINUTE t_HOUR t_DAY t_MONTH t_WEEKDAY t_MOST_ROW_SIGNS t_NO_PLACE)
  (a:PySem.W.nsIn K mainGlobals "law"=some (some (.ref f))) (lk:K.lookup f=some ⟨oc,od,.func (PySem.W.fnOf "law" "law" (abA ajD) (aaP ajD) (aaC ajD) .none kV dc pm an cd ct),sl⟩) (c:PySem.W.codeIn K cd "law"=true) (k:PySem.W.keepIn K (.ref f)=true):
  ∃fd:FuncData,(∀(s:Shared) (v:Value),BindsTo s fd ⟨[v],[]⟩ [("_law_script",v)])/\∀base:Heap,K.In base->base.Ns mainGlobals mg->FnOk l.prog w K mg base CX0 13 fa fd ["_law_script"] (sp_law K):=by
 cases hfa.symm.trans (PySem.W.mg_of X G a)
 exact⟨_,fun s v=>.of_eq rfl,fun base _ _=>aD5 ZZ (anE (st:=ajD) lk c k)⟩
theorem walk{l:PySem.W.OpenLaw}{q:Program}{loose:List Str}{XP:(Str->Option Value)->Heap->Prop}{YP:World->Heap->Prop}{d:DefRec}{K:Params->PySem.W.Frag}(hn:l.most=some 63)(hdf:d.params.defaults=[])
  (hY:∀(w:World) (h:Heap),YP w h->(K w.params).In h)
  (F:∀(w:World) (mg:Str->Option Value) (fa:Addr) (h:Heap),(K w.params).In h->h.Ns mainGlobals mg->mg d.name=some (.ref fa)->
   ∃fd:FuncData,(∀(s:Shared) (u:Value),BindsTo s fd ⟨[u],[]⟩ [("_law_script",u)])/\∀base:Heap,(K w.params).In base->base.Ns mainGlobals mg->FnOk l.prog w (K w.params) mg base CX0 13 fa fd ["_law_script"] (sp_law (K w.params))):
  PySem.W.WalkO q loose XP YP l.row.toRowW d [] (fun f vs=>PySem.call f vs):=
 L2.walk_of (n:=63) (k:=13) (x:="_law_script") (CX:=fun _=>CX0) (sp:=fun w=>sp_law (K w.params)) hn (by decide) hdf ⟨rfl,by decide,by decide⟩ hY F (fun _ _ a ns hl _ hS=>⟨a,ns,rfl,hS,hl,fun _=>rfl⟩) fun _ _ _ _ _ z=>z
end K46
open PySem PySem.W PyProof.Rows
local macro_rules
  | `(tactic| o_head $H) => `(tactic| (
      refine holds_open (q := Hd.seenBy) (loose := Hd.free) (N := 13380)
        (Xt := Hd.XT)
        (XP := XL Hd.seenBy Hd.read)
        (Yf := Hook.obs $H) (Ya := Hook.val $H) (YP := Hook.says $H)
        ?hl (Hook.of $H) (Hook.keeps $H)
        (fun z y => xl_of z (Bool.and_eq_true_iff.mp y).1) XL.keeps
        (by rfl) (by rfl) (by rfl)
        (fun z y => recFacts_of (Bool.and_eq_true_iff.mp y).2)
        (by rfl) (by first | assumption | decide +kernel) (by decide +kernel)
        ⟨rfl,rfl,rfl,rfl,rfl,by decide +kernel⟩ ?hw ?hc
      (case hl =>
        refine LeftO.of_pieces Hd.opn Hd.siz Hd.run rfl ?_
        intro w
        funext os
        refine looks_pair (Hd.lk0 w os) (looks_pair (Hd.look w os) ?_)
        as_aux_lemma => kernel_rfl)))
open PySem PySem.W PyProof.Rows L2
set_option maxRecDepth 100000 in
set_option maxHeartbeats 0 in
theorem PySem.Challenge.cw_fivefields_k46_rows_refused_holds : PySem.Challenge.rw_fivefields_k46_rows_refused.Holds := by
 w_on;o_law;k_head;(case hw=>w_witness2)
 k_fill
 refine K46.walk (l:=PySem.Challenge.rw_fivefields_k46_rows_refused) rfl rfl (fun w h Y=>PySem.W.kIn_of Y) ?F
 case F=>
  intro w mg fa h KX G hmg
  refine' K46.all_mk KX G hmg ⟨
   ⟨PySem.W.mg_of KX G ?_,⟨?_,?_,?_,?_⟩,?_,?_⟩,
   ?_,
   ⟨PySem.W.mg_of KX G ?_,⟨?_,?_,?_,?_⟩,?_,?_⟩,
   ?_,
   ⟨PySem.W.mg_of KX G ?_,⟨?_,?_,?_,?_⟩,?_,?_⟩,
   ?_,
   ⟨PySem.W.mg_of KX G ?_,⟨?_,?_,?_,?_⟩,?_,?_⟩,
   ?_,
   ⟨PySem.W.mg_of KX G ?_,⟨?_,?_,?_,?_⟩,?_,?_⟩,
   ?_,
   ?_,
   ⟨PySem.W.mg_of KX G ?_,⟨?_,?_,?_,?_⟩,?_,?_⟩,
   ?_,
   ⟨PySem.W.mg_of KX G ?_,⟨?_,?_,?_,?_⟩,?_,?_⟩,
   ?_,
   ⟨PySem.W.mg_of KX G ?_,⟨?_,?_,?_,?_⟩,?_,?_⟩,
   ?_,
   ⟨PySem.W.mg_of KX G ?_,⟨?_,?_,?_,?_⟩,?_,?_⟩,
   ?_,
   ?_,
   ?_,
   ?_,
   ?_,
   ?_,
   PySem.W.mg_of KX G ?_,
   PySem.W.mg_of KX G ?_,
   PySem.W.mg_of KX G ?_,
   PySem.W.mg_of KX G ?_,
   PySem.W.mg_of KX G ?_,
   PySem.W.mg_of KX G ?_,
   PySem.W.mg_of KX G ?_,
   PySem.W.mg_of KX G ?_,
   PySem.W.mg_of KX G ?_,
   PySem.W.mg_of KX G ?_,
   PySem.W.mg_of KX G ?_,
   ⟨⟨?f0_NoField,?_,?_,?_,?_,?_,?_,?_⟩,?fd_NoField,?_,?_⟩,
   ?xj0_NoField,
   ?_,
   ?rxk_NoField_NoField,
   ⟨⟨?f0_NoRow,?_,?_,?_,?_,?_,?_,?_⟩,?fd_NoRow,?_,?_⟩,
   ?xj0_NoRow,
   ?_,
   ?rxk_NoRow_FieldError,
   ?rxi_NoRow,
   ?rxv_NoRow,
   ?rxt_NoRow,
   ⟨?_,?_,?_,?_⟩,
   ?rkt_Row,
   K46.mg_tx (x:="0123456789") KX G (by decide +kernel) ?_,
   PySem.W.mg_of KX G ?_,
   PySem.W.mg_of KX G ?_,
   PySem.W.mg_of KX G ?_,
   PySem.W.mg_of KX G ?_,
   PySem.W.mg_of KX G ?_,
   PySem.W.mg_of KX G ?_,
   PySem.W.mg_of KX G ?_,
   PySem.W.mg_of KX G ?_,
   PySem.W.mg_of KX G ?_,
   PySem.W.mg_of KX G ?_,
   PySem.W.mg_of KX G ?_,
   PySem.W.mg_of KX G ?_,
   PySem.W.mg_of KX G ?_,
   PySem.W.mg_of KX G ?_,
   PySem.W.mg_of KX G ?_,
   PySem.W.mg_of KX G ?_,
   PySem.W.mg_of KX G ?_,
   K46.q_BOUNDS ?_,
   K46.q_BOUNDS_0 ?_,
   K46.q_BOUNDS_1 ?_,
   K46.q_BOUNDS_3 ?_,
   PySem.W.mg_of KX G ?_,
   PySem.W.mg_of KX G ?_,
   PySem.W.mg_none_of KX G ?_,
   PySem.W.mg_none_of KX G ?_,
   PySem.W.mg_none_of KX G ?_,
   PySem.W.mg_none_of KX G ?_,
   PySem.W.mg_none_of KX G ?_,
   PySem.W.mg_none_of KX G ?_,
   PySem.W.mg_none_of KX G ?_,
   PySem.W.mg_none_of KX G ?_,
   PySem.W.mg_none_of KX G ?_,
   PySem.W.mg_none_of KX G ?_,
   PySem.W.mg_none_of KX G ?_,
   PySem.W.mg_none_of KX G ?_,
   PySem.W.mg_none_of KX G ?_,
   PySem.W.mg_none_of KX G ?_,
   PySem.W.mg_none_of KX G ?_,
   adF ?_ ?_ ?_ ?_ ?_ fun _ _ _ _ _ _ us hl=>by obtain⟨_,_,rfl⟩:=ac7 hl;rfl,
   adF ?_ ?_ ?_ ?_ ?_ fun _ _ _ _ _ _ us hl=>by obtain⟨_,_,rfl⟩:=ac7 hl;rfl,
   aaR KX G ?_ ?_ ?_ ?_ fun _ _ _ _ _ _ us hl=>by obtain⟨_,rfl⟩:=aeH hl;rfl,
   aaR KX G ?_ ?_ ?_ ?_ fun _ _ _ _ _ _ us hl=>by obtain⟨_,rfl⟩:=aeH hl;rfl,
   aaR KX G ?_ ?_ ?_ ?_ fun _ _ _ _ _ _ us hl=>by obtain⟨_,_,rfl⟩:=ac7 hl;rfl,
   aaR KX G ?_ ?_ ?_ ?_ fun _ _ _ _ _ _ us hl=>by obtain⟨_,rfl⟩:=aeH hl;rfl,
   aaR KX G ?_ ?_ ?_ ?_ fun _ _ _ _ _ _ us hl=>by obtain⟨_,rfl⟩:=aeH hl;rfl,
   aaR KX G ?_ ?_ ?_ ?_ fun _ _ _ _ _ _ us hl=>by obtain⟨_,_,_,rfl⟩:=aiH hl;rfl,
   aaR KX G ?_ ?_ ?_ ?_ fun _ _ _ _ _ _ us hl=>by obtain⟨_,_,_,rfl⟩:=aiH hl;rfl,
   aaR KX G ?_ ?_ ?_ ?_ fun _ _ _ _ _ _ us hl=>by obtain⟨_,_,_,rfl⟩:=aiH hl;rfl,
   aaR KX G ?_ ?_ ?_ ?_ fun _ _ _ _ _ _ us hl=>by obtain⟨_,_,_,_,rfl⟩:=auE hl;rfl,
   aaR KX G ?_ ?_ ?_ ?_ fun _ _ _ _ _ _ us hl=>by obtain⟨_,_,_,rfl⟩:=aiH hl;rfl,
   aaR KX G ?_ ?_ ?_ ?_ fun _ _ _ _ _ _ us hl=>by obtain⟨_,_,_,rfl⟩:=aiH hl;rfl,
   adF ?_ ?_ ?_ ?_ ?_ fun _ _ _ _ _ _ us hl=>by obtain⟨_,_,rfl⟩:=ac7 hl;rfl,
   K46.md_Last___init__ ?_ ?_ ?_ ?_ ?_ ?_,
   adF ?_ ?_ ?_ ?_ ?_ fun _ _ _ _ _ _ us hl=>by obtain⟨_,_,rfl⟩:=ac7 hl;rfl,
   adF ?_ ?_ ?_ ?_ ?_ fun _ _ _ _ _ _ us hl=>by obtain⟨_,_,rfl⟩:=ac7 hl;rfl,
   adF ?_ ?_ ?_ ?_ ?_ fun _ _ _ _ _ _ us hl=>by obtain⟨_,_,_,rfl⟩:=aiH hl;rfl,
   adF ?_ ?_ ?_ ?_ ?_ fun _ _ _ _ _ _ us hl=>by obtain⟨_,_,rfl⟩:=ac7 hl;rfl,
   aaR KX G ?_ ?_ ?_ ?_ fun _ _ _ _ _ _ us hl=>by obtain⟨_,rfl⟩:=aeH hl;rfl,
   aaR KX G ?_ ?_ ?_ ?_ fun _ _ _ _ _ _ us hl=>by obtain⟨_,rfl⟩:=aeH hl;rfl,
   aaR KX G ?_ ?_ ?_ ?_ fun _ _ _ _ _ _ us hl=>by obtain⟨_,rfl⟩:=aeH hl;rfl,
   aaR KX G ?_ ?_ ?_ ?_ fun _ _ _ _ _ _ us hl=>by obtain⟨_,_,_,_,rfl⟩:=auE hl;rfl,
   aaR KX G ?_ ?_ ?_ ?_ fun _ _ _ _ _ _ us hl=>by obtain⟨_,rfl⟩:=aeH hl;rfl,
   aaR KX G ?_ ?_ ?_ ?_ fun _ _ _ _ _ _ us hl=>by obtain⟨_,rfl⟩:=aeH hl;rfl,
   aaR KX G ?_ ?_ ?_ ?_ fun _ _ _ _ _ _ us hl=>by obtain⟨_,_,rfl⟩:=ac7 hl;rfl,
   adF ?_ ?_ ?_ ?_ ?_ fun _ _ _ _ _ _ us hl=>by obtain⟨_,_,rfl⟩:=ac7 hl;rfl,
   aaR KX G ?_ ?_ ?_ ?_ fun _ _ _ _ _ _ us hl=>by obtain⟨_,_,rfl⟩:=ac7 hl;rfl,
   aaR KX G ?_ ?_ ?_ ?_ fun _ _ _ _ _ _ us hl=>by obtain⟨_,_,rfl⟩:=ac7 hl;rfl,
   aaR KX G ?_ ?_ ?_ ?_ fun _ _ _ _ _ _ us hl=>by obtain⟨_,rfl⟩:=aeH hl;rfl,
   aaR KX G ?_ ?_ ?_ ?_ fun _ _ _ _ _ _ us hl=>by obtain⟨_,_,rfl⟩:=ac7 hl;rfl,
   aaR KX G ?_ ?_ ?_ ?_ fun _ _ _ _ _ _ us hl=>by obtain⟨_,rfl⟩:=aeH hl;rfl,
   aaR KX G ?_ ?_ ?_ ?_ fun _ _ _ _ _ _ us hl=>by obtain⟨_,_,_,rfl⟩:=aiH hl;rfl,
   aaR KX G ?_ ?_ ?_ ?_ fun _ _ _ _ _ _ us hl=>by obtain⟨_,rfl⟩:=aeH hl;rfl,
   aaR KX G ?_ ?_ ?_ ?_ fun _ _ _ _ _ _ us hl=>by obtain⟨_,_,_,_,_,rfl⟩:=len5 hl;rfl,
   aaR KX G ?_ ?_ ?_ ?_ fun _ _ _ _ _ _ us hl=>by obtain⟨_,rfl⟩:=aeH hl;rfl,
   aaR KX G ?_ ?_ ?_ ?_ fun _ _ _ _ _ _ us hl=>by obtain⟨_,_,rfl⟩:=ac7 hl;rfl,
   aaR KX G ?_ ?_ ?_ ?_ fun _ _ _ _ _ _ us hl=>by obtain⟨_,_,_,_,rfl⟩:=auE hl;rfl,
   aaR KX G ?_ ?_ ?_ ?_ fun _ _ _ _ _ _ us hl=>by obtain⟨_,_,_,rfl⟩:=aiH hl;rfl,
   aaR KX G ?_ ?_ ?_ ?_ fun _ _ _ _ _ _ us hl=>by obtain⟨_,_,rfl⟩:=ac7 hl;rfl,
   aaR KX G ?_ ?_ ?_ ?_ fun _ _ _ _ _ _ us hl=>by obtain⟨_,_,rfl⟩:=ac7 hl;rfl,
   aaR KX G ?_ ?_ ?_ ?_ fun _ _ _ _ _ _ us hl=>by obtain⟨_,rfl⟩:=aeH hl;rfl,
   aaR KX G ?_ ?_ ?_ ?_ fun _ _ _ _ _ _ us hl=>by obtain⟨_,_,rfl⟩:=ac7 hl;rfl,
   aaR KX G ?_ ?_ ?_ ?_ fun _ _ _ _ _ _ us hl=>by obtain⟨_,_,_,rfl⟩:=aiH hl;rfl,
   aaR KX G ?_ ?_ ?_ ?_ fun _ _ _ _ _ _ us hl=>by obtain⟨_,_,rfl⟩:=ac7 hl;rfl⟩ ?_ ?_ ?_ ?_
  (case f0_NoField=>kernel_rfl)
  (case fd_NoField=>kernel_rfl)
  (case xj0_NoField=>kernel_rfl)
  (case rxk_NoField_NoField=>kernel_rfl)
  (case f0_NoRow=>kernel_rfl)
  (case fd_NoRow=>kernel_rfl)
  (case xj0_NoRow=>kernel_rfl)
  (case rxk_NoRow_FieldError=>kernel_rfl)
  (case rxi_NoRow=>kernel_rfl)
  (case rxv_NoRow=>kernel_rfl)
  (case rxt_NoRow=>kernel_rfl)
  (case rkt_Row=>kernel_rfl)
  all_goals try (as_aux_lemma=>k_is)
