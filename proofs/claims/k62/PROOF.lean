import PyProof.Rows.All
import Wide.All
import OpenK.AllK
import Wide.FinOn
import Lean
import PyProof.EqAt
import PyProof.EqKinds
import PyProof.TupleCall
import PySem.Challenge.RW_fivefields_k62_books_refused
set_option maxHeartbeats 4000000
set_option compiler.extract_closed false
namespace Hd
open PySem PySem.W PySem.Calls PyProof.Rows
section
set_option maxHeartbeats 0
set_option maxRecDepth 100000
set_option linter.all false
noncomputable section
noncomputable abbrev pw:Program:=PySem.Challenge.pw_fivefields_k62_books_refused
noncomputable abbrev bi:List Stmt:=behindTheImports pw
noncomputable def nth:List Stmt->Nat->Stmt
 |s::_,0=>s
 |_::r,n+1=>nth r n
 |[],_=>.Pass default
noncomputable def tp(i:Nat):Stmt:=nth pw.main.body i
noncomputable def bd:Stmt->List Stmt
 |.FunctionDef _ _ b _ _ _ _ _ _ _=>b
 |.ClassDef _ _ _ b _ _ _ _ _ _ _=>b
 |_=>[]
noncomputable def ag:Stmt->Arguments
 |.FunctionDef _ a _ _ _ _ _ _ _ _=>a
 |_=>⟨[],[],none,[],[],none,[]⟩
noncomputable def sc:Stmt->Scope
 |.FunctionDef _ _ _ _ _ _ s _ _ _=>s
 |.ClassDef _ _ _ _ _ _ s _ _ _ _=>s
 |_=>pw.main.scope
noncomputable def r(a:Addr):Value:=.ref a
noncomputable def i(n:Int):Value:=.int n 0
noncomputable def de(P:Params)(k:Str)(t:Tok)(v:Value):DictEntry:=⟨PyData.keyHash P k,.str k t,v⟩
noncomputable def tu(l:List Value):Obj:=⟨.type "tuple",none,.seq l.toArray 0,#[]⟩
noncomputable def di(l:List DictEntry)(n:Nat):Obj:=⟨.type "dict",none,.dict l.toArray n,#[]⟩
noncomputable def co(l:List Value):Obj:=⟨.type "code",none,.fields l.toArray,#[]⟩
noncomputable def fd(l:List Value):Obj:=⟨.none,none,.fields l.toArray,#[]⟩
noncomputable def lf(x:Obj):BT:=.node x .nil .nil
noncomputable abbrev nd:Obj->BT->BT->BT:=BT.node
noncomputable def sf(t:Tok):Value:=.str "/claim/cut.py" t
noncomputable def fz(n q:Str)(s:Stmt):Obj:=⟨.none,none,.func ⟨n,q,ag s,.stmts (bd s),sc s,0,[],.none,.none,.none,.none,none,.none,.none,0⟩,#[]⟩
noncomputable def fn(n q:Str)(s:Stmt)(g:Addr)(c:List (Str×Addr))(d k o m:Value)(a:Option Addr)(x y:Value)(b:Addr):Obj:=⟨.type "function",none,.func ⟨n,q,ag s,.stmts (bd s),sc s,g,c,d,k,o,m,a,x,y,b⟩,#[]⟩
noncomputable def ib(s:Stmt)(i:Nat):Stmt:=nth (bd s) i
noncomputable def ev:Env:={scope:=pw.main.scope,locals:=mainNs,globals:=mainNs,cells:=[],code:=(r 13),frame:=some 14}
noncomputable def cd:Code:=.body bi ev
noncomputable abbrev an:Option Value:=(some (r 6))
noncomputable abbrev bk:List Frame:=[topFrame ⟨0,0,0,0⟩]
def o0:Obj:=tu []
def o1:Obj:=fd []
def o2:Obj:=co [(.str "<module>" 182),(.str "<module>" 183),(sf 184),(i 1),(i 0),(i 0),(i 0),(i 0),(r 11),(.bool false),(i 181),(r 12),.none,.none,.none,.none,(i 185),(i 1),(sf 186)]
def o3:Obj:=⟨(.type "frame"),none,.plain,#[(some (r 13)),(some (r 3)),(some (r 3)),none,(some (.str "__main__" 164)),none,(some (r 0))]⟩
def hA(P:Params):Heap:=⟨⟨[(boot_o_0 P),(boot_o_1 P),(boot_o_2 P),(boot_o_3 P),(boot_o_4 P),(boot_o_5 P),(boot_o_6 P),(boot_o_7 P),(boot_o_8 P),(boot_o_9 P),(boot_o_10 P),o0,o1,o2,o3]⟩,⟨[],[],[],0,[],[],false,#[],[],0,false,false,false,0,[2000,10,10],false,0,true,[],[],0,false⟩⟩
def sA(w:World)(os:OsState):Shared:=⟨hA w.params,#[],⟨0,0,0,0⟩,187,os⟩
theorem pre(w:World)(os:OsState):
  topGo treeTable pw w 11 an 12 ⟨boot_heap w.params,⟨[]⟩,boot_drawn,boot_toks,os⟩ (topStub pw) =
  some (sA w os,⟨denote treeTable cd,cd,⟨0,0,0,0⟩,bk⟩):=by kernel_rfl
def t0(P:Params):BT:=(nd (boot_o_0 P) (nd (boot_o_1 P) (nd (boot_o_3 P) (lf (boot_o_7 P)) (lf o0)) (nd (boot_o_5 P) (lf (boot_o_9 P)) (lf o2))) (nd (boot_o_2 P) (nd (boot_o_4 P) (lf (boot_o_8 P)) (lf o1)) (nd (boot_o_6 P) (lf (boot_o_10 P)) (lf o3))))
def s0(w:World)(os:OsState):SharedT:=⟨t0 w.params,15,⟨[],[],[],0,[],[],false,#[],[],0,false,false,false,0,[2000,10,10],false,0,true,[],[],0,false⟩,#[],⟨0,0,0,0⟩,187,os⟩
theorem blk(w:World)(os:OsState):
  segRun treeTable pw w 11 an 1 1 (sA w os) (blockOf bi ev cd ⟨0,0,0,0⟩ bk) =
  some (.next,(s0 w os).abs,cd,⟨0,0,0,0⟩):=by kernel_rfl
def o4(P:Params):Obj:=di [(de P "__name__" 165 (.str "fivefields.errors" 194)),(de P "__doc__" 166 .none),(de P "__package__" 167 .none),(de P "__loader__" 168 (.builtin "__main__.__loader__#opaque")),(de P "__spec__" 169 .none),(de P "__annotations__" 170 (r 6)),(de P "__builtins__" 171 (r 4)),(de P "__file__" 173 (sf 172)),(de P "__cached__" 174 .none),(de P "_wall" 193 (r 21)),(de P "FieldError" 213 (r 31)),(de P "NoDay" 229 (r 44)),(de P "NoMoment" 245 (r 56)),(de P "NoField" 270 (r 75)),(de P "NoRow" 295 (r 94)),(de P "NoBook" 311 (r 106)),(de P "NoClock" 327 (r 118)),(de P "NoName" 352 (r 137))] 18
def o5:Obj:=fd [(i 1),(i 0),(r 20),(i 5),(i 0),(r 27),(i 7),(i 0),(r 40),(i 9),(i 0),(r 52),(i 11),(i 0),(r 64),(i 15),(i 0),(r 83),(i 19),(i 0),(r 102),(i 21),(i 0),(r 114),(i 23),(i 0),(r 126)]
def o6:Obj:=tu [(.str "k" 190)]
def o7:Obj:=fz "_wall" "_wall" (tp 0)
def o8:Obj:=co [(.str "_wall" 187),(.str "_wall" 188),(sf 189),(i 1),(i 1),(i 0),(i 0),(i 3),(r 15),(.bool true),(i 181),(r 16),.none,(r 17),(r 18),(r 19),(i 191),(i 1),(sf 192)]
def o9:Obj:=fn "_wall" "_wall" (tp 0) 3 [] .none .none .none (.str "__main__" 164) none (r 20) .none 0
def o10:Obj:=tu [(.type "ValueError")]
def o11:Obj:=⟨(.type "builtin_function_or_method"),none,(.fields #[(.builtin "type.__prepare__"),(.type "type")]),#[]⟩
def o12(P:Params):Obj:=di [(de P "__module__" 203 (.str "fivefields.errors" 194)),(de P "__qualname__" 205 (.str "FieldError" 204)),(de P "__firstlineno__" 207 (.int 5 206)),(de P "__static_attributes__" 208 (r 29))] 4
def o13:Obj:=co [(.str "FieldError" 198),(.str "FieldError" 199),(sf 200),(i 5),(i 0),(i 0),(i 0),(i 0),(r 25),(.bool false),(i 181),(r 26),.none,.none,.none,.none,(i 201),(i 5),(sf 202)]
def o14:Obj:=⟨(.type "frame"),none,.plain,#[(some (r 27)),(some (r 3)),(some (r 24)),none,(some (.str "fivefields.errors" 194)),none,(some (r 0))]⟩
def o15(P:Params):Obj:=di [(de P "__module__" 203 (.str "fivefields.errors" 194)),(de P "__firstlineno__" 207 (.int 5 206)),(de P "__static_attributes__" 208 (r 29)),(de P "__weakref__" 210 (r 32)),(de P "__doc__" 211 .none)] 3
def o16:Obj:=⟨(.type "type"),none,(.cls ⟨"FieldError",[(.type "ValueError")],[(r 31),(.type "ValueError"),(.type "Exception"),(.type "BaseException"),(.type "object")],30,"FieldError",true,[],[(r 44),(r 56),(r 75),(r 94),(r 106),(r 118),(r 137)],false,none,false⟩),#[(some (r 22)),none,(some (.str "FieldError" 196)),(some (.str "FieldError" 204)),(some (.builtin "ValueError.__new__")),(some (.bool true))]⟩
def o17:Obj:=⟨(.type "getset_descriptor"),none,(.fields #[(.str "__weakref__" 209),(r 31),(.builtin "ExceptionGroup.__weakref__"),.none]),#[]⟩
def o18:Obj:=⟨(.type "super"),none,(.fields #[(r 31),(r 31),(r 31)]),#[]⟩
def o19:Obj:=⟨(.type "builtin_function_or_method"),none,(.fields #[(.builtin "object.__init_subclass__"),(r 31)]),#[]⟩
def o20:Obj:=tu [(r 31)]
def o21(P:Params):Obj:=di [(de P "__module__" 221 (.str "fivefields.errors" 194)),(de P "__qualname__" 223 (.str "NoDay" 222)),(de P "__firstlineno__" 225 (.int 7 224)),(de P "__static_attributes__" 226 (r 42))] 4
def o22:Obj:=co [(.str "NoDay" 216),(.str "NoDay" 217),(sf 218),(i 7),(i 0),(i 0),(i 0),(i 0),(r 38),(.bool false),(i 181),(r 39),.none,.none,.none,.none,(i 219),(i 7),(sf 220)]
def o23:Obj:=⟨(.type "frame"),none,.plain,#[(some (r 40)),(some (r 3)),(some (r 37)),none,(some (.str "fivefields.errors" 194)),none,(some (r 0))]⟩
def o24(P:Params):Obj:=di [(de P "__module__" 221 (.str "fivefields.errors" 194)),(de P "__firstlineno__" 225 (.int 7 224)),(de P "__static_attributes__" 226 (r 42)),(de P "__doc__" 227 .none)] 2
def o25:Obj:=⟨(.type "type"),none,(.cls ⟨"NoDay",[(r 31)],[(r 44),(r 31),(.type "ValueError"),(.type "Exception"),(.type "BaseException"),(.type "object")],43,"NoDay",true,[],[],false,none,false⟩),#[(some (r 35)),none,(some (.str "NoDay" 214)),(some (.str "NoDay" 222)),(some (.builtin "ValueError.__new__")),(some (.bool true))]⟩
def o26:Obj:=⟨(.type "super"),none,(.fields #[(r 44),(r 44),(r 44)]),#[]⟩
def o27:Obj:=⟨(.type "builtin_function_or_method"),none,(.fields #[(.builtin "object.__init_subclass__"),(r 44)]),#[]⟩
def o28(P:Params):Obj:=di [(de P "__module__" 237 (.str "fivefields.errors" 194)),(de P "__qualname__" 239 (.str "NoMoment" 238)),(de P "__firstlineno__" 241 (.int 9 240)),(de P "__static_attributes__" 242 (r 54))] 4
def o29:Obj:=co [(.str "NoMoment" 232),(.str "NoMoment" 233),(sf 234),(i 9),(i 0),(i 0),(i 0),(i 0),(r 50),(.bool false),(i 181),(r 51),.none,.none,.none,.none,(i 235),(i 9),(sf 236)]
def o30:Obj:=⟨(.type "frame"),none,.plain,#[(some (r 52)),(some (r 3)),(some (r 49)),none,(some (.str "fivefields.errors" 194)),none,(some (r 0))]⟩
def o31(P:Params):Obj:=di [(de P "__module__" 237 (.str "fivefields.errors" 194)),(de P "__firstlineno__" 241 (.int 9 240)),(de P "__static_attributes__" 242 (r 54)),(de P "__doc__" 243 .none)] 2
def o32:Obj:=⟨(.type "type"),none,(.cls ⟨"NoMoment",[(r 31)],[(r 56),(r 31),(.type "ValueError"),(.type "Exception"),(.type "BaseException"),(.type "object")],55,"NoMoment",true,[],[],false,none,false⟩),#[(some (r 47)),none,(some (.str "NoMoment" 230)),(some (.str "NoMoment" 238)),(some (.builtin "ValueError.__new__")),(some (.bool true))]⟩
def o33:Obj:=⟨(.type "super"),none,(.fields #[(r 56),(r 56),(r 56)]),#[]⟩
def o34:Obj:=⟨(.type "builtin_function_or_method"),none,(.fields #[(.builtin "object.__init_subclass__"),(r 56)]),#[]⟩
def o35(P:Params):Obj:=di [(de P "__module__" 253 (.str "fivefields.errors" 194)),(de P "__qualname__" 255 (.str "NoField" 254)),(de P "__firstlineno__" 257 (.int 11 256)),(de P "__init__" 265 (r 72)),(de P "__static_attributes__" 267 (r 73))] 5
def o36:Obj:=fd [(i 13),(i 4),(r 71)]
def o37:Obj:=co [(.str "NoField" 248),(.str "NoField" 249),(sf 250),(i 11),(i 0),(i 0),(i 0),(i 0),(r 62),(.bool false),(i 181),(r 63),.none,.none,.none,.none,(i 251),(i 11),(sf 252)]
def o38:Obj:=⟨(.type "frame"),none,.plain,#[(some (r 64)),(some (r 3)),(some (r 61)),none,(some (.str "fivefields.errors" 194)),none,(some (r 0))]⟩
def o39:Obj:=tu [(.str "self" 261),(.str "at" 262)]
def o40:Obj:=fz "__init__" "NoField.__init__" (ib (tp 5) 0)
def o41:Obj:=co [(.str "__init__" 258),(.str "NoField.__init__" 259),(sf 260),(i 13),(i 2),(i 0),(i 0),(i 3),(r 66),(.bool true),(i 181),(r 67),.none,(r 68),(r 69),(r 70),(i 263),(i 13),(sf 264)]
def o42:Obj:=fn "__init__" "NoField.__init__" (ib (tp 5) 0) 3 [] .none .none .none (.str "fivefields.errors" 194) none (r 71) .none 0
def o43:Obj:=tu [(.str "at" 266)]
def o44(P:Params):Obj:=di [(de P "__module__" 253 (.str "fivefields.errors" 194)),(de P "__firstlineno__" 257 (.int 11 256)),(de P "__init__" 265 (r 72)),(de P "__static_attributes__" 267 (r 73)),(de P "__doc__" 268 .none)] 2
def o45:Obj:=⟨(.type "type"),none,(.cls ⟨"NoField",[(r 31)],[(r 75),(r 31),(.type "ValueError"),(.type "Exception"),(.type "BaseException"),(.type "object")],74,"NoField",true,[],[],false,none,false⟩),#[(some (r 59)),none,(some (.str "NoField" 246)),(some (.str "NoField" 254)),(some (.builtin "ValueError.__new__")),(some (.bool true))]⟩
def o46:Obj:=⟨(.type "super"),none,(.fields #[(r 75),(r 75),(r 75)]),#[]⟩
def o47:Obj:=⟨(.type "builtin_function_or_method"),none,(.fields #[(.builtin "object.__init_subclass__"),(r 75)]),#[]⟩
def o48(P:Params):Obj:=di [(de P "__module__" 278 (.str "fivefields.errors" 194)),(de P "__qualname__" 280 (.str "NoRow" 279)),(de P "__firstlineno__" 282 (.int 15 281)),(de P "__init__" 290 (r 91)),(de P "__static_attributes__" 292 (r 92))] 5
def o49:Obj:=fd [(i 17),(i 4),(r 90)]
def o50:Obj:=co [(.str "NoRow" 273),(.str "NoRow" 274),(sf 275),(i 15),(i 0),(i 0),(i 0),(i 0),(r 81),(.bool false),(i 181),(r 82),.none,.none,.none,.none,(i 276),(i 15),(sf 277)]
def o51:Obj:=⟨(.type "frame"),none,.plain,#[(some (r 83)),(some (r 3)),(some (r 80)),none,(some (.str "fivefields.errors" 194)),none,(some (r 0))]⟩
def o52:Obj:=tu [(.str "self" 286),(.str "place" 287)]
def o53:Obj:=fz "__init__" "NoRow.__init__" (ib (tp 6) 0)
def o54:Obj:=co [(.str "__init__" 283),(.str "NoRow.__init__" 284),(sf 285),(i 17),(i 2),(i 0),(i 0),(i 3),(r 85),(.bool true),(i 181),(r 86),.none,(r 87),(r 88),(r 89),(i 288),(i 17),(sf 289)]
def o55:Obj:=fn "__init__" "NoRow.__init__" (ib (tp 6) 0) 3 [] .none .none .none (.str "fivefields.errors" 194) none (r 90) .none 0
def o56:Obj:=tu [(.str "place" 291)]
def o57(P:Params):Obj:=di [(de P "__module__" 278 (.str "fivefields.errors" 194)),(de P "__firstlineno__" 282 (.int 15 281)),(de P "__init__" 290 (r 91)),(de P "__static_attributes__" 292 (r 92)),(de P "__doc__" 293 .none)] 2
def o58:Obj:=⟨(.type "type"),none,(.cls ⟨"NoRow",[(r 31)],[(r 94),(r 31),(.type "ValueError"),(.type "Exception"),(.type "BaseException"),(.type "object")],93,"NoRow",true,[],[],false,none,false⟩),#[(some (r 78)),none,(some (.str "NoRow" 271)),(some (.str "NoRow" 279)),(some (.builtin "ValueError.__new__")),(some (.bool true))]⟩
def o59:Obj:=⟨(.type "super"),none,(.fields #[(r 94),(r 94),(r 94)]),#[]⟩
def o60:Obj:=⟨(.type "builtin_function_or_method"),none,(.fields #[(.builtin "object.__init_subclass__"),(r 94)]),#[]⟩
def o61(P:Params):Obj:=di [(de P "__module__" 303 (.str "fivefields.errors" 194)),(de P "__qualname__" 305 (.str "NoBook" 304)),(de P "__firstlineno__" 307 (.int 19 306)),(de P "__static_attributes__" 308 (r 104))] 4
def o62:Obj:=co [(.str "NoBook" 298),(.str "NoBook" 299),(sf 300),(i 19),(i 0),(i 0),(i 0),(i 0),(r 100),(.bool false),(i 181),(r 101),.none,.none,.none,.none,(i 301),(i 19),(sf 302)]
def o63:Obj:=⟨(.type "frame"),none,.plain,#[(some (r 102)),(some (r 3)),(some (r 99)),none,(some (.str "fivefields.errors" 194)),none,(some (r 0))]⟩
def o64(P:Params):Obj:=di [(de P "__module__" 303 (.str "fivefields.errors" 194)),(de P "__firstlineno__" 307 (.int 19 306)),(de P "__static_attributes__" 308 (r 104)),(de P "__doc__" 309 .none)] 2
def o65:Obj:=⟨(.type "type"),none,(.cls ⟨"NoBook",[(r 31)],[(r 106),(r 31),(.type "ValueError"),(.type "Exception"),(.type "BaseException"),(.type "object")],105,"NoBook",true,[],[],false,none,false⟩),#[(some (r 97)),none,(some (.str "NoBook" 296)),(some (.str "NoBook" 304)),(some (.builtin "ValueError.__new__")),(some (.bool true))]⟩
def o66:Obj:=⟨(.type "super"),none,(.fields #[(r 106),(r 106),(r 106)]),#[]⟩
def o67:Obj:=⟨(.type "builtin_function_or_method"),none,(.fields #[(.builtin "object.__init_subclass__"),(r 106)]),#[]⟩
def o68(P:Params):Obj:=di [(de P "__module__" 319 (.str "fivefields.errors" 194)),(de P "__qualname__" 321 (.str "NoClock" 320)),(de P "__firstlineno__" 323 (.int 21 322)),(de P "__static_attributes__" 324 (r 116))] 4
def o69:Obj:=co [(.str "NoClock" 314),(.str "NoClock" 315),(sf 316),(i 21),(i 0),(i 0),(i 0),(i 0),(r 112),(.bool false),(i 181),(r 113),.none,.none,.none,.none,(i 317),(i 21),(sf 318)]
def o70:Obj:=⟨(.type "frame"),none,.plain,#[(some (r 114)),(some (r 3)),(some (r 111)),none,(some (.str "fivefields.errors" 194)),none,(some (r 0))]⟩
def o71(P:Params):Obj:=di [(de P "__module__" 319 (.str "fivefields.errors" 194)),(de P "__firstlineno__" 323 (.int 21 322)),(de P "__static_attributes__" 324 (r 116)),(de P "__doc__" 325 .none)] 2
def o72:Obj:=⟨(.type "type"),none,(.cls ⟨"NoClock",[(r 31)],[(r 118),(r 31),(.type "ValueError"),(.type "Exception"),(.type "BaseException"),(.type "object")],117,"NoClock",true,[],[],false,none,false⟩),#[(some (r 109)),none,(some (.str "NoClock" 312)),(some (.str "NoClock" 320)),(some (.builtin "ValueError.__new__")),(some (.bool true))]⟩
def o73:Obj:=⟨(.type "super"),none,(.fields #[(r 118),(r 118),(r 118)]),#[]⟩
def o74:Obj:=⟨(.type "builtin_function_or_method"),none,(.fields #[(.builtin "object.__init_subclass__"),(r 118)]),#[]⟩
def o75(P:Params):Obj:=di [(de P "__module__" 335 (.str "fivefields.errors" 194)),(de P "__qualname__" 337 (.str "NoName" 336)),(de P "__firstlineno__" 339 (.int 23 338)),(de P "__init__" 347 (r 134)),(de P "__static_attributes__" 349 (r 135))] 5
def o76:Obj:=fd [(i 25),(i 4),(r 133)]
def o77:Obj:=co [(.str "NoName" 330),(.str "NoName" 331),(sf 332),(i 23),(i 0),(i 0),(i 0),(i 0),(r 124),(.bool false),(i 181),(r 125),.none,.none,.none,.none,(i 333),(i 23),(sf 334)]
def o78:Obj:=⟨(.type "frame"),none,.plain,#[(some (r 126)),(some (r 3)),(some (r 123)),none,(some (.str "fivefields.errors" 194)),none,(some (r 0))]⟩
def o79:Obj:=tu [(.str "self" 343),(.str "name" 344)]
def o80:Obj:=fz "__init__" "NoName.__init__" (ib (tp 9) 0)
def o81:Obj:=co [(.str "__init__" 340),(.str "NoName.__init__" 341),(sf 342),(i 25),(i 2),(i 0),(i 0),(i 3),(r 128),(.bool true),(i 181),(r 129),.none,(r 130),(r 131),(r 132),(i 345),(i 25),(sf 346)]
def o82:Obj:=fn "__init__" "NoName.__init__" (ib (tp 9) 0) 3 [] .none .none .none (.str "fivefields.errors" 194) none (r 133) .none 0
def o83:Obj:=tu [(.str "name" 348)]
def o84(P:Params):Obj:=di [(de P "__module__" 335 (.str "fivefields.errors" 194)),(de P "__firstlineno__" 339 (.int 23 338)),(de P "__init__" 347 (r 134)),(de P "__static_attributes__" 349 (r 135)),(de P "__doc__" 350 .none)] 2
def o85:Obj:=⟨(.type "type"),none,(.cls ⟨"NoName",[(r 31)],[(r 137),(r 31),(.type "ValueError"),(.type "Exception"),(.type "BaseException"),(.type "object")],136,"NoName",true,[],[],false,none,false⟩),#[(some (r 121)),none,(some (.str "NoName" 328)),(some (.str "NoName" 336)),(some (.builtin "ValueError.__new__")),(some (.bool true))]⟩
def o86:Obj:=⟨(.type "super"),none,(.fields #[(r 137),(r 137),(r 137)]),#[]⟩
def o87:Obj:=⟨(.type "builtin_function_or_method"),none,(.fields #[(.builtin "object.__init_subclass__"),(r 137)]),#[]⟩
def t1(P:Params):BT:=(nd (boot_o_0 P) (nd (boot_o_1 P) (nd (o4 P) (nd (boot_o_7 P) (nd o0 (nd o16 (nd o36 (lf o78) .nil) (lf o59)) (nd o20 (lf o11) (lf (o68 P)))) (nd o11 (nd o1 (nd o41 (lf o83) .nil) (lf o63)) (nd (o31 P) (lf o52) (lf o73)))) (nd o0 (nd o7 (nd o20 (nd o1 (lf o0) .nil) (lf (o61 P))) (nd o1 (lf o50) (lf o70))) (nd o13 (nd (o24 P) (nd o45 (lf o87) .nil) (lf o66)) (nd o20 (lf o55) (lf (o75 P)))))) (nd (boot_o_5 P) (nd (boot_o_9 P) (nd o6 (nd o18 (nd o38 (lf o1) .nil) (lf o20)) (nd (o28 P) (lf o0) (lf o1))) (nd o0 (nd o23 (nd o43 (lf o85) .nil) (lf (o64 P))) (nd o33 (lf o53) (lf o20)))) (nd o2 (nd o9 (nd (o21 P) (nd o0 (lf o81) .nil) (lf o1)) (nd o30 (lf o0) (lf (o71 P)))) (nd o0 (nd o26 (lf o47) (lf o20)) (nd (o35 P) (lf (o57 P)) (lf o76)))))) (nd (boot_o_2 P) (nd (boot_o_4 P) (nd (boot_o_8 P) (nd o1 (nd o17 (nd o37 (lf o0) .nil) (lf o60)) (nd o11 (lf (o48 P)) (lf o0))) (nd (o12 P) (nd o22 (nd o42 (lf (o84 P)) .nil) (lf o0)) (nd o32 (lf o0) (lf o74)))) (nd o5 (nd o8 (nd o11 (nd o39 (lf o80) .nil) (lf o0)) (nd o29 (lf o51) (lf o0))) (nd o14 (nd o25 (lf o46) (lf o67)) (nd o11 (lf o56) (lf o0))))) (nd (boot_o_6 P) (nd (boot_o_10 P) (nd o0 (nd o19 (nd o0 (lf o79) .nil) (lf o11)) (nd o0 (lf o49) (lf o69))) (nd o1 (nd o0 (nd (o44 P) (lf o86) .nil) (lf o65)) (nd o34 (lf o54) (lf o11)))) (nd o3 (nd o10 (nd o0 (nd o40 (lf o82) .nil) (lf o62)) (nd o0 (lf o1) (lf o72))) (nd (o15 P) (nd o27 (lf o20) (lf o11)) (nd o0 (lf o58) (lf o77)))))))
def s1(w:World)(os:OsState):SharedT:=⟨t1 w.params,140,⟨[],[],[],0,[],[],false,#[],[],0,false,false,false,0,[2000,10,10],false,0,true,[],[],0,false⟩,#[],⟨0,0,0,0⟩,353,os⟩
def l0:List Stmt:=(bi.drop 0).take 10
theorem r0(w:World)(os:OsState):
  segRunT treeTable pw w 11 an 1 1812 (s0 w os) (piecesOf l0 ev cd ⟨0,0,0,0⟩ bk) =
  some (.next,s1 w os,cd,⟨23,0,26,24⟩):=by kernel_rfl
def o88(P:Params):Obj:=di [(de P "__name__" 165 (.str "fivefields.marks" 665)),(de P "__doc__" 166 .none),(de P "__package__" 167 .none),(de P "__loader__" 168 (.builtin "__main__.__loader__#opaque")),(de P "__spec__" 169 .none),(de P "__annotations__" 170 (r 6)),(de P "__builtins__" 171 (r 4)),(de P "__file__" 173 (sf 172)),(de P "__cached__" 174 .none),(de P "_wall" 193 (r 21)),(de P "FieldError" 213 (r 31)),(de P "NoDay" 229 (r 44)),(de P "NoMoment" 245 (r 56)),(de P "NoField" 270 (r 75)),(de P "NoRow" 295 (r 94)),(de P "NoBook" 311 (r 106)),(de P "NoClock" 327 (r 118)),(de P "NoName" 352 (r 137)),(de P "NoWord" 368 (r 149)),(de P "is_whole" 377 (r 158)),(de P "MONTH_LASTS" 392 (r 159)),(de P "ROUND_YEARS" 394 (.int 400 393)),(de P "ROUND_DAYS" 396 (.int 146097 395)),(de P "is_long" 403 (r 166)),(de P "multiples_before" 411 (r 173)),(de P "days_before" 419 (r 180)),(de P "last_of" 427 (r 187)),(de P "is_date" 436 (r 194)),(de P "day_of" 442 (r 199)),(de P "year_of" 450 (r 206)),(de P "date_of" 460 (r 213)),(de P "weekday" 467 (r 220)),(de P "FIGURES" 471 (.str "0123456789" 470)),(de P "all_figures" 477 (r 225)),(de P "is_written" 484 (r 232)),(de P "DAY_MINUTES" 488 (.int 1440 487)),(de P "HOUR_MINUTES" 490 (.int 60 489)),(de P "parted" 498 (r 239)),(de P "LONG_PLACE" 502 (.int 12 501)),(de P "LONG_LAST" 504 (.int 29 503)),(de P "SHORT_YEAR" 506 (.int 1 505)),(de P "kind_from" 516 (r 246)),(de P "kind_of" 524 (r 253)),(de P "month_at" 533 (r 260)),(de P "has" 543 (r 267)),(de P "starts_of" 549 (r 272)),(de P "end_from" 558 (r 279)),(de P "ranges_of" 564 (r 284)),(de P "shown_range" 572 (r 291)),(de P "shown_ranges" 578 (r 296)),(de P "MOST_SIGNS" 582 (.int 300 581)),(de P "MOST_ITEMS" 584 (.int 40 583)),(de P "MOST_STRIDE" 586 (.int 99 585)),(de P "mask_of" 595 (r 303)),(de P "numbers_in" 601 (r 308)),(de P "run_mask" 610 (r 315)),(de P "read_number" 620 (r 322)),(de P "read_run" 626 (r 327)),(de P "read_strided" 639 (r 334)),(de P "read_item" 650 (r 341)),(de P "read_field" 664 (r 348)),(de P "MOST_MARKS" 668 (.int 20 667)),(de P "MOST_DAY" 670 (.int 31 669)),(de P "MOST_BACK" 672 (.int 30 671)),(de P "MOST_NTH" 674 (.int 5 673)),(de P "SUNDAY" 676 (.int 0 675)),(de P "SATURDAY" 678 (.int 6 677)),(de P "SUNDAY_TOO" 680 (.int 7 679)),(de P "ALL_WEEKDAYS" 682 (.int 127 681)),(de P "weekday_at" 690 (r 355)),(de P "all_days" 697 (r 362)),(de P "nearest_work" 707 (r 369)),(de P "first_one" 715 (r 376)),(de P "Mark" 751 (r 400))] 74
def o89:Obj:=fd [(i 1),(i 0),(r 20),(i 5),(i 0),(r 27),(i 7),(i 0),(r 40),(i 9),(i 0),(r 52),(i 11),(i 0),(r 64),(i 15),(i 0),(r 83),(i 19),(i 0),(r 102),(i 21),(i 0),(r 114),(i 23),(i 0),(r 126),(i 27),(i 0),(r 145),(i 30),(i 0),(r 157),(i 36),(i 0),(r 165),(i 38),(i 0),(r 172),(i 40),(i 0),(r 179),(i 43),(i 0),(r 186),(i 47),(i 0),(r 193),(i 51),(i 0),(r 198),(i 56),(i 0),(r 205),(i 61),(i 0),(r 212),(i 69),(i 0),(r 219),(i 73),(i 0),(r 224),(i 75),(i 0),(r 231),(i 80),(i 0),(r 238),(i 87),(i 0),(r 245),(i 90),(i 0),(r 252),(i 92),(i 0),(r 259),(i 99),(i 0),(r 266),(i 101),(i 0),(r 271),(i 104),(i 0),(r 278),(i 109),(i 0),(r 283),(i 111),(i 0),(r 290),(i 115),(i 0),(r 295),(i 121),(i 0),(r 302),(i 126),(i 0),(r 307),(i 128),(i 0),(r 314),(i 130),(i 0),(r 321),(i 137),(i 0),(r 326),(i 144),(i 0),(r 333),(i 151),(i 0),(r 340),(i 159),(i 0),(r 347),(i 181),(i 0),(r 354),(i 183),(i 0),(r 361),(i 185),(i 0),(r 368),(i 192),(i 0),(r 375),(i 194),(i 0),(r 382)]
def o90:Obj:=⟨(.type "type"),none,(.cls ⟨"FieldError",[(.type "ValueError")],[(r 31),(.type "ValueError"),(.type "Exception"),(.type "BaseException"),(.type "object")],30,"FieldError",true,[],[(r 44),(r 56),(r 75),(r 94),(r 106),(r 118),(r 137),(r 149)],false,none,false⟩),#[(some (r 22)),none,(some (.str "FieldError" 196)),(some (.str "FieldError" 204)),(some (.builtin "ValueError.__new__")),(some (.bool true))]⟩
def o91(P:Params):Obj:=di [(de P "__module__" 360 (.str "fivefields.errors" 194)),(de P "__qualname__" 362 (.str "NoWord" 361)),(de P "__firstlineno__" 364 (.int 27 363)),(de P "__static_attributes__" 365 (r 147))] 4
def o92:Obj:=co [(.str "NoWord" 355),(.str "NoWord" 356),(sf 357),(i 27),(i 0),(i 0),(i 0),(i 0),(r 143),(.bool false),(i 181),(r 144),.none,.none,.none,.none,(i 358),(i 27),(sf 359)]
def o93:Obj:=⟨(.type "frame"),none,.plain,#[(some (r 145)),(some (r 3)),(some (r 142)),none,(some (.str "fivefields.errors" 194)),none,(some (r 0))]⟩
def o94(P:Params):Obj:=di [(de P "__module__" 360 (.str "fivefields.errors" 194)),(de P "__firstlineno__" 364 (.int 27 363)),(de P "__static_attributes__" 365 (r 147)),(de P "__doc__" 366 .none)] 2
def o95:Obj:=⟨(.type "type"),none,(.cls ⟨"NoWord",[(r 31)],[(r 149),(r 31),(.type "ValueError"),(.type "Exception"),(.type "BaseException"),(.type "object")],148,"NoWord",true,[],[],false,none,false⟩),#[(some (r 140)),none,(some (.str "NoWord" 353)),(some (.str "NoWord" 361)),(some (.builtin "ValueError.__new__")),(some (.bool true))]⟩
def o96:Obj:=⟨(.type "super"),none,(.fields #[(r 149),(r 149),(r 149)]),#[]⟩
def o97:Obj:=⟨(.type "builtin_function_or_method"),none,(.fields #[(.builtin "object.__init_subclass__"),(r 149)]),#[]⟩
def o98:Obj:=tu [(.str "thing" 374)]
def o99:Obj:=fz "is_whole" "is_whole" (tp 12)
def arS:Obj:=co [(.str "is_whole" 371),(.str "is_whole" 372),(sf 373),(i 30),(i 1),(i 0),(i 0),(i 3),(r 152),(.bool true),(i 181),(r 153),.none,(r 154),(r 155),(r 156),(i 375),(i 30),(sf 376)]
def ar0:Obj:=fn "is_whole" "is_whole" (tp 12) 3 [] .none .none .none (.str "fivefields.wholes" 369) none (r 157) .none 0
def apH:Obj:=tu [(.int 31 380),(.int 28 381),(.int 31 382),(.int 30 383),(.int 31 384),(.int 30 385),(.int 31 386),(.int 31 387),(.int 30 388),(.int 31 389),(.int 30 390),(.int 31 391)]
def asX:Obj:=tu [(.str "year" 400)]
def aoW:Obj:=fz "is_long" "is_long" (tp 17)
def asD:Obj:=co [(.str "is_long" 397),(.str "is_long" 398),(sf 399),(i 36),(i 1),(i 0),(i 0),(i 3),(r 160),(.bool true),(i 181),(r 161),.none,(r 162),(r 163),(r 164),(i 401),(i 36),(sf 402)]
def arR:Obj:=fn "is_long" "is_long" (tp 17) 3 [] .none .none .none (.str "fivefields.days" 378) none (r 165) .none 0
def atC:Obj:=tu [(.str "year" 407),(.str "step" 408)]
def apQ:Obj:=fz "multiples_before" "multiples_before" (tp 18)
def atD:Obj:=co [(.str "multiples_before" 404),(.str "multiples_before" 405),(sf 406),(i 38),(i 2),(i 0),(i 0),(i 3),(r 167),(.bool true),(i 181),(r 168),.none,(r 169),(r 170),(r 171),(i 409),(i 38),(sf 410)]
def ao3:Obj:=fn "multiples_before" "multiples_before" (tp 18) 3 [] .none .none .none (.str "fivefields.days" 378) none (r 172) .none 0
def aqS:Obj:=tu [(.str "year" 415),(.str "longs" 416)]
def aqL:Obj:=fz "days_before" "days_before" (tp 19)
def aqP:Obj:=co [(.str "days_before" 412),(.str "days_before" 413),(sf 414),(i 40),(i 1),(i 0),(i 0),(i 3),(r 174),(.bool true),(i 181),(r 175),.none,(r 176),(r 177),(r 178),(i 417),(i 40),(sf 418)]
def ar6:Obj:=fn "days_before" "days_before" (tp 19) 3 [] .none .none .none (.str "fivefields.days" 378) none (r 179) .none 0
def atB:Obj:=tu [(.str "year" 423),(.str "month" 424)]
def arY:Obj:=fz "last_of" "last_of" (tp 20)
def asF:Obj:=co [(.str "last_of" 420),(.str "last_of" 421),(sf 422),(i 43),(i 2),(i 0),(i 0),(i 3),(r 181),(.bool true),(i 181),(r 182),.none,(r 183),(r 184),(r 185),(i 425),(i 43),(sf 426)]
def aoQ:Obj:=fn "last_of" "last_of" (tp 20) 3 [] .none .none .none (.str "fivefields.days" 378) none (r 186) .none 0
def apN:Obj:=tu [(.str "year" 431),(.str "month" 432),(.str "day" 433)]
def aq1:Obj:=fz "is_date" "is_date" (tp 21)
def aqY:Obj:=co [(.str "is_date" 428),(.str "is_date" 429),(sf 430),(i 47),(i 3),(i 0),(i 0),(i 3),(r 188),(.bool true),(i 181),(r 189),.none,(r 190),(r 191),(r 192),(i 434),(i 47),(sf 435)]
def asY:Obj:=fn "is_date" "is_date" (tp 21) 3 [] .none .none .none (.str "fivefields.days" 378) none (r 193) .none 0
def ar5:Obj:=fz "day_of" "day_of" (tp 22)
def aqN:Obj:=co [(.str "day_of" 437),(.str "day_of" 438),(sf 439),(i 51),(i 3),(i 0),(i 0),(i 3),(r 195),(.bool true),(i 181),(r 196),.none,.none,.none,(r 197),(i 440),(i 51),(sf 441)]
def apP:Obj:=fn "day_of" "day_of" (tp 22) 3 [] .none .none .none (.str "fivefields.days" 378) none (r 198) .none 0
def arK:Obj:=tu [(.str "day" 446),(.str "year" 447)]
def ar8:Obj:=fz "year_of" "year_of" (tp 23)
def asJ:Obj:=co [(.str "year_of" 443),(.str "year_of" 444),(sf 445),(i 56),(i 1),(i 0),(i 0),(i 3),(r 200),(.bool true),(i 181),(r 201),.none,(r 202),(r 203),(r 204),(i 448),(i 56),(sf 449)]
def ao0:Obj:=fn "year_of" "year_of" (tp 23) 3 [] .none .none .none (.str "fivefields.days" 378) none (r 205) .none 0
def aqW:Obj:=tu [(.str "day" 454),(.str "year" 455),(.str "month" 456),(.str "rest" 457)]
def asC:Obj:=fz "date_of" "date_of" (tp 24)
def apL:Obj:=co [(.str "date_of" 451),(.str "date_of" 452),(sf 453),(i 61),(i 1),(i 0),(i 0),(i 3),(r 207),(.bool true),(i 181),(r 208),.none,(r 209),(r 210),(r 211),(i 458),(i 61),(sf 459)]
def arB:Obj:=fn "date_of" "date_of" (tp 24) 3 [] .none .none .none (.str "fivefields.days" 378) none (r 212) .none 0
def apF:Obj:=tu [(.str "day" 464)]
def aqB:Obj:=fz "weekday" "weekday" (tp 25)
def arJ:Obj:=co [(.str "weekday" 461),(.str "weekday" 462),(sf 463),(i 69),(i 1),(i 0),(i 0),(i 3),(r 214),(.bool true),(i 181),(r 215),.none,(r 216),(r 217),(r 218),(i 465),(i 69),(sf 466)]
def aoO:Obj:=fn "weekday" "weekday" (tp 25) 3 [] .none .none .none (.str "fivefields.days" 378) none (r 219) .none 0
def arG:Obj:=fz "all_figures" "all_figures" (tp 28)
def aoG:Obj:=co [(.str "all_figures" 472),(.str "all_figures" 473),(sf 474),(i 73),(i 1),(i 0),(i 0),(i 3),(r 221),(.bool true),(i 181),(r 222),.none,.none,.none,(r 223),(i 475),(i 73),(sf 476)]
def aqH:Obj:=fn "all_figures" "all_figures" (tp 28) 3 [] .none .none .none (.str "fivefields.figures" 468) none (r 224) .none 0
def ar3:Obj:=tu [(.str "text" 481)]
def aoM:Obj:=fz "is_written" "is_written" (tp 29)
def asE:Obj:=co [(.str "is_written" 478),(.str "is_written" 479),(sf 480),(i 75),(i 1),(i 0),(i 0),(i 3),(r 226),(.bool true),(i 181),(r 227),.none,(r 228),(r 229),(r 230),(i 482),(i 75),(sf 483)]
def aqU:Obj:=fn "is_written" "is_written" (tp 29) 3 [] .none .none .none (.str "fivefields.figures" 468) none (r 231) .none 0
def asI:Obj:=tu [(.str "moment" 494),(.str "time" 495)]
def aqC:Obj:=fz "parted" "parted" (tp 33)
def atE:Obj:=co [(.str "parted" 491),(.str "parted" 492),(sf 493),(i 80),(i 1),(i 0),(i 0),(i 3),(r 233),(.bool true),(i 181),(r 234),.none,(r 235),(r 236),(r 237),(i 496),(i 80),(sf 497)]
def aqD:Obj:=fn "parted" "parted" (tp 33) 3 [] .none .none .none (.str "fivefields.moments" 485) none (r 238) .none 0
def asS:Obj:=tu [(.str "year" 510),(.str "month" 511),(.str "day" 512),(.str "place" 513)]
def aq8:Obj:=fz "kind_from" "kind_from" (tp 38)
def arO:Obj:=co [(.str "kind_from" 507),(.str "kind_from" 508),(sf 509),(i 87),(i 3),(i 0),(i 0),(i 3),(r 240),(.bool true),(i 181),(r 241),.none,(r 242),(r 243),(r 244),(i 514),(i 87),(sf 515)]
def aq9:Obj:=fn "kind_from" "kind_from" (tp 38) 3 [] .none .none .none (.str "fivefields.months" 499) none (r 245) .none 0
def apO:Obj:=tu [(.str "year" 520),(.str "month" 521)]
def ao7:Obj:=fz "kind_of" "kind_of" (tp 39)
def arP:Obj:=co [(.str "kind_of" 517),(.str "kind_of" 518),(sf 519),(i 90),(i 2),(i 0),(i 0),(i 3),(r 247),(.bool true),(i 181),(r 248),.none,(r 249),(r 250),(r 251),(i 522),(i 90),(sf 523)]
def ap3:Obj:=fn "kind_of" "kind_of" (tp 39) 3 [] .none .none .none (.str "fivefields.months" 499) none (r 252) .none 0
def as6:Obj:=tu [(.str "kind" 528),(.str "place" 529),(.str "first" 530)]
def asK:Obj:=fz "month_at" "month_at" (tp 40)
def as9:Obj:=co [(.str "month_at" 525),(.str "month_at" 526),(sf 527),(i 92),(i 1),(i 0),(i 0),(i 3),(r 254),(.bool true),(i 181),(r 255),.none,(r 256),(r 257),(r 258),(i 531),(i 92),(sf 532)]
def apZ:Obj:=fn "month_at" "month_at" (tp 40) 3 [] .none .none .none (.str "fivefields.months" 499) none (r 259) .none 0
def arX:Obj:=tu [(.str "mask" 539),(.str "number" 540)]
def ar9:Obj:=fz "has" "has" (tp 42)
def arI:Obj:=co [(.str "has" 536),(.str "has" 537),(sf 538),(i 99),(i 2),(i 0),(i 0),(i 3),(r 261),(.bool true),(i 181),(r 262),.none,(r 263),(r 264),(r 265),(i 541),(i 99),(sf 542)]
def aoY:Obj:=fn "has" "has" (tp 42) 3 [] .none .none .none (.str "fivefields.ranges" 534) none (r 266) .none 0
def apS:Obj:=fz "starts_of" "starts_of" (tp 43)
def aoP:Obj:=co [(.str "starts_of" 544),(.str "starts_of" 545),(sf 546),(i 101),(i 1),(i 0),(i 0),(i 3),(r 268),(.bool true),(i 181),(r 269),.none,.none,.none,(r 270),(i 547),(i 101),(sf 548)]
def asH:Obj:=fn "starts_of" "starts_of" (tp 43) 3 [] .none .none .none (.str "fivefields.ranges" 534) none (r 271) .none 0
def aoT:Obj:=tu [(.str "mask" 553),(.str "start" 554),(.str "end" 555)]
def asU:Obj:=fz "end_from" "end_from" (tp 44)
def aqQ:Obj:=co [(.str "end_from" 550),(.str "end_from" 551),(sf 552),(i 104),(i 2),(i 0),(i 0),(i 3),(r 273),(.bool true),(i 181),(r 274),.none,(r 275),(r 276),(r 277),(i 556),(i 104),(sf 557)]
def ap2:Obj:=fn "end_from" "end_from" (tp 44) 3 [] .none .none .none (.str "fivefields.ranges" 534) none (r 278) .none 0
def arE:Obj:=fz "ranges_of" "ranges_of" (tp 45)
def aq3:Obj:=co [(.str "ranges_of" 559),(.str "ranges_of" 560),(sf 561),(i 109),(i 1),(i 0),(i 0),(i 3),(r 280),(.bool true),(i 181),(r 281),.none,.none,.none,(r 282),(i 562),(i 109),(sf 563)]
def apI:Obj:=fn "ranges_of" "ranges_of" (tp 45) 3 [] .none .none .none (.str "fivefields.ranges" 534) none (r 283) .none 0
def ap8:Obj:=tu [(.str "first" 568),(.str "last" 569)]
def arT:Obj:=fz "shown_range" "shown_range" (tp 46)
def asQ:Obj:=co [(.str "shown_range" 565),(.str "shown_range" 566),(sf 567),(i 111),(i 2),(i 0),(i 0),(i 3),(r 285),(.bool true),(i 181),(r 286),.none,(r 287),(r 288),(r 289),(i 570),(i 111),(sf 571)]
def aoS:Obj:=fn "shown_range" "shown_range" (tp 46) 3 [] .none .none .none (.str "fivefields.ranges" 534) none (r 290) .none 0
def atA:Obj:=fz "shown_ranges" "shown_ranges" (tp 47)
def asW:Obj:=co [(.str "shown_ranges" 573),(.str "shown_ranges" 574),(sf 575),(i 115),(i 1),(i 0),(i 0),(i 3),(r 292),(.bool true),(i 181),(r 293),.none,.none,.none,(r 294),(i 576),(i 115),(sf 577)]
def aoR:Obj:=fn "shown_ranges" "shown_ranges" (tp 47) 3 [] .none .none .none (.str "fivefields.ranges" 534) none (r 295) .none 0
def aqR:Obj:=tu [(.str "numbers" 590),(.str "mask" 591),(.str "number" 592)]
def as2:Obj:=fz "mask_of" "mask_of" (tp 52)
def ao4:Obj:=co [(.str "mask_of" 587),(.str "mask_of" 588),(sf 589),(i 121),(i 1),(i 0),(i 0),(i 3),(r 297),(.bool true),(i 181),(r 298),.none,(r 299),(r 300),(r 301),(i 593),(i 121),(sf 594)]
def aqI:Obj:=fn "mask_of" "mask_of" (tp 52) 3 [] .none .none .none (.str "fivefields.fields" 579) none (r 302) .none 0
def aoX:Obj:=fz "numbers_in" "numbers_in" (tp 53)
def ap5:Obj:=co [(.str "numbers_in" 596),(.str "numbers_in" 597),(sf 598),(i 126),(i 1),(i 0),(i 0),(i 3),(r 304),(.bool true),(i 181),(r 305),.none,.none,.none,(r 306),(i 599),(i 126),(sf 600)]
def arM:Obj:=fn "numbers_in" "numbers_in" (tp 53) 3 [] .none .none .none (.str "fivefields.fields" 579) none (r 307) .none 0
def aoL:Obj:=tu [(.str "first" 605),(.str "last" 606),(.str "stride" 607)]
def asG:Obj:=fz "run_mask" "run_mask" (tp 54)
def apC:Obj:=co [(.str "run_mask" 602),(.str "run_mask" 603),(sf 604),(i 128),(i 3),(i 0),(i 0),(i 3),(r 309),(.bool true),(i 181),(r 310),.none,(r 311),(r 312),(r 313),(i 608),(i 128),(sf 609)]
def arZ:Obj:=fn "run_mask" "run_mask" (tp 54) 3 [] .none .none .none (.str "fivefields.fields" 579) none (r 314) .none 0
def aqM:Obj:=tu [(.str "text" 614),(.str "low" 615),(.str "high" 616),(.str "number" 617)]
def aqA:Obj:=fz "read_number" "read_number" (tp 55)
def aoH:Obj:=co [(.str "read_number" 611),(.str "read_number" 612),(sf 613),(i 130),(i 3),(i 0),(i 0),(i 3),(r 316),(.bool true),(i 181),(r 317),.none,(r 318),(r 319),(r 320),(i 618),(i 130),(sf 619)]
def ar2:Obj:=fn "read_number" "read_number" (tp 55) 3 [] .none .none .none (.str "fivefields.fields" 579) none (r 321) .none 0
def arU:Obj:=fz "read_run" "read_run" (tp 56)
def arQ:Obj:=co [(.str "read_run" 621),(.str "read_run" 622),(sf 623),(i 137),(i 3),(i 0),(i 0),(i 3),(r 323),(.bool true),(i 181),(r 324),.none,.none,.none,(r 325),(i 624),(i 137),(sf 625)]
def apA:Obj:=fn "read_run" "read_run" (tp 56) 3 [] .none .none .none (.str "fivefields.fields" 579) none (r 326) .none 0
def apX:Obj:=tu [(.str "run_text" 630),(.str "stride_text" 631),(.str "low" 632),(.str "high" 633),(.str "run" 634),(.str "stride" 635),(.str "last" 636)]
def apM:Obj:=fz "read_strided" "read_strided" (tp 57)
def asP:Obj:=co [(.str "read_strided" 627),(.str "read_strided" 628),(sf 629),(i 144),(i 4),(i 0),(i 0),(i 3),(r 328),(.bool true),(i 181),(r 329),.none,(r 330),(r 331),(r 332),(i 637),(i 144),(sf 638)]
def apG:Obj:=fn "read_strided" "read_strided" (tp 57) 3 [] .none .none .none (.str "fivefields.fields" 579) none (r 333) .none 0
def apR:Obj:=tu [(.str "item" 643),(.str "low" 644),(.str "high" 645),(.str "parts" 646),(.str "run" 647)]
def asT:Obj:=fz "read_item" "read_item" (tp 58)
def ao5:Obj:=co [(.str "read_item" 640),(.str "read_item" 641),(sf 642),(i 151),(i 3),(i 0),(i 0),(i 3),(r 335),(.bool true),(i 181),(r 336),.none,(r 337),(r 338),(r 339),(i 648),(i 151),(sf 649)]
def aqJ:Obj:=fn "read_item" "read_item" (tp 58) 3 [] .none .none .none (.str "fivefields.fields" 579) none (r 340) .none 0
def aq4:Obj:=tu [(.str "text" 654),(.str "low" 655),(.str "high" 656),(.str "items" 657),(.str "mask" 658),(.str "place" 659),(.str "item" 660),(.str "told" 661)]
def apE:Obj:=fz "read_field" "read_field" (tp 59)
def aoF:Obj:=co [(.str "read_field" 651),(.str "read_field" 652),(sf 653),(i 159),(i 3),(i 0),(i 0),(i 3),(r 342),(.bool true),(i 181),(r 343),.none,(r 344),(r 345),(r 346),(i 662),(i 159),(sf 663)]
def ao1:Obj:=fn "read_field" "read_field" (tp 59) 3 [] .none .none .none (.str "fivefields.fields" 579) none (r 347) .none 0
def aoZ:Obj:=tu [(.str "day" 686),(.str "first" 687)]
def aq2:Obj:=fz "weekday_at" "weekday_at" (tp 69)
def aq5:Obj:=co [(.str "weekday_at" 683),(.str "weekday_at" 684),(sf 685),(i 181),(i 2),(i 0),(i 0),(i 3),(r 349),(.bool true),(i 181),(r 350),.none,(r 351),(r 352),(r 353),(i 688),(i 181),(sf 689)]
def asN:Obj:=fn "weekday_at" "weekday_at" (tp 69) 3 [] .none .none .none (.str "fivefields.marks" 665) none (r 354) .none 0
def ap7:Obj:=tu [(.str "last" 694)]
def aq0:Obj:=fz "all_days" "all_days" (tp 70)
def apD:Obj:=co [(.str "all_days" 691),(.str "all_days" 692),(sf 693),(i 183),(i 1),(i 0),(i 0),(i 3),(r 356),(.bool true),(i 181),(r 357),.none,(r 358),(r 359),(r 360),(i 695),(i 183),(sf 696)]
def apY:Obj:=fn "all_days" "all_days" (tp 70) 3 [] .none .none .none (.str "fivefields.marks" 665) none (r 361) .none 0
def asA:Obj:=tu [(.str "day" 701),(.str "last" 702),(.str "first" 703),(.str "of_week" 704)]
def asV:Obj:=fz "nearest_work" "nearest_work" (tp 71)
def arA:Obj:=co [(.str "nearest_work" 698),(.str "nearest_work" 699),(sf 700),(i 185),(i 3),(i 0),(i 0),(i 3),(r 363),(.bool true),(i 181),(r 364),.none,(r 365),(r 366),(r 367),(i 705),(i 185),(sf 706)]
def apV:Obj:=fn "nearest_work" "nearest_work" (tp 71) 3 [] .none .none .none (.str "fivefields.marks" 665) none (r 368) .none 0
def arL:Obj:=tu [(.str "weekday" 711),(.str "first" 712)]
def asR:Obj:=fz "first_one" "first_one" (tp 72)
def ar1:Obj:=co [(.str "first_one" 708),(.str "first_one" 709),(sf 710),(i 192),(i 2),(i 0),(i 0),(i 3),(r 370),(.bool true),(i 181),(r 371),.none,(r 372),(r 373),(r 374),(i 713),(i 192),(sf 714)]
def apK:Obj:=fn "first_one" "first_one" (tp 72) 3 [] .none .none .none (.str "fivefields.marks" 665) none (r 375) .none 0
def aqT(P:Params):Obj:=di [(de P "__module__" 723 (.str "fivefields.marks" 665)),(de P "__qualname__" 725 (.str "Mark" 724)),(de P "__firstlineno__" 727 (.int 194 726)),(de P "days" 736 (r 390)),(de P "told" 743 (r 397)),(de P "__static_attributes__" 744 (r 398))] 6
def apU:Obj:=fd [(i 196),(i 4),(r 389),(i 199),(i 4),(r 396)]
def as4:Obj:=co [(.str "Mark" 718),(.str "Mark" 719),(sf 720),(i 194),(i 0),(i 0),(i 0),(i 0),(r 380),(.bool false),(i 181),(r 381),.none,.none,.none,.none,(i 721),(i 194),(sf 722)]
def asM:Obj:=⟨(.type "frame"),none,.plain,#[(some (r 382)),(some (r 3)),(some (r 379)),none,(some (.str "fivefields.marks" 665)),none,(some (r 0))]⟩
def aq6:Obj:=tu [(.str "self" 731),(.str "last" 732),(.str "first" 733)]
def aoI:Obj:=fz "days" "Mark.days" (ib (tp 73) 0)
def asB:Obj:=co [(.str "days" 728),(.str "Mark.days" 729),(sf 730),(i 196),(i 3),(i 0),(i 0),(i 3),(r 384),(.bool true),(i 181),(r 385),.none,(r 386),(r 387),(r 388),(i 734),(i 196),(sf 735)]
def ar4:Obj:=fn "days" "Mark.days" (ib (tp 73) 0) 3 [] .none .none .none (.str "fivefields.marks" 665) none (r 389) .none 0
def apJ:Obj:=tu [(.str "self" 740)]
def ar7:Obj:=fz "told" "Mark.told" (ib (tp 73) 1)
def apB:Obj:=co [(.str "told" 737),(.str "Mark.told" 738),(sf 739),(i 199),(i 1),(i 0),(i 0),(i 3),(r 391),(.bool true),(i 181),(r 392),.none,(r 393),(r 394),(r 395),(i 741),(i 199),(sf 742)]
def aqO:Obj:=fn "told" "Mark.told" (ib (tp 73) 1) 3 [] .none .none .none (.str "fivefields.marks" 665) none (r 396) .none 0
def aoN(P:Params):Obj:=di [(de P "__module__" 723 (.str "fivefields.marks" 665)),(de P "__firstlineno__" 727 (.int 194 726)),(de P "days" 736 (r 390)),(de P "told" 743 (r 397)),(de P "__static_attributes__" 744 (r 398)),(de P "__dict__" 746 (r 401)),(de P "__weakref__" 748 (r 402)),(de P "__doc__" 749 .none)] 4
def o241:Obj:=⟨(.type "type"),none,(.cls ⟨"Mark",[(.type "object")],[(r 400),(.type "object")],399,"Mark",true,[],[],false,none,false⟩),#[none,none,(some (.str "Mark" 716)),(some (.str "Mark" 724)),(some (.builtin "object.__new__")),(some (.bool true))]⟩
def as8:Obj:=⟨(.type "getset_descriptor"),none,(.fields #[(.str "__dict__" 745),(r 400),(.builtin "function.__dict__"),(.builtin "function.__dict__#set")]),#[]⟩
def aoJ:Obj:=⟨(.type "getset_descriptor"),none,(.fields #[(.str "__weakref__" 747),(r 400),(.builtin "ExceptionGroup.__weakref__"),.none]),#[]⟩
def as3:Obj:=⟨(.type "super"),none,(.fields #[(r 400),(r 400),(r 400)]),#[]⟩
def ap1:Obj:=⟨(.type "builtin_function_or_method"),none,(.fields #[(.builtin "object.__init_subclass__"),(r 400)]),#[]⟩
def t2(P:Params):BT:=(nd (boot_o_0 P) (nd (boot_o_1 P) (nd (o88 P) (nd (boot_o_7 P) (nd o0 (nd o90 (nd o36 (nd o78 (lf o1) (lf asM)) (nd o0 (lf o0) .nil)) (nd o59 (nd apH (lf ap8) .nil) (nd arG (lf aoZ) .nil))) (nd o20 (nd o11 (nd o0 (lf aoP) (lf (aoN P))) (nd o0 (lf o0) .nil)) (nd (o68 P) (nd o1 (lf aqI) .nil) (nd aqD (lf asV) .nil)))) (nd o11 (nd o1 (nd o41 (nd o83 (lf arX) (lf o0)) (nd apP (lf apA) .nil)) (nd o63 (nd o0 (lf asW) .nil) (nd asE (lf o0) .nil))) (nd (o31 P) (nd o52 (nd o97 (lf ap2) .nil) (nd o1 (lf o1) .nil)) (nd o73 (nd atB (lf aoL) .nil) (nd o0 (lf ar1) .nil))))) (nd o0 (nd o7 (nd o20 (nd o1 (nd o0 (lf as9) (lf o0)) (nd o0 (lf o0) .nil)) (nd (o61 P) (nd o0 (lf aoS) .nil) (nd o1 (lf asN) .nil))) (nd o1 (nd o50 (nd o0 (lf aoT) (lf as3)) (nd asC (lf asT) .nil)) (nd o70 (nd aqP (lf ap5) .nil) (nd o0 (lf o1) .nil)))) (nd o13 (nd (o24 P) (nd o45 (nd o87 (lf aoY) (lf ar7)) (nd o0 (lf o0) .nil)) (nd o66 (nd apQ (lf aqR) .nil) (nd asI (lf o0) .nil))) (nd o20 (nd o55 (nd o0 (lf aq3) .nil) (nd arJ (lf aoF) .nil)) (nd (o75 P) (nd aoQ (lf arZ) .nil) (nd ao7 (lf (aqT P)) .nil)))))) (nd (boot_o_5 P) (nd (boot_o_9 P) (nd o6 (nd o18 (nd o38 (nd o1 (lf o0) (lf o1)) (nd aqY (lf aoH) .nil)) (nd o20 (nd o1 (lf arT) .nil) (nd aqH (lf aq2) .nil))) (nd (o28 P) (nd o0 (nd o92 (lf o0) (lf as8)) (nd aqW (lf apR) .nil)) (nd o1 (nd o0 (lf o1) .nil) (nd o1 (lf apV) .nil)))) (nd o0 (nd o23 (nd o43 (nd o85 (lf ar9) (lf apJ)) (nd o1 (lf o1) .nil)) (nd (o64 P) (nd atC (lf o0) .nil) (nd o0 (lf apD) .nil))) (nd o33 (nd o53 (nd o1 (lf o1) .nil) (nd o0 (lf o0) .nil)) (nd o20 (nd arY (lf asG) .nil) (nd apO (lf o0) .nil))))) (nd o2 (nd o9 (nd (o21 P) (nd o0 (nd o81 (lf o0) (lf asB)) (nd ar5 (lf arU) .nil)) (nd o1 (nd asD (lf o1) .nil) (nd o0 (lf o1) .nil))) (nd o30 (nd o0 (nd o95 (lf asU) .nil) (nd arB (lf aqJ) .nil)) (nd (o71 P) (nd o0 (lf o0) .nil) (nd arO (lf o0) .nil)))) (nd o0 (nd o26 (nd o47 (nd o11 (lf o1) (lf aqO)) (nd asJ (lf asP) .nil)) (nd o20 (nd ao3 (lf as2) .nil) (nd aqC (lf asA) .nil))) (nd (o35 P) (nd (o57 P) (nd arS (lf o0) .nil) (nd o0 (lf o0) .nil)) (nd o76 (nd o1 (lf o1) .nil) (nd ap3 (lf apU) .nil))))))) (nd (boot_o_2 P) (nd (boot_o_4 P) (nd (boot_o_8 P) (nd o1 (nd o17 (nd o37 (nd o0 (lf as6) (lf o0)) (nd aq1 (lf aqA) .nil)) (nd o60 (nd o0 (lf o0) .nil) (nd aoG (lf o0) .nil))) (nd o11 (nd (o48 P) (nd o1 (lf asH) (lf o241)) (nd o1 (lf o1) .nil)) (nd o0 (nd aqS (lf o0) .nil) (nd o0 (lf arA) .nil)))) (nd (o12 P) (nd o22 (nd o42 (nd (o84 P) (lf o0) (lf o1)) (nd o0 (lf o0) .nil)) (nd o0 (nd o1 (lf aoR) .nil) (nd aqU (lf aq0) .nil))) (nd o32 (nd o0 (nd o0 (lf o0) .nil) (nd apF (lf aq4) .nil)) (nd o74 (nd o0 (lf o0) .nil) (nd o1 (lf apK) .nil))))) (nd o89 (nd o8 (nd o11 (nd o39 (nd o80 (lf apZ) (lf aoI)) (nd o1 (lf o1) .nil)) (nd o0 (nd aoW (lf o0) .nil) (nd ar3 (lf o0) .nil))) (nd o29 (nd o51 (nd (o94 P) (lf o0) (lf ap1)) (nd apL (lf ao5) .nil)) (nd o0 (nd ar6 (lf arM) .nil) (nd aq8 (lf arL) .nil)))) (nd o14 (nd o25 (nd o46 (nd o20 (lf o0) (lf apB)) (nd ar8 (lf apM) .nil)) (nd o67 (nd atD (lf o0) .nil) (nd o0 (lf o1) .nil))) (nd o11 (nd o56 (nd o99 (lf apI) .nil) (nd aoO (lf ao1) .nil)) (nd o0 (nd o0 (lf o0) .nil) (nd arP (lf o0) .nil)))))) (nd (boot_o_6 P) (nd (boot_o_10 P) (nd o0 (nd o19 (nd o0 (nd o79 (lf asK) (lf aq6)) (nd asY (lf ar2) .nil)) (nd o11 (nd asX (lf asQ) .nil) (nd o0 (lf aq5) .nil))) (nd o0 (nd o49 (nd o93 (lf o1) (lf aoJ)) (nd o0 (lf o0) .nil)) (nd o69 (nd aqL (lf aoX) .nil) (nd asS (lf o0) .nil)))) (nd o1 (nd o0 (nd (o44 P) (nd o86 (lf arI) (lf o0)) (nd arK (lf apX) .nil)) (nd o65 (nd o0 (lf o1) .nil) (nd o1 (lf apY) .nil))) (nd o34 (nd o54 (nd o98 (lf arE) .nil) (nd aqB (lf apE) .nil)) (nd o11 (nd asF (lf apC) .nil) (nd o0 (lf o11) .nil))))) (nd o3 (nd o10 (nd o0 (nd o40 (nd o82 (lf o1) (lf ar4)) (nd aqN (lf arQ) .nil)) (nd o62 (nd arR (lf atA) .nil) (nd aoM (lf ap7) .nil))) (nd o0 (nd o1 (nd o96 (lf aqQ) .nil) (nd o0 (lf o0) .nil)) (nd o72 (nd o1 (lf o1) .nil) (nd aq9 (lf asR) .nil)))) (nd (o15 P) (nd o27 (nd o20 (nd (o91 P) (lf apS) (lf o0)) (nd ao0 (lf apG) .nil)) (nd o11 (nd o0 (lf ao4) .nil) (nd atE (lf o0) .nil))) (nd o0 (nd o58 (nd ar0 (lf o1) .nil) (nd o1 (lf o1) .nil)) (nd o77 (nd apN (lf aqM) .nil) (nd o0 (lf as4) .nil))))))))
def s2(w:World)(os:OsState):SharedT:=⟨t2 w.params,405,⟨[],[],[],0,[],[],false,#[],[],0,false,false,false,0,[2000,10,10],false,0,true,[],[],0,false⟩,#[],⟨0,0,0,0⟩,752,os⟩
def l1:List Stmt:=(bi.drop 10).take 64
theorem r1(w:World)(os:OsState):
  segRunT treeTable pw w 11 an 1 1746 (s1 w os) (piecesOf l1 ev cd ⟨23,0,26,24⟩ bk) =
  some (.next,s2 w os,cd,⟨194,0,200,17⟩):=by kernel_rfl
def o246(P:Params):Obj:=di [(de P "__name__" 165 (.str "fivefields.marks" 665)),(de P "__doc__" 166 .none),(de P "__package__" 167 .none),(de P "__loader__" 168 (.builtin "__main__.__loader__#opaque")),(de P "__spec__" 169 .none),(de P "__annotations__" 170 (r 6)),(de P "__builtins__" 171 (r 4)),(de P "__file__" 173 (sf 172)),(de P "__cached__" 174 .none),(de P "_wall" 193 (r 21)),(de P "FieldError" 213 (r 31)),(de P "NoDay" 229 (r 44)),(de P "NoMoment" 245 (r 56)),(de P "NoField" 270 (r 75)),(de P "NoRow" 295 (r 94)),(de P "NoBook" 311 (r 106)),(de P "NoClock" 327 (r 118)),(de P "NoName" 352 (r 137)),(de P "NoWord" 368 (r 149)),(de P "is_whole" 377 (r 158)),(de P "MONTH_LASTS" 392 (r 159)),(de P "ROUND_YEARS" 394 (.int 400 393)),(de P "ROUND_DAYS" 396 (.int 146097 395)),(de P "is_long" 403 (r 166)),(de P "multiples_before" 411 (r 173)),(de P "days_before" 419 (r 180)),(de P "last_of" 427 (r 187)),(de P "is_date" 436 (r 194)),(de P "day_of" 442 (r 199)),(de P "year_of" 450 (r 206)),(de P "date_of" 460 (r 213)),(de P "weekday" 467 (r 220)),(de P "FIGURES" 471 (.str "0123456789" 470)),(de P "all_figures" 477 (r 225)),(de P "is_written" 484 (r 232)),(de P "DAY_MINUTES" 488 (.int 1440 487)),(de P "HOUR_MINUTES" 490 (.int 60 489)),(de P "parted" 498 (r 239)),(de P "LONG_PLACE" 502 (.int 12 501)),(de P "LONG_LAST" 504 (.int 29 503)),(de P "SHORT_YEAR" 506 (.int 1 505)),(de P "kind_from" 516 (r 246)),(de P "kind_of" 524 (r 253)),(de P "month_at" 533 (r 260)),(de P "has" 543 (r 267)),(de P "starts_of" 549 (r 272)),(de P "end_from" 558 (r 279)),(de P "ranges_of" 564 (r 284)),(de P "shown_range" 572 (r 291)),(de P "shown_ranges" 578 (r 296)),(de P "MOST_SIGNS" 582 (.int 300 581)),(de P "MOST_ITEMS" 584 (.int 40 583)),(de P "MOST_STRIDE" 586 (.int 99 585)),(de P "mask_of" 595 (r 303)),(de P "numbers_in" 601 (r 308)),(de P "run_mask" 610 (r 315)),(de P "read_number" 620 (r 322)),(de P "read_run" 626 (r 327)),(de P "read_strided" 639 (r 334)),(de P "read_item" 650 (r 341)),(de P "read_field" 664 (r 348)),(de P "MOST_MARKS" 668 (.int 20 667)),(de P "MOST_DAY" 670 (.int 31 669)),(de P "MOST_BACK" 672 (.int 30 671)),(de P "MOST_NTH" 674 (.int 5 673)),(de P "SUNDAY" 676 (.int 0 675)),(de P "SATURDAY" 678 (.int 6 677)),(de P "SUNDAY_TOO" 680 (.int 7 679)),(de P "ALL_WEEKDAYS" 682 (.int 127 681)),(de P "weekday_at" 690 (r 355)),(de P "all_days" 697 (r 362)),(de P "nearest_work" 707 (r 369)),(de P "first_one" 715 (r 376)),(de P "Mark" 751 (r 400)),(de P "Numbers" 792 (r 435)),(de P "Last" 834 (r 469)),(de P "Near" 875 (r 502)),(de P "LastWork" 907 (r 528)),(de P "Weekdays" 950 (r 561)),(de P "Nth" 994 (r 594))] 80
def o247:Obj:=fd [(i 1),(i 0),(r 20),(i 5),(i 0),(r 27),(i 7),(i 0),(r 40),(i 9),(i 0),(r 52),(i 11),(i 0),(r 64),(i 15),(i 0),(r 83),(i 19),(i 0),(r 102),(i 21),(i 0),(r 114),(i 23),(i 0),(r 126),(i 27),(i 0),(r 145),(i 30),(i 0),(r 157),(i 36),(i 0),(r 165),(i 38),(i 0),(r 172),(i 40),(i 0),(r 179),(i 43),(i 0),(r 186),(i 47),(i 0),(r 193),(i 51),(i 0),(r 198),(i 56),(i 0),(r 205),(i 61),(i 0),(r 212),(i 69),(i 0),(r 219),(i 73),(i 0),(r 224),(i 75),(i 0),(r 231),(i 80),(i 0),(r 238),(i 87),(i 0),(r 245),(i 90),(i 0),(r 252),(i 92),(i 0),(r 259),(i 99),(i 0),(r 266),(i 101),(i 0),(r 271),(i 104),(i 0),(r 278),(i 109),(i 0),(r 283),(i 111),(i 0),(r 290),(i 115),(i 0),(r 295),(i 121),(i 0),(r 302),(i 126),(i 0),(r 307),(i 128),(i 0),(r 314),(i 130),(i 0),(r 321),(i 137),(i 0),(r 326),(i 144),(i 0),(r 333),(i 151),(i 0),(r 340),(i 159),(i 0),(r 347),(i 181),(i 0),(r 354),(i 183),(i 0),(r 361),(i 185),(i 0),(r 368),(i 192),(i 0),(r 375),(i 194),(i 0),(r 382),(i 201),(i 0),(r 410),(i 211),(i 0),(r 443),(i 225),(i 0),(r 477),(i 237),(i 0),(r 510),(i 244),(i 0),(r 536),(i 257),(i 0),(r 569)]
def o248:Obj:=⟨(.type "type"),none,(.cls ⟨"Mark",[(.type "object")],[(r 400),(.type "object")],399,"Mark",true,[],[(r 435),(r 469),(r 502),(r 528),(r 561),(r 594)],false,none,false⟩),#[none,none,(some (.str "Mark" 716)),(some (.str "Mark" 724)),(some (.builtin "object.__new__")),(some (.bool true))]⟩
def abC:Obj:=tu [(r 400)]
def avM(P:Params):Obj:=di [(de P "__module__" 759 (.str "fivefields.marks" 665)),(de P "__qualname__" 761 (.str "Numbers" 760)),(de P "__firstlineno__" 763 (.int 201 762)),(de P "__init__" 771 (r 418)),(de P "days" 780 (r 425)),(de P "told" 787 (r 432)),(de P "__static_attributes__" 789 (r 433))] 7
def avJ:Obj:=fd [(i 203),(i 4),(r 417),(i 206),(i 4),(r 424),(i 209),(i 4),(r 431)]
def awE:Obj:=co [(.str "Numbers" 754),(.str "Numbers" 755),(sf 756),(i 201),(i 0),(i 0),(i 0),(i 0),(r 408),(.bool false),(i 181),(r 409),.none,.none,.none,.none,(i 757),(i 201),(sf 758)]
def auU:Obj:=⟨(.type "frame"),none,.plain,#[(some (r 410)),(some (r 3)),(some (r 407)),none,(some (.str "fivefields.marks" 665)),none,(some (r 0))]⟩
def awB:Obj:=tu [(.str "self" 767),(.str "mask" 768)]
def auE:Obj:=fz "__init__" "Numbers.__init__" (ib (tp 74) 0)
def atW:Obj:=co [(.str "__init__" 764),(.str "Numbers.__init__" 765),(sf 766),(i 203),(i 2),(i 0),(i 0),(i 3),(r 412),(.bool true),(i 181),(r 413),.none,(r 414),(r 415),(r 416),(i 769),(i 203),(sf 770)]
def auS:Obj:=fn "__init__" "Numbers.__init__" (ib (tp 74) 0) 3 [] .none .none .none (.str "fivefields.marks" 665) none (r 417) .none 0
def avG:Obj:=tu [(.str "self" 775),(.str "last" 776),(.str "first" 777)]
def atP:Obj:=fz "days" "Numbers.days" (ib (tp 74) 1)
def atN:Obj:=co [(.str "days" 772),(.str "Numbers.days" 773),(sf 774),(i 206),(i 3),(i 0),(i 0),(i 3),(r 419),(.bool true),(i 181),(r 420),.none,(r 421),(r 422),(r 423),(i 778),(i 206),(sf 779)]
def awO:Obj:=fn "days" "Numbers.days" (ib (tp 74) 1) 3 [] .none .none .none (.str "fivefields.marks" 665) none (r 424) .none 0
def auD:Obj:=tu [(.str "self" 784)]
def ayH:Obj:=fz "told" "Numbers.told" (ib (tp 74) 2)
def au6:Obj:=co [(.str "told" 781),(.str "Numbers.told" 782),(sf 783),(i 209),(i 1),(i 0),(i 0),(i 3),(r 426),(.bool true),(i 181),(r 427),.none,(r 428),(r 429),(r 430),(i 785),(i 209),(sf 786)]
def axG:Obj:=fn "told" "Numbers.told" (ib (tp 74) 2) 3 [] .none .none .none (.str "fivefields.marks" 665) none (r 431) .none 0
def awW:Obj:=tu [(.str "mask" 788)]
def avD(P:Params):Obj:=di [(de P "__module__" 759 (.str "fivefields.marks" 665)),(de P "__firstlineno__" 763 (.int 201 762)),(de P "__init__" 771 (r 418)),(de P "days" 780 (r 425)),(de P "told" 787 (r 432)),(de P "__static_attributes__" 789 (r 433)),(de P "__doc__" 790 .none)] 2
def atL:Obj:=⟨(.type "type"),none,(.cls ⟨"Numbers",[(r 400)],[(r 435),(r 400),(.type "object")],434,"Numbers",true,[],[],false,none,false⟩),#[(some (r 405)),none,(some (.str "Numbers" 752)),(some (.str "Numbers" 760)),(some (.builtin "object.__new__")),(some (.bool true))]⟩
def avQ:Obj:=⟨(.type "super"),none,(.fields #[(r 435),(r 435),(r 435)]),#[]⟩
def avO:Obj:=⟨(.type "builtin_function_or_method"),none,(.fields #[(.builtin "object.__init_subclass__"),(r 435)]),#[]⟩
def atT(P:Params):Obj:=di [(de P "__module__" 800 (.str "fivefields.marks" 665)),(de P "__qualname__" 802 (.str "Last" 801)),(de P "__firstlineno__" 804 (.int 211 803)),(de P "__init__" 813 (r 452)),(de P "days" 822 (r 459)),(de P "told" 829 (r 466)),(de P "__static_attributes__" 831 (r 467))] 7
def auH:Obj:=fd [(i 213),(i 4),(r 451),(i 216),(i 4),(r 458),(i 221),(i 4),(r 465)]
def ax5:Obj:=co [(.str "Last" 795),(.str "Last" 796),(sf 797),(i 211),(i 0),(i 0),(i 0),(i 0),(r 441),(.bool false),(i 181),(r 442),.none,.none,.none,.none,(i 798),(i 211),(sf 799)]
def atM:Obj:=⟨(.type "frame"),none,.plain,#[(some (r 443)),(some (r 3)),(some (r 440)),none,(some (.str "fivefields.marks" 665)),none,(some (r 0))]⟩
def auO:Obj:=tu [(.int 0 805)]
def auL:Obj:=tu [(.str "self" 809),(.str "back" 810)]
def aw7:Obj:=fz "__init__" "Last.__init__" (ib (tp 75) 0)
def auC:Obj:=co [(.str "__init__" 806),(.str "Last.__init__" 807),(sf 808),(i 213),(i 2),(i 0),(i 0),(i 3),(r 446),(.bool true),(i 181),(r 447),.none,(r 448),(r 449),(r 450),(i 811),(i 213),(sf 812)]
def aw2:Obj:=fn "__init__" "Last.__init__" (ib (tp 75) 0) 3 [] (r 445) .none .none (.str "fivefields.marks" 665) none (r 451) .none 0
def at7:Obj:=tu [(.str "self" 817),(.str "last" 818),(.str "first" 819)]
def auM:Obj:=⟨.none,none,(.func ⟨"days","Last.days",(ag (ib (tp 75) 1)),(.stmts (bd (ib (tp 75) 1))),(sc (ib (tp 73) 0)),0,[],.none,.none,.none,.none,none,.none,.none,0⟩),#[]⟩
def ax8:Obj:=co [(.str "days" 814),(.str "Last.days" 815),(sf 816),(i 216),(i 3),(i 0),(i 0),(i 3),(r 453),(.bool true),(i 181),(r 454),.none,(r 455),(r 456),(r 457),(i 820),(i 216),(sf 821)]
def auN:Obj:=⟨(.type "function"),none,(.func ⟨"days","Last.days",(ag (ib (tp 75) 1)),(.stmts (bd (ib (tp 75) 1))),(sc (ib (tp 73) 0)),3,[],.none,.none,.none,(.str "fivefields.marks" 665),none,(r 458),.none,0⟩),#[]⟩
def av7:Obj:=tu [(.str "self" 826)]
def avV:Obj:=fz "told" "Last.told" (ib (tp 75) 2)
def avK:Obj:=co [(.str "told" 823),(.str "Last.told" 824),(sf 825),(i 221),(i 1),(i 0),(i 0),(i 3),(r 460),(.bool true),(i 181),(r 461),.none,(r 462),(r 463),(r 464),(i 827),(i 221),(sf 828)]
def avX:Obj:=fn "told" "Last.told" (ib (tp 75) 2) 3 [] .none .none .none (.str "fivefields.marks" 665) none (r 465) .none 0
def axY:Obj:=tu [(.str "back" 830)]
def atY(P:Params):Obj:=di [(de P "__module__" 800 (.str "fivefields.marks" 665)),(de P "__firstlineno__" 804 (.int 211 803)),(de P "__init__" 813 (r 452)),(de P "days" 822 (r 459)),(de P "told" 829 (r 466)),(de P "__static_attributes__" 831 (r 467)),(de P "__doc__" 832 .none)] 2
def auR:Obj:=⟨(.type "type"),none,(.cls ⟨"Last",[(r 400)],[(r 469),(r 400),(.type "object")],468,"Last",true,[],[],false,none,false⟩),#[(some (r 438)),none,(some (.str "Last" 793)),(some (.str "Last" 801)),(some (.builtin "object.__new__")),(some (.bool true))]⟩
def awD:Obj:=⟨(.type "super"),none,(.fields #[(r 469),(r 469),(r 469)]),#[]⟩
def awP:Obj:=⟨(.type "builtin_function_or_method"),none,(.fields #[(.builtin "object.__init_subclass__"),(r 469)]),#[]⟩
def axI(P:Params):Obj:=di [(de P "__module__" 842 (.str "fivefields.marks" 665)),(de P "__qualname__" 844 (.str "Near" 843)),(de P "__firstlineno__" 846 (.int 225 845)),(de P "__init__" 854 (r 485)),(de P "days" 863 (r 492)),(de P "told" 870 (r 499)),(de P "__static_attributes__" 872 (r 500))] 7
def auZ:Obj:=fd [(i 227),(i 4),(r 484),(i 230),(i 4),(r 491),(i 235),(i 4),(r 498)]
def auX:Obj:=co [(.str "Near" 837),(.str "Near" 838),(sf 839),(i 225),(i 0),(i 0),(i 0),(i 0),(r 475),(.bool false),(i 181),(r 476),.none,.none,.none,.none,(i 840),(i 225),(sf 841)]
def auQ:Obj:=⟨(.type "frame"),none,.plain,#[(some (r 477)),(some (r 3)),(some (r 474)),none,(some (.str "fivefields.marks" 665)),none,(some (r 0))]⟩
def at8:Obj:=tu [(.str "self" 850),(.str "day" 851)]
def au7:Obj:=fz "__init__" "Near.__init__" (ib (tp 76) 0)
def aw8:Obj:=co [(.str "__init__" 847),(.str "Near.__init__" 848),(sf 849),(i 227),(i 2),(i 0),(i 0),(i 3),(r 479),(.bool true),(i 181),(r 480),.none,(r 481),(r 482),(r 483),(i 852),(i 227),(sf 853)]
def at1:Obj:=fn "__init__" "Near.__init__" (ib (tp 76) 0) 3 [] .none .none .none (.str "fivefields.marks" 665) none (r 484) .none 0
def avC:Obj:=tu [(.str "self" 858),(.str "last" 859),(.str "first" 860)]
def av3:Obj:=fz "days" "Near.days" (ib (tp 76) 1)
def axF:Obj:=co [(.str "days" 855),(.str "Near.days" 856),(sf 857),(i 230),(i 3),(i 0),(i 0),(i 3),(r 486),(.bool true),(i 181),(r 487),.none,(r 488),(r 489),(r 490),(i 861),(i 230),(sf 862)]
def ayP:Obj:=fn "days" "Near.days" (ib (tp 76) 1) 3 [] .none .none .none (.str "fivefields.marks" 665) none (r 491) .none 0
def axD:Obj:=tu [(.str "self" 867)]
def awK:Obj:=⟨.none,none,(.func ⟨"told","Near.told",(ag (ib (tp 76) 2)),(.stmts (bd (ib (tp 76) 2))),(sc (ib (tp 75) 2)),0,[],.none,.none,.none,.none,none,.none,.none,0⟩),#[]⟩
def avU:Obj:=co [(.str "told" 864),(.str "Near.told" 865),(sf 866),(i 235),(i 1),(i 0),(i 0),(i 3),(r 493),(.bool true),(i 181),(r 494),.none,(r 495),(r 496),(r 497),(i 868),(i 235),(sf 869)]
def avA:Obj:=⟨(.type "function"),none,(.func ⟨"told","Near.told",(ag (ib (tp 76) 2)),(.stmts (bd (ib (tp 76) 2))),(sc (ib (tp 75) 2)),3,[],.none,.none,.none,(.str "fivefields.marks" 665),none,(r 498),.none,0⟩),#[]⟩
def ayD:Obj:=tu [(.str "day" 871)]
def avW(P:Params):Obj:=di [(de P "__module__" 842 (.str "fivefields.marks" 665)),(de P "__firstlineno__" 846 (.int 225 845)),(de P "__init__" 854 (r 485)),(de P "days" 863 (r 492)),(de P "told" 870 (r 499)),(de P "__static_attributes__" 872 (r 500)),(de P "__doc__" 873 .none)] 2
def awA:Obj:=⟨(.type "type"),none,(.cls ⟨"Near",[(r 400)],[(r 502),(r 400),(.type "object")],501,"Near",true,[],[],false,none,false⟩),#[(some (r 472)),none,(some (.str "Near" 835)),(some (.str "Near" 843)),(some (.builtin "object.__new__")),(some (.bool true))]⟩
def auI:Obj:=⟨(.type "super"),none,(.fields #[(r 502),(r 502),(r 502)]),#[]⟩
def atJ:Obj:=⟨(.type "builtin_function_or_method"),none,(.fields #[(.builtin "object.__init_subclass__"),(r 502)]),#[]⟩
def ax3(P:Params):Obj:=di [(de P "__module__" 883 (.str "fivefields.marks" 665)),(de P "__qualname__" 885 (.str "LastWork" 884)),(de P "__firstlineno__" 887 (.int 237 886)),(de P "days" 896 (r 518)),(de P "told" 903 (r 525)),(de P "__static_attributes__" 904 (r 526))] 6
def av0:Obj:=fd [(i 239),(i 4),(r 517),(i 242),(i 4),(r 524)]
def auW:Obj:=co [(.str "LastWork" 878),(.str "LastWork" 879),(sf 880),(i 237),(i 0),(i 0),(i 0),(i 0),(r 508),(.bool false),(i 181),(r 509),.none,.none,.none,.none,(i 881),(i 237),(sf 882)]
def avT:Obj:=⟨(.type "frame"),none,.plain,#[(some (r 510)),(some (r 3)),(some (r 507)),none,(some (.str "fivefields.marks" 665)),none,(some (r 0))]⟩
def axW:Obj:=tu [(.str "self" 891),(.str "last" 892),(.str "first" 893)]
def avF:Obj:=⟨.none,none,(.func ⟨"days","LastWork.days",(ag (ib (tp 77) 0)),(.stmts (bd (ib (tp 77) 0))),(sc (ib (tp 76) 1)),0,[],.none,.none,.none,.none,none,.none,.none,0⟩),#[]⟩
def ayO:Obj:=co [(.str "days" 888),(.str "LastWork.days" 889),(sf 890),(i 239),(i 3),(i 0),(i 0),(i 3),(r 512),(.bool true),(i 181),(r 513),.none,(r 514),(r 515),(r 516),(i 894),(i 239),(sf 895)]
def axH:Obj:=⟨(.type "function"),none,(.func ⟨"days","LastWork.days",(ag (ib (tp 77) 0)),(.stmts (bd (ib (tp 77) 0))),(sc (ib (tp 76) 1)),3,[],.none,.none,.none,(.str "fivefields.marks" 665),none,(r 517),.none,0⟩),#[]⟩
def aw5:Obj:=tu [(.str "self" 900)]
def avH:Obj:=⟨.none,none,(.func ⟨"told","LastWork.told",(ag (ib (tp 77) 1)),(.stmts (bd (ib (tp 77) 1))),(sc (ib (tp 73) 1)),0,[],.none,.none,.none,.none,none,.none,.none,0⟩),#[]⟩
def awC:Obj:=co [(.str "told" 897),(.str "LastWork.told" 898),(sf 899),(i 242),(i 1),(i 0),(i 0),(i 3),(r 519),(.bool true),(i 181),(r 520),.none,(r 521),(r 522),(r 523),(i 901),(i 242),(sf 902)]
def at9:Obj:=⟨(.type "function"),none,(.func ⟨"told","LastWork.told",(ag (ib (tp 77) 1)),(.stmts (bd (ib (tp 77) 1))),(sc (ib (tp 73) 1)),3,[],.none,.none,.none,(.str "fivefields.marks" 665),none,(r 524),.none,0⟩),#[]⟩
def ayG(P:Params):Obj:=di [(de P "__module__" 883 (.str "fivefields.marks" 665)),(de P "__firstlineno__" 887 (.int 237 886)),(de P "days" 896 (r 518)),(de P "told" 903 (r 525)),(de P "__static_attributes__" 904 (r 526)),(de P "__doc__" 905 .none)] 2
def at0:Obj:=⟨(.type "type"),none,(.cls ⟨"LastWork",[(r 400)],[(r 528),(r 400),(.type "object")],527,"LastWork",true,[],[],false,none,false⟩),#[(some (r 505)),none,(some (.str "LastWork" 876)),(some (.str "LastWork" 884)),(some (.builtin "object.__new__")),(some (.bool true))]⟩
def ayR:Obj:=⟨(.type "super"),none,(.fields #[(r 528),(r 528),(r 528)]),#[]⟩
def atF:Obj:=⟨(.type "builtin_function_or_method"),none,(.fields #[(.builtin "object.__init_subclass__"),(r 528)]),#[]⟩
def axA(P:Params):Obj:=di [(de P "__module__" 915 (.str "fivefields.marks" 665)),(de P "__qualname__" 917 (.str "Weekdays" 916)),(de P "__firstlineno__" 919 (.int 244 918)),(de P "__init__" 927 (r 544)),(de P "days" 938 (r 551)),(de P "told" 945 (r 558)),(de P "__static_attributes__" 947 (r 559))] 7
def au9:Obj:=fd [(i 246),(i 4),(r 543),(i 249),(i 4),(r 550),(i 255),(i 4),(r 557)]
def awJ:Obj:=co [(.str "Weekdays" 910),(.str "Weekdays" 911),(sf 912),(i 244),(i 0),(i 0),(i 0),(i 0),(r 534),(.bool false),(i 181),(r 535),.none,.none,.none,.none,(i 913),(i 244),(sf 914)]
def ax7:Obj:=⟨(.type "frame"),none,.plain,#[(some (r 536)),(some (r 3)),(some (r 533)),none,(some (.str "fivefields.marks" 665)),none,(some (r 0))]⟩
def axN:Obj:=tu [(.str "self" 923),(.str "mask" 924)]
def awL:Obj:=⟨.none,none,(.func ⟨"__init__","Weekdays.__init__",(ag (ib (tp 78) 0)),(.stmts (bd (ib (tp 78) 0))),(sc (ib (tp 74) 0)),0,[],.none,.none,.none,.none,none,.none,.none,0⟩),#[]⟩
def auY:Obj:=co [(.str "__init__" 920),(.str "Weekdays.__init__" 921),(sf 922),(i 246),(i 2),(i 0),(i 0),(i 3),(r 538),(.bool true),(i 181),(r 539),.none,(r 540),(r 541),(r 542),(i 925),(i 246),(sf 926)]
def aw4:Obj:=⟨(.type "function"),none,(.func ⟨"__init__","Weekdays.__init__",(ag (ib (tp 78) 0)),(.stmts (bd (ib (tp 78) 0))),(sc (ib (tp 74) 0)),3,[],.none,.none,.none,(.str "fivefields.marks" 665),none,(r 543),.none,0⟩),#[]⟩
def awV:Obj:=tu [(.str "self" 931),(.str "last" 932),(.str "first" 933),(.str "weeks" 934),(.str "week" 935)]
def ax1:Obj:=fz "days" "Weekdays.days" (ib (tp 78) 1)
def av4:Obj:=co [(.str "days" 928),(.str "Weekdays.days" 929),(sf 930),(i 249),(i 3),(i 0),(i 0),(i 3),(r 545),(.bool true),(i 181),(r 546),.none,(r 547),(r 548),(r 549),(i 936),(i 249),(sf 937)]
def au8:Obj:=fn "days" "Weekdays.days" (ib (tp 78) 1) 3 [] .none .none .none (.str "fivefields.marks" 665) none (r 550) .none 0
def ax2:Obj:=tu [(.str "self" 942)]
def auJ:Obj:=⟨.none,none,(.func ⟨"told","Weekdays.told",(ag (ib (tp 78) 2)),(.stmts (bd (ib (tp 78) 2))),(sc (ib (tp 74) 2)),0,[],.none,.none,.none,.none,none,.none,.none,0⟩),#[]⟩
def atU:Obj:=co [(.str "told" 939),(.str "Weekdays.told" 940),(sf 941),(i 255),(i 1),(i 0),(i 0),(i 3),(r 552),(.bool true),(i 181),(r 553),.none,(r 554),(r 555),(r 556),(i 943),(i 255),(sf 944)]
def axC:Obj:=⟨(.type "function"),none,(.func ⟨"told","Weekdays.told",(ag (ib (tp 78) 2)),(.stmts (bd (ib (tp 78) 2))),(sc (ib (tp 74) 2)),3,[],.none,.none,.none,(.str "fivefields.marks" 665),none,(r 557),.none,0⟩),#[]⟩
def at4:Obj:=tu [(.str "mask" 946)]
def ayI(P:Params):Obj:=di [(de P "__module__" 915 (.str "fivefields.marks" 665)),(de P "__firstlineno__" 919 (.int 244 918)),(de P "__init__" 927 (r 544)),(de P "days" 938 (r 551)),(de P "told" 945 (r 558)),(de P "__static_attributes__" 947 (r 559)),(de P "__doc__" 948 .none)] 2
def axX:Obj:=⟨(.type "type"),none,(.cls ⟨"Weekdays",[(r 400)],[(r 561),(r 400),(.type "object")],560,"Weekdays",true,[],[],false,none,false⟩),#[(some (r 531)),none,(some (.str "Weekdays" 908)),(some (.str "Weekdays" 916)),(some (.builtin "object.__new__")),(some (.bool true))]⟩
def auF:Obj:=⟨(.type "super"),none,(.fields #[(r 561),(r 561),(r 561)]),#[]⟩
def awQ:Obj:=⟨(.type "builtin_function_or_method"),none,(.fields #[(.builtin "object.__init_subclass__"),(r 561)]),#[]⟩
def au0(P:Params):Obj:=di [(de P "__module__" 958 (.str "fivefields.marks" 665)),(de P "__qualname__" 960 (.str "Nth" 959)),(de P "__firstlineno__" 962 (.int 257 961)),(de P "__init__" 971 (r 577)),(de P "days" 981 (r 584)),(de P "told" 988 (r 591)),(de P "__static_attributes__" 991 (r 592))] 7
def awT:Obj:=fd [(i 259),(i 4),(r 576),(i 263),(i 4),(r 583),(i 269),(i 4),(r 590)]
def avL:Obj:=co [(.str "Nth" 953),(.str "Nth" 954),(sf 955),(i 257),(i 0),(i 0),(i 0),(i 0),(r 567),(.bool false),(i 181),(r 568),.none,.none,.none,.none,(i 956),(i 257),(sf 957)]
def aw0:Obj:=⟨(.type "frame"),none,.plain,#[(some (r 569)),(some (r 3)),(some (r 566)),none,(some (.str "fivefields.marks" 665)),none,(some (r 0))]⟩
def axK:Obj:=tu [(.str "self" 966),(.str "weekday" 967),(.str "many" 968)]
def auV:Obj:=fz "__init__" "Nth.__init__" (ib (tp 79) 0)
def aw3:Obj:=co [(.str "__init__" 963),(.str "Nth.__init__" 964),(sf 965),(i 259),(i 3),(i 0),(i 0),(i 3),(r 571),(.bool true),(i 181),(r 572),.none,(r 573),(r 574),(r 575),(i 969),(i 259),(sf 970)]
def ayJ:Obj:=fn "__init__" "Nth.__init__" (ib (tp 79) 0) 3 [] .none .none .none (.str "fivefields.marks" 665) none (r 576) .none 0
def ayB:Obj:=tu [(.str "self" 975),(.str "last" 976),(.str "first" 977),(.str "day" 978)]
def avR:Obj:=fz "days" "Nth.days" (ib (tp 79) 1)
def avS:Obj:=co [(.str "days" 972),(.str "Nth.days" 973),(sf 974),(i 263),(i 3),(i 0),(i 0),(i 3),(r 578),(.bool true),(i 181),(r 579),.none,(r 580),(r 581),(r 582),(i 979),(i 263),(sf 980)]
def awN:Obj:=fn "days" "Nth.days" (ib (tp 79) 1) 3 [] .none .none .none (.str "fivefields.marks" 665) none (r 583) .none 0
def ax6:Obj:=tu [(.str "self" 985)]
def av6:Obj:=⟨.none,none,(.func ⟨"told","Nth.told",(ag (ib (tp 79) 2)),(.stmts (bd (ib (tp 79) 2))),(sc (ib (tp 75) 2)),0,[],.none,.none,.none,.none,none,.none,.none,0⟩),#[]⟩
def au4:Obj:=co [(.str "told" 982),(.str "Nth.told" 983),(sf 984),(i 269),(i 1),(i 0),(i 0),(i 3),(r 585),(.bool true),(i 181),(r 586),.none,(r 587),(r 588),(r 589),(i 986),(i 269),(sf 987)]
def auB:Obj:=⟨(.type "function"),none,(.func ⟨"told","Nth.told",(ag (ib (tp 79) 2)),(.stmts (bd (ib (tp 79) 2))),(sc (ib (tp 75) 2)),3,[],.none,.none,.none,(.str "fivefields.marks" 665),none,(r 590),.none,0⟩),#[]⟩
def ayC:Obj:=tu [(.str "many" 989),(.str "weekday" 990)]
def avE(P:Params):Obj:=di [(de P "__module__" 958 (.str "fivefields.marks" 665)),(de P "__firstlineno__" 962 (.int 257 961)),(de P "__init__" 971 (r 577)),(de P "days" 981 (r 584)),(de P "told" 988 (r 591)),(de P "__static_attributes__" 991 (r 592)),(de P "__doc__" 992 .none)] 2
def awZ:Obj:=⟨(.type "type"),none,(.cls ⟨"Nth",[(r 400)],[(r 594),(r 400),(.type "object")],593,"Nth",true,[],[],false,none,false⟩),#[(some (r 564)),none,(some (.str "Nth" 951)),(some (.str "Nth" 959)),(some (.builtin "object.__new__")),(some (.bool true))]⟩
def atG:Obj:=⟨(.type "super"),none,(.fields #[(r 594),(r 594),(r 594)]),#[]⟩
def axZ:Obj:=⟨(.type "builtin_function_or_method"),none,(.fields #[(.builtin "object.__init_subclass__"),(r 594)]),#[]⟩
def t3(P:Params):BT:=(nd (boot_o_0 P) (nd (boot_o_1 P) (nd (o246 P) (nd (boot_o_7 P) (nd o0 (nd o90 (nd o36 (nd o78 (nd o1 (lf avT) .nil) (lf asM)) (nd o0 (nd o0 (lf auV) .nil) (lf o1))) (nd o59 (nd apH (nd ap8 (lf auY) .nil) (lf o0)) (nd arG (lf aoZ) (lf o0)))) (nd o20 (nd o11 (nd o0 (nd aoP (lf (ayG P)) .nil) (lf (aoN P))) (nd o0 (nd o0 (lf auB) .nil) (lf o0))) (nd (o68 P) (nd o1 (nd aqI (lf at4) .nil) (lf au6)) (nd aqD (lf asV) (lf axD))))) (nd o11 (nd o1 (nd o41 (nd o83 (nd arX (lf o0) .nil) (lf o0)) (nd apP (nd apA (lf avS) .nil) (lf at7))) (nd o63 (nd o0 (nd asW (lf au8) .nil) (lf atP)) (nd asE (lf o0) (lf o1)))) (nd (o31 P) (nd o52 (nd o97 (nd ap2 (lf au9) .nil) (lf (avM P))) (nd o1 (lf o1) (lf awP))) (nd o73 (nd atB (nd aoL (lf o0) .nil) (lf o11)) (nd o0 (lf ar1) (lf auI)))))) (nd o0 (nd o7 (nd o20 (nd o1 (nd o0 (nd as9 (lf o0) .nil) (lf o0)) (nd o0 (nd o0 (lf o1) .nil) (lf auC))) (nd (o61 P) (nd o0 (nd aoS (lf awV) .nil) (lf o0)) (nd o1 (lf asN) (lf au7)))) (nd o1 (nd o50 (nd o0 (nd aoT (lf abC) .nil) (lf as3)) (nd asC (nd asT (lf atG) .nil) (lf axY))) (nd o70 (nd aqP (nd ap5 (lf awQ) .nil) (lf atL)) (nd o0 (lf o1) (lf avA))))) (nd o13 (nd (o24 P) (nd o45 (nd o87 (nd aoY (lf avH) .nil) (lf ar7)) (nd o0 (nd o0 (lf ax6) .nil) (lf auN))) (nd o66 (nd apQ (nd aqR (lf o0) .nil) (lf o1)) (nd asI (lf o0) (lf axF)))) (nd o20 (nd o55 (nd o0 (nd aq3 (lf o1) .nil) (lf auU)) (nd arJ (lf aoF) (lf o0))) (nd (o75 P) (nd aoQ (nd arZ (lf o0) .nil) (lf ax5)) (nd ao7 (lf (aqT P)) (lf (ax3 P)))))))) (nd (boot_o_5 P) (nd (boot_o_9 P) (nd o6 (nd o18 (nd o38 (nd o1 (nd o0 (lf o1) .nil) (lf o1)) (nd aqY (nd aoH (lf ayJ) .nil) (lf o0))) (nd o20 (nd o1 (nd arT (lf o0) .nil) (lf atW)) (nd aqH (lf aq2) (lf at8)))) (nd (o28 P) (nd o0 (nd o92 (nd o0 (lf ayR) .nil) (lf as8)) (nd aqW (nd apR (lf (avE P)) .nil) (lf avK))) (nd o1 (nd o0 (nd o1 (lf axX) .nil) (lf awW)) (nd o1 (lf apV) (lf awK))))) (nd o0 (nd o23 (nd o43 (nd o85 (nd ar9 (lf aw5) .nil) (lf apJ)) (nd o1 (nd o1 (lf o0) .nil) (lf auM))) (nd (o64 P) (nd atC (nd o0 (lf o1) .nil) (lf awO)) (nd o0 (lf apD) (lf o0)))) (nd o33 (nd o53 (nd o1 (nd o1 (lf ax7) .nil) (lf avJ)) (nd o0 (lf o0) (lf o11))) (nd o20 (nd arY (nd asG (lf avL) .nil) (lf o0)) (nd apO (lf o0) (lf abC)))))) (nd o2 (nd o9 (nd (o21 P) (nd o0 (nd o81 (nd o0 (lf ayO) .nil) (lf asB)) (nd ar5 (nd arU (lf o0) .nil) (lf o0))) (nd o1 (nd asD (nd o1 (lf ax1) .nil) (lf avG)) (nd o0 (lf o1) (lf at1)))) (nd o30 (nd o0 (nd o95 (nd asU (lf (axA P)) .nil) (lf abC)) (nd arB (lf aqJ) (lf auR))) (nd (o71 P) (nd o0 (nd o0 (lf o11) .nil) (lf avO)) (nd arO (lf o0) (lf (avW P)))))) (nd o0 (nd o26 (nd o47 (nd o11 (nd o1 (lf at9) .nil) (lf aqO)) (nd asJ (nd asP (lf av6) .nil) (lf o1))) (nd o20 (nd ao3 (nd as2 (lf atU) .nil) (lf o0)) (nd aqC (lf asA) (lf o0)))) (nd (o35 P) (nd (o57 P) (nd arS (nd o0 (lf o0) .nil) (lf o1)) (nd o0 (lf o0) (lf auX))) (nd o76 (nd o1 (nd o1 (lf axK) .nil) (lf auO)) (nd ap3 (lf apU) (lf av0)))))))) (nd (boot_o_2 P) (nd (boot_o_4 P) (nd (boot_o_8 P) (nd o1 (nd o17 (nd o37 (nd o0 (nd as6 (lf o0) .nil) (lf o0)) (nd aq1 (nd aqA (lf aw3) .nil) (lf auL))) (nd o60 (nd o0 (nd o0 (lf aw4) .nil) (lf auE)) (nd aoG (lf o0) (lf o1)))) (nd o11 (nd (o48 P) (nd o1 (nd asH (lf at0) .nil) (lf o248)) (nd o1 (nd o1 (lf ayC) .nil) (lf avV))) (nd o0 (nd aqS (nd o0 (lf (ayI P)) .nil) (lf axG)) (nd o0 (lf arA) (lf o0))))) (nd (o12 P) (nd o22 (nd o42 (nd (o84 P) (nd o0 (lf o1) .nil) (lf o1)) (nd o0 (nd o0 (lf awN) .nil) (lf o0))) (nd o0 (nd o1 (nd aoR (lf o0) .nil) (lf atN)) (nd aqU (lf aq0) (lf avC)))) (nd o32 (nd o0 (nd o0 (nd o0 (lf awJ) .nil) (lf o0)) (nd apF (lf aq4) (lf abC))) (nd o74 (nd o0 (nd o0 (lf awT) .nil) (lf (atT P))) (nd o1 (lf apK) (lf atJ)))))) (nd o247 (nd o8 (nd o11 (nd o39 (nd o80 (nd apZ (lf avF) .nil) (lf aoI)) (nd o1 (nd o1 (lf ayB) .nil) (lf aw2))) (nd o0 (nd aoW (nd o0 (lf o0) .nil) (lf o1)) (nd ar3 (lf o0) (lf aw8)))) (nd o29 (nd o51 (nd (o94 P) (nd o0 (lf o11) .nil) (lf ap1)) (nd apL (nd ao5 (lf axZ) .nil) (lf (atY P)))) (nd o0 (nd ar6 (nd arM (lf abC) .nil) (lf avQ)) (nd aq8 (lf arL) (lf ayD))))) (nd o14 (nd o25 (nd o46 (nd o20 (nd o0 (lf awC) .nil) (lf apB)) (nd ar8 (nd apM (lf o0) .nil) (lf o0))) (nd o67 (nd atD (nd o0 (lf auJ) .nil) (lf auD)) (nd o0 (lf o1) (lf ayP)))) (nd o11 (nd o56 (nd o99 (nd apI (lf axN) .nil) (lf o0)) (nd aoO (lf ao1) (lf auZ))) (nd o0 (nd o0 (nd o0 (lf o1) .nil) (lf atM)) (nd arP (lf o0) (lf o0))))))) (nd (boot_o_6 P) (nd (boot_o_10 P) (nd o0 (nd o19 (nd o0 (nd o79 (nd asK (lf axW) .nil) (lf aq6)) (nd asY (nd ar2 (lf o0) .nil) (lf aw7))) (nd o11 (nd asX (nd asQ (lf o1) .nil) (lf auS)) (nd o0 (lf aq5) (lf o0)))) (nd o0 (nd o49 (nd o93 (nd o1 (lf atF) .nil) (lf aoJ)) (nd o0 (nd o0 (lf awZ) .nil) (lf avX))) (nd o69 (nd aqL (nd aoX (lf auF) .nil) (lf (avD P))) (nd asS (lf o0) (lf avU))))) (nd o1 (nd o0 (nd (o44 P) (nd o86 (nd arI (lf o0) .nil) (lf o0)) (nd arK (nd apX (lf o1) .nil) (lf ax8))) (nd o65 (nd o0 (nd o1 (lf ax2) .nil) (lf o0)) (nd o1 (lf apY) (lf av3)))) (nd o34 (nd o54 (nd o98 (nd arE (lf o0) .nil) (lf awE)) (nd aqB (lf apE) (lf (axI P)))) (nd o11 (nd asF (nd apC (lf aw0) .nil) (lf auH)) (nd o0 (lf o11) (lf o11)))))) (nd o3 (nd o10 (nd o0 (nd o40 (nd o82 (nd o1 (lf axH) .nil) (lf ar4)) (nd aqN (nd arQ (lf avR) .nil) (lf o1))) (nd o62 (nd arR (nd atA (lf av4) .nil) (lf o0)) (nd aoM (lf ap7) (lf o0)))) (nd o0 (nd o1 (nd o96 (nd aqQ (lf o0) .nil) (lf o11)) (nd o0 (lf o0) (lf awD))) (nd o72 (nd o1 (nd o1 (lf (au0 P)) .nil) (lf abC)) (nd aq9 (lf asR) (lf awA))))) (nd (o15 P) (nd o27 (nd o20 (nd (o91 P) (nd apS (lf o0) .nil) (lf o0)) (nd ao0 (nd apG (lf au4) .nil) (lf av7))) (nd o11 (nd o0 (nd ao4 (lf axC) .nil) (lf ayH)) (nd atE (lf o0) (lf o1)))) (nd o0 (nd o58 (nd ar0 (nd o1 (lf awL) .nil) (lf awB)) (nd o1 (lf o1) (lf auQ))) (nd o77 (nd apN (nd aqM (lf o0) .nil) (lf o0)) (nd o0 (lf as4) (lf auW)))))))))
def s3(w:World)(os:OsState):SharedT:=⟨t3 w.params,597,⟨[],[],[],0,[],[],false,#[],[],0,false,false,false,0,[2000,10,10],false,0,true,[],[],0,false⟩,#[],⟨0,0,0,0⟩,995,os⟩
def l2:List Stmt:=(bi.drop 74).take 6
theorem r2(w:World)(os:OsState):
  segRunT treeTable pw w 11 an 1 1829 (s2 w os) (piecesOf l2 ev cd ⟨194,0,200,17⟩ bk) =
  some (.next,s3 w os,cd,⟨257,0,270,55⟩):=by kernel_rfl
def o372(P:Params):Obj:=di [(de P "__name__" 165 (.str "fivefields.books" 1286)),(de P "__doc__" 166 .none),(de P "__package__" 167 .none),(de P "__loader__" 168 (.builtin "__main__.__loader__#opaque")),(de P "__spec__" 169 .none),(de P "__annotations__" 170 (r 6)),(de P "__builtins__" 171 (r 4)),(de P "__file__" 173 (sf 172)),(de P "__cached__" 174 .none),(de P "_wall" 193 (r 21)),(de P "FieldError" 213 (r 31)),(de P "NoDay" 229 (r 44)),(de P "NoMoment" 245 (r 56)),(de P "NoField" 270 (r 75)),(de P "NoRow" 295 (r 94)),(de P "NoBook" 311 (r 106)),(de P "NoClock" 327 (r 118)),(de P "NoName" 352 (r 137)),(de P "NoWord" 368 (r 149)),(de P "is_whole" 377 (r 158)),(de P "MONTH_LASTS" 392 (r 159)),(de P "ROUND_YEARS" 394 (.int 400 393)),(de P "ROUND_DAYS" 396 (.int 146097 395)),(de P "is_long" 403 (r 166)),(de P "multiples_before" 411 (r 173)),(de P "days_before" 419 (r 180)),(de P "last_of" 427 (r 187)),(de P "is_date" 436 (r 194)),(de P "day_of" 442 (r 199)),(de P "year_of" 450 (r 206)),(de P "date_of" 460 (r 213)),(de P "weekday" 467 (r 220)),(de P "FIGURES" 471 (.str "0123456789" 470)),(de P "all_figures" 477 (r 225)),(de P "is_written" 484 (r 232)),(de P "DAY_MINUTES" 488 (.int 1440 487)),(de P "HOUR_MINUTES" 490 (.int 60 489)),(de P "parted" 498 (r 239)),(de P "LONG_PLACE" 502 (.int 12 501)),(de P "LONG_LAST" 504 (.int 29 503)),(de P "SHORT_YEAR" 506 (.int 1 505)),(de P "kind_from" 516 (r 246)),(de P "kind_of" 524 (r 253)),(de P "month_at" 533 (r 260)),(de P "has" 543 (r 267)),(de P "starts_of" 549 (r 272)),(de P "end_from" 558 (r 279)),(de P "ranges_of" 564 (r 284)),(de P "shown_range" 572 (r 291)),(de P "shown_ranges" 578 (r 296)),(de P "MOST_SIGNS" 582 (.int 300 581)),(de P "MOST_ITEMS" 584 (.int 40 583)),(de P "MOST_STRIDE" 586 (.int 99 585)),(de P "mask_of" 595 (r 303)),(de P "numbers_in" 601 (r 308)),(de P "run_mask" 610 (r 315)),(de P "read_number" 620 (r 322)),(de P "read_run" 626 (r 327)),(de P "read_strided" 639 (r 334)),(de P "read_item" 650 (r 341)),(de P "read_field" 664 (r 348)),(de P "MOST_MARKS" 668 (.int 20 667)),(de P "MOST_DAY" 670 (.int 31 669)),(de P "MOST_BACK" 672 (.int 30 671)),(de P "MOST_NTH" 674 (.int 5 673)),(de P "SUNDAY" 676 (.int 0 675)),(de P "SATURDAY" 678 (.int 6 677)),(de P "SUNDAY_TOO" 680 (.int 7 679)),(de P "ALL_WEEKDAYS" 682 (.int 127 681)),(de P "weekday_at" 690 (r 355)),(de P "all_days" 697 (r 362)),(de P "nearest_work" 707 (r 369)),(de P "first_one" 715 (r 376)),(de P "Mark" 751 (r 400)),(de P "Numbers" 792 (r 435)),(de P "Last" 834 (r 469)),(de P "Near" 875 (r 502)),(de P "LastWork" 907 (r 528)),(de P "Weekdays" 950 (r 561)),(de P "Nth" 994 (r 594)),(de P "LastOne" 1035 (r 627)),(de P "any_days" 1046 (r 636)),(de P "read_day_mark" 1055 (r 643)),(de P "read_weekday" 1063 (r 650)),(de P "read_weekday_mark" 1073 (r 657)),(de P "read_items" 1090 (r 664)),(de P "read_days" 1098 (r 671)),(de P "read_weekdays" 1107 (r 678)),(de P "MOST_ROW_SIGNS" 1111 (.int 1600 1110)),(de P "MINUTE" 1113 (.int 0 1112)),(de P "HOUR" 1115 (.int 1 1114)),(de P "DAY" 1117 (.int 2 1116)),(de P "MONTH" 1119 (.int 3 1118)),(de P "WEEKDAY" 1121 (.int 4 1120)),(de P "NO_PLACE" 1123 (.int 5 1122)),(de P "BOUNDS" 1136 (r 679)),(de P "times_of" 1146 (r 689)),(de P "days_by" 1158 (r 696)),(de P "Row" 1262 (r 776)),(de P "read_word" 1271 (r 787)),(de P "read_at" 1279 (r 794)),(de P "read_row" 1285 (r 799)),(de P "MOST_BOOKS" 1289 (.int 8 1288)),(de P "MOST_TALLY" 1291 (.int 24 1290)),(de P "MOST_DEPTH" 1293 (.int 5 1292)),(de P "tally_of" 1299 (r 804)),(de P "depth_of" 1305 (r 809)),(de P "Book" 1355 (r 847)),(de P "checked" 1361 (r 856)),(de P "checked_list" 1368 (r 863))] 110
def o373:Obj:=fd [(i 1),(i 0),(r 20),(i 5),(i 0),(r 27),(i 7),(i 0),(r 40),(i 9),(i 0),(r 52),(i 11),(i 0),(r 64),(i 15),(i 0),(r 83),(i 19),(i 0),(r 102),(i 21),(i 0),(r 114),(i 23),(i 0),(r 126),(i 27),(i 0),(r 145),(i 30),(i 0),(r 157),(i 36),(i 0),(r 165),(i 38),(i 0),(r 172),(i 40),(i 0),(r 179),(i 43),(i 0),(r 186),(i 47),(i 0),(r 193),(i 51),(i 0),(r 198),(i 56),(i 0),(r 205),(i 61),(i 0),(r 212),(i 69),(i 0),(r 219),(i 73),(i 0),(r 224),(i 75),(i 0),(r 231),(i 80),(i 0),(r 238),(i 87),(i 0),(r 245),(i 90),(i 0),(r 252),(i 92),(i 0),(r 259),(i 99),(i 0),(r 266),(i 101),(i 0),(r 271),(i 104),(i 0),(r 278),(i 109),(i 0),(r 283),(i 111),(i 0),(r 290),(i 115),(i 0),(r 295),(i 121),(i 0),(r 302),(i 126),(i 0),(r 307),(i 128),(i 0),(r 314),(i 130),(i 0),(r 321),(i 137),(i 0),(r 326),(i 144),(i 0),(r 333),(i 151),(i 0),(r 340),(i 159),(i 0),(r 347),(i 181),(i 0),(r 354),(i 183),(i 0),(r 361),(i 185),(i 0),(r 368),(i 192),(i 0),(r 375),(i 194),(i 0),(r 382),(i 201),(i 0),(r 410),(i 211),(i 0),(r 443),(i 225),(i 0),(r 477),(i 237),(i 0),(r 510),(i 244),(i 0),(r 536),(i 257),(i 0),(r 569),(i 271),(i 0),(r 602),(i 281),(i 0),(r 635),(i 286),(i 0),(r 642),(i 298),(i 0),(r 649),(i 301),(i 0),(r 656),(i 313),(i 0),(r 663),(i 331),(i 0),(r 670),(i 338),(i 0),(r 677),(i 355),(i 0),(r 688),(i 360),(i 0),(r 695),(i 368),(i 0),(r 702),(i 417),(i 0),(r 786),(i 424),(i 0),(r 793),(i 429),(i 0),(r 798),(i 440),(i 0),(r 803),(i 442),(i 0),(r 808),(i 444),(i 0),(r 815),(i 457),(i 0),(r 855),(i 465),(i 0),(r 862)]
def az3:Obj:=⟨(.type "type"),none,(.cls ⟨"Mark",[(.type "object")],[(r 400),(.type "object")],399,"Mark",true,[],[(r 435),(r 469),(r 502),(r 528),(r 561),(r 594),(r 627)],false,none,false⟩),#[none,none,(some (.str "Mark" 716)),(some (.str "Mark" 724)),(some (.builtin "object.__new__")),(some (.bool true))]⟩
def aEC(P:Params):Obj:=di [(de P "__module__" 1002 (.str "fivefields.marks" 665)),(de P "__qualname__" 1004 (.str "LastOne" 1003)),(de P "__firstlineno__" 1006 (.int 271 1005)),(de P "__init__" 1014 (r 610)),(de P "days" 1023 (r 617)),(de P "told" 1030 (r 624)),(de P "__static_attributes__" 1032 (r 625))] 7
def aEO:Obj:=fd [(i 273),(i 4),(r 609),(i 276),(i 4),(r 616),(i 279),(i 4),(r 623)]
def azE:Obj:=co [(.str "LastOne" 997),(.str "LastOne" 998),(sf 999),(i 271),(i 0),(i 0),(i 0),(i 0),(r 600),(.bool false),(i 181),(r 601),.none,.none,.none,.none,(i 1000),(i 271),(sf 1001)]
def azK:Obj:=⟨(.type "frame"),none,.plain,#[(some (r 602)),(some (r 3)),(some (r 599)),none,(some (.str "fivefields.marks" 665)),none,(some (r 0))]⟩
def aCI:Obj:=tu [(.str "self" 1010),(.str "weekday" 1011)]
def aCJ:Obj:=fz "__init__" "LastOne.__init__" (ib (tp 80) 0)
def ayS:Obj:=co [(.str "__init__" 1007),(.str "LastOne.__init__" 1008),(sf 1009),(i 273),(i 2),(i 0),(i 0),(i 3),(r 604),(.bool true),(i 181),(r 605),.none,(r 606),(r 607),(r 608),(i 1012),(i 273),(sf 1013)]
def aBQ:Obj:=fn "__init__" "LastOne.__init__" (ib (tp 80) 0) 3 [] .none .none .none (.str "fivefields.marks" 665) none (r 609) .none 0
def aEE:Obj:=tu [(.str "self" 1018),(.str "last" 1019),(.str "first" 1020)]
def aEA:Obj:=fz "days" "LastOne.days" (ib (tp 80) 1)
def aCB:Obj:=co [(.str "days" 1015),(.str "LastOne.days" 1016),(sf 1017),(i 276),(i 3),(i 0),(i 0),(i 3),(r 611),(.bool true),(i 181),(r 612),.none,(r 613),(r 614),(r 615),(i 1021),(i 276),(sf 1022)]
def aCC:Obj:=fn "days" "LastOne.days" (ib (tp 80) 1) 3 [] .none .none .none (.str "fivefields.marks" 665) none (r 616) .none 0
def aDQ:Obj:=tu [(.str "self" 1027)]
def aDG:Obj:=⟨.none,none,(.func ⟨"told","LastOne.told",(ag (ib (tp 80) 2)),(.stmts (bd (ib (tp 80) 2))),(sc (ib (tp 75) 2)),0,[],.none,.none,.none,.none,none,.none,.none,0⟩),#[]⟩
def aB7:Obj:=co [(.str "told" 1024),(.str "LastOne.told" 1025),(sf 1026),(i 279),(i 1),(i 0),(i 0),(i 3),(r 618),(.bool true),(i 181),(r 619),.none,(r 620),(r 621),(r 622),(i 1028),(i 279),(sf 1029)]
def aBK:Obj:=⟨(.type "function"),none,(.func ⟨"told","LastOne.told",(ag (ib (tp 80) 2)),(.stmts (bd (ib (tp 80) 2))),(sc (ib (tp 75) 2)),3,[],.none,.none,.none,(.str "fivefields.marks" 665),none,(r 623),.none,0⟩),#[]⟩
def azF:Obj:=tu [(.str "weekday" 1031)]
def aAL(P:Params):Obj:=di [(de P "__module__" 1002 (.str "fivefields.marks" 665)),(de P "__firstlineno__" 1006 (.int 271 1005)),(de P "__init__" 1014 (r 610)),(de P "days" 1023 (r 617)),(de P "told" 1030 (r 624)),(de P "__static_attributes__" 1032 (r 625)),(de P "__doc__" 1033 .none)] 2
def ay2:Obj:=⟨(.type "type"),none,(.cls ⟨"LastOne",[(r 400)],[(r 627),(r 400),(.type "object")],626,"LastOne",true,[],[],false,none,false⟩),#[(some (r 597)),none,(some (.str "LastOne" 995)),(some (.str "LastOne" 1003)),(some (.builtin "object.__new__")),(some (.bool true))]⟩
def aBT:Obj:=⟨(.type "super"),none,(.fields #[(r 627),(r 627),(r 627)]),#[]⟩
def azT:Obj:=⟨(.type "builtin_function_or_method"),none,(.fields #[(.builtin "object.__init_subclass__"),(r 627)]),#[]⟩
def aA4:Obj:=tu [(.str "marks" 1039),(.str "last" 1040),(.str "first" 1041),(.str "mask" 1042),(.str "mark" 1043)]
def aBO:Obj:=fz "any_days" "any_days" (tp 81)
def aDF:Obj:=co [(.str "any_days" 1036),(.str "any_days" 1037),(sf 1038),(i 281),(i 3),(i 0),(i 0),(i 3),(r 630),(.bool true),(i 181),(r 631),.none,(r 632),(r 633),(r 634),(i 1044),(i 281),(sf 1045)]
def azC:Obj:=fn "any_days" "any_days" (tp 81) 3 [] .none .none .none (.str "fivefields.marks" 665) none (r 635) .none 0
def ayZ:Obj:=tu [(.str "item" 1050),(.str "back" 1051),(.str "day" 1052)]
def aCR:Obj:=fz "read_day_mark" "read_day_mark" (tp 82)
def aCG:Obj:=co [(.str "read_day_mark" 1047),(.str "read_day_mark" 1048),(sf 1049),(i 286),(i 1),(i 0),(i 0),(i 3),(r 637),(.bool true),(i 181),(r 638),.none,(r 639),(r 640),(r 641),(i 1053),(i 286),(sf 1054)]
def ayT:Obj:=fn "read_day_mark" "read_day_mark" (tp 82) 3 [] .none .none .none (.str "fivefields.marks" 665) none (r 642) .none 0
def ay8:Obj:=tu [(.str "text" 1059),(.str "number" 1060)]
def aBD:Obj:=fz "read_weekday" "read_weekday" (tp 83)
def azJ:Obj:=co [(.str "read_weekday" 1056),(.str "read_weekday" 1057),(sf 1058),(i 298),(i 1),(i 0),(i 0),(i 3),(r 644),(.bool true),(i 181),(r 645),.none,(r 646),(r 647),(r 648),(i 1061),(i 298),(sf 1062)]
def azD:Obj:=fn "read_weekday" "read_weekday" (tp 83) 3 [] .none .none .none (.str "fivefields.marks" 665) none (r 649) .none 0
def aBF:Obj:=tu [(.str "item" 1067),(.str "weekday" 1068),(.str "parts" 1069),(.str "many" 1070)]
def aAK:Obj:=fz "read_weekday_mark" "read_weekday_mark" (tp 84)
def aDA:Obj:=co [(.str "read_weekday_mark" 1064),(.str "read_weekday_mark" 1065),(sf 1066),(i 301),(i 1),(i 0),(i 0),(i 3),(r 651),(.bool true),(i 181),(r 652),.none,(r 653),(r 654),(r 655),(i 1071),(i 301),(sf 1072)]
def aBV:Obj:=fn "read_weekday_mark" "read_weekday_mark" (tp 84) 3 [] .none .none .none (.str "fivefields.marks" 665) none (r 656) .none 0
def aEF:Obj:=tu [(.str "text" 1077),(.str "low" 1078),(.str "high" 1079),(.str "read_mark" 1080),(.str "items" 1081),(.str "mask" 1082),(.str "marks" 1083),(.str "place" 1084),(.str "item" 1085),(.str "plain" 1086),(.str "mark" 1087)]
def aEB:Obj:=fz "read_items" "read_items" (tp 85)
def az4:Obj:=co [(.str "read_items" 1074),(.str "read_items" 1075),(sf 1076),(i 313),(i 4),(i 0),(i 0),(i 3),(r 658),(.bool true),(i 181),(r 659),.none,(r 660),(r 661),(r 662),(i 1088),(i 313),(sf 1089)]
def aEN:Obj:=fn "read_items" "read_items" (tp 85) 3 [] .none .none .none (.str "fivefields.marks" 665) none (r 663) .none 0
def aDD:Obj:=tu [(.str "text" 1094),(.str "read" 1095)]
def aAD:Obj:=fz "read_days" "read_days" (tp 86)
def aB8:Obj:=co [(.str "read_days" 1091),(.str "read_days" 1092),(sf 1093),(i 331),(i 1),(i 0),(i 0),(i 3),(r 665),(.bool true),(i 181),(r 666),.none,(r 667),(r 668),(r 669),(i 1096),(i 331),(sf 1097)]
def aDE:Obj:=fn "read_days" "read_days" (tp 86) 3 [] .none .none .none (.str "fivefields.marks" 665) none (r 670) .none 0
def aCE:Obj:=tu [(.str "text" 1102),(.str "read" 1103),(.str "mask" 1104)]
def aD8:Obj:=fz "read_weekdays" "read_weekdays" (tp 87)
def aBN:Obj:=co [(.str "read_weekdays" 1099),(.str "read_weekdays" 1100),(sf 1101),(i 338),(i 1),(i 0),(i 0),(i 3),(r 672),(.bool true),(i 181),(r 673),.none,(r 674),(r 675),(r 676),(i 1105),(i 338),(sf 1106)]
def aCU:Obj:=fn "read_weekdays" "read_weekdays" (tp 87) 3 [] .none .none .none (.str "fivefields.marks" 665) none (r 677) .none 0
def aCN:Obj:=di [⟨0,(.int 0 1124),(r 680)⟩,⟨1,(.int 1 1127),(r 681)⟩,⟨3,(.int 3 1130),(r 682)⟩] 3
def aDJ:Obj:=tu [(.int 0 1125),(.int 59 1126)]
def aC9:Obj:=tu [(.int 0 1128),(.int 23 1129)]
def aBZ:Obj:=tu [(.int 1 1131),(.int 12 1132)]
def aDI:Obj:=tu [(.str "hours" 1140),(.str "minutes" 1141),(.str "times" 1142),(.str "hour" 1143)]
def ay9:Obj:=fz "times_of" "times_of" (tp 97)
def aDR:Obj:=co [(.str "times_of" 1137),(.str "times_of" 1138),(sf 1139),(i 355),(i 2),(i 0),(i 0),(i 3),(r 683),(.bool true),(i 181),(r 684),.none,(r 685),(r 686),(r 687),(i 1144),(i 355),(sf 1145)]
def aDK:Obj:=fn "times_of" "times_of" (tp 97) 3 [] .none .none .none (.str "fivefields.rows" 1108) none (r 688) .none 0
def aBE:Obj:=tu [(.str "days" 1150),(.str "weekdays" 1151),(.str "last" 1152),(.str "first" 1153),(.str "mask" 1154),(.str "marks" 1155)]
def aB0:Obj:=fz "days_by" "days_by" (tp 98)
def aDH:Obj:=co [(.str "days_by" 1147),(.str "days_by" 1148),(sf 1149),(i 360),(i 4),(i 0),(i 0),(i 3),(r 690),(.bool true),(i 181),(r 691),.none,(r 692),(r 693),(r 694),(i 1156),(i 360),(sf 1157)]
def aAZ:Obj:=fn "days_by" "days_by" (tp 98) 3 [] .none .none .none (.str "fivefields.rows" 1108) none (r 695) .none 0
def azH(P:Params):Obj:=di [(de P "__module__" 1166 (.str "fivefields.rows" 1108)),(de P "__qualname__" 1168 (.str "Row" 1167)),(de P "__firstlineno__" 1170 (.int 368 1169)),(de P "__init__" 1178 (r 710)),(de P "minutes" 1185 (r 717)),(de P "hours" 1192 (r 724)),(de P "months" 1199 (r 731)),(de P "times" 1206 (r 738)),(de P "days_in" 1215 (r 745)),(de P "on_days" 1223 (r 752)),(de P "holds" 1231 (r 759)),(de P "shut_by" 1241 (r 766)),(de P "shown" 1248 (r 773)),(de P "__static_attributes__" 1255 (r 774))] 14
def aCK:Obj:=fd [(i 370),(i 4),(r 709),(i 378),(i 4),(r 716),(i 381),(i 4),(r 723),(i 384),(i 4),(r 730),(i 387),(i 4),(r 737),(i 390),(i 4),(r 744),(i 396),(i 4),(r 751),(i 399),(i 4),(r 758),(i 402),(i 4),(r 765),(i 415),(i 4),(r 772)]
def aC5:Obj:=co [(.str "Row" 1161),(.str "Row" 1162),(sf 1163),(i 368),(i 0),(i 0),(i 0),(i 0),(r 700),(.bool false),(i 181),(r 701),.none,.none,.none,.none,(i 1164),(i 368),(sf 1165)]
def aDC:Obj:=⟨(.type "frame"),none,.plain,#[(some (r 702)),(some (r 3)),(some (r 699)),none,(some (.str "fivefields.rows" 1108)),none,(some (r 0))]⟩
def aES:Obj:=tu [(.str "self" 1174),(.str "fields" 1175)]
def aC2:Obj:=fz "__init__" "Row.__init__" (ib (tp 99) 0)
def ay5:Obj:=co [(.str "__init__" 1171),(.str "Row.__init__" 1172),(sf 1173),(i 370),(i 2),(i 0),(i 0),(i 3),(r 704),(.bool true),(i 181),(r 705),.none,(r 706),(r 707),(r 708),(i 1176),(i 370),(sf 1177)]
def aAM:Obj:=fn "__init__" "Row.__init__" (ib (tp 99) 0) 3 [] .none .none .none (.str "fivefields.rows" 1108) none (r 709) .none 0
def aAA:Obj:=tu [(.str "self" 1182)]
def azB:Obj:=⟨.none,none,(.func ⟨"minutes","Row.minutes",(ag (ib (tp 99) 1)),(.stmts (bd (ib (tp 99) 1))),(sc (ib (tp 73) 1)),0,[],.none,.none,.none,.none,none,.none,.none,0⟩),#[]⟩
def az9:Obj:=co [(.str "minutes" 1179),(.str "Row.minutes" 1180),(sf 1181),(i 378),(i 1),(i 0),(i 0),(i 3),(r 711),(.bool true),(i 181),(r 712),.none,(r 713),(r 714),(r 715),(i 1183),(i 378),(sf 1184)]
def azO:Obj:=⟨(.type "function"),none,(.func ⟨"minutes","Row.minutes",(ag (ib (tp 99) 1)),(.stmts (bd (ib (tp 99) 1))),(sc (ib (tp 73) 1)),3,[],.none,.none,.none,(.str "fivefields.rows" 1108),none,(r 716),.none,0⟩),#[]⟩
def aDY:Obj:=tu [(.str "self" 1189)]
def aAX:Obj:=⟨.none,none,(.func ⟨"hours","Row.hours",(ag (ib (tp 99) 2)),(.stmts (bd (ib (tp 99) 2))),(sc (ib (tp 73) 1)),0,[],.none,.none,.none,.none,none,.none,.none,0⟩),#[]⟩
def aDS:Obj:=co [(.str "hours" 1186),(.str "Row.hours" 1187),(sf 1188),(i 381),(i 1),(i 0),(i 0),(i 3),(r 718),(.bool true),(i 181),(r 719),.none,(r 720),(r 721),(r 722),(i 1190),(i 381),(sf 1191)]
def aAV:Obj:=⟨(.type "function"),none,(.func ⟨"hours","Row.hours",(ag (ib (tp 99) 2)),(.stmts (bd (ib (tp 99) 2))),(sc (ib (tp 73) 1)),3,[],.none,.none,.none,(.str "fivefields.rows" 1108),none,(r 723),.none,0⟩),#[]⟩
def aBY:Obj:=tu [(.str "self" 1196)]
def ay6:Obj:=fz "months" "Row.months" (ib (tp 99) 3)
def aCZ:Obj:=co [(.str "months" 1193),(.str "Row.months" 1194),(sf 1195),(i 384),(i 1),(i 0),(i 0),(i 3),(r 725),(.bool true),(i 181),(r 726),.none,(r 727),(r 728),(r 729),(i 1197),(i 384),(sf 1198)]
def aB2:Obj:=fn "months" "Row.months" (ib (tp 99) 3) 3 [] .none .none .none (.str "fivefields.rows" 1108) none (r 730) .none 0
def aD1:Obj:=tu [(.str "self" 1203)]
def ay0:Obj:=⟨.none,none,(.func ⟨"times","Row.times",(ag (ib (tp 99) 4)),(.stmts (bd (ib (tp 99) 4))),(sc (ib (tp 73) 1)),0,[],.none,.none,.none,.none,none,.none,.none,0⟩),#[]⟩
def ayV:Obj:=co [(.str "times" 1200),(.str "Row.times" 1201),(sf 1202),(i 387),(i 1),(i 0),(i 0),(i 3),(r 732),(.bool true),(i 181),(r 733),.none,(r 734),(r 735),(r 736),(i 1204),(i 387),(sf 1205)]
def aDT:Obj:=⟨(.type "function"),none,(.func ⟨"times","Row.times",(ag (ib (tp 99) 4)),(.stmts (bd (ib (tp 99) 4))),(sc (ib (tp 73) 1)),3,[],.none,.none,.none,(.str "fivefields.rows" 1108),none,(r 737),.none,0⟩),#[]⟩
def azQ:Obj:=tu [(.str "self" 1210),(.str "kind" 1211),(.str "month" 1212)]
def aAJ:Obj:=fz "days_in" "Row.days_in" (ib (tp 99) 5)
def ayW:Obj:=co [(.str "days_in" 1207),(.str "Row.days_in" 1208),(sf 1209),(i 390),(i 2),(i 0),(i 0),(i 3),(r 739),(.bool true),(i 181),(r 740),.none,(r 741),(r 742),(r 743),(i 1213),(i 390),(sf 1214)]
def azI:Obj:=fn "days_in" "Row.days_in" (ib (tp 99) 5) 3 [] .none .none .none (.str "fivefields.rows" 1108) none (r 744) .none 0
def azA:Obj:=tu [(.str "self" 1219),(.str "kind" 1220)]
def aCL:Obj:=fz "on_days" "Row.on_days" (ib (tp 99) 6)
def aC1:Obj:=co [(.str "on_days" 1216),(.str "Row.on_days" 1217),(sf 1218),(i 396),(i 2),(i 0),(i 0),(i 3),(r 746),(.bool true),(i 181),(r 747),.none,(r 748),(r 749),(r 750),(i 1221),(i 396),(sf 1222)]
def azX:Obj:=fn "on_days" "Row.on_days" (ib (tp 99) 6) 3 [] .none .none .none (.str "fivefields.rows" 1108) none (r 751) .none 0
def aBX:Obj:=tu [(.str "self" 1227),(.str "moment" 1228)]
def azY:Obj:=fz "holds" "Row.holds" (ib (tp 99) 7)
def aA5:Obj:=co [(.str "holds" 1224),(.str "Row.holds" 1225),(sf 1226),(i 399),(i 2),(i 0),(i 0),(i 3),(r 753),(.bool true),(i 181),(r 754),.none,(r 755),(r 756),(r 757),(i 1229),(i 399),(sf 1230)]
def aAN:Obj:=fn "holds" "Row.holds" (ib (tp 99) 7) 3 [] .none .none .none (.str "fivefields.rows" 1108) none (r 758) .none 0
def aB4:Obj:=tu [(.str "self" 1235),(.str "moment" 1236),(.str "parts" 1237),(.str "date" 1238)]
def aA0:Obj:=fz "shut_by" "Row.shut_by" (ib (tp 99) 8)
def aCY:Obj:=co [(.str "shut_by" 1232),(.str "Row.shut_by" 1233),(sf 1234),(i 402),(i 2),(i 0),(i 0),(i 3),(r 760),(.bool true),(i 181),(r 761),.none,(r 762),(r 763),(r 764),(i 1239),(i 402),(sf 1240)]
def aCD:Obj:=fn "shut_by" "Row.shut_by" (ib (tp 99) 8) 3 [] .none .none .none (.str "fivefields.rows" 1108) none (r 765) .none 0
def ayY:Obj:=tu [(.str "self" 1245)]
def aAR:Obj:=⟨.none,none,(.func ⟨"shown","Row.shown",(ag (ib (tp 99) 9)),(.stmts (bd (ib (tp 99) 9))),(sc (ib (tp 99) 3)),0,[],.none,.none,.none,.none,none,.none,.none,0⟩),#[]⟩
def aB1:Obj:=co [(.str "shown" 1242),(.str "Row.shown" 1243),(sf 1244),(i 415),(i 1),(i 0),(i 0),(i 3),(r 767),(.bool true),(i 181),(r 768),.none,(r 769),(r 770),(r 771),(i 1246),(i 415),(sf 1247)]
def azV:Obj:=⟨(.type "function"),none,(.func ⟨"shown","Row.shown",(ag (ib (tp 99) 9)),(.stmts (bd (ib (tp 99) 9))),(sc (ib (tp 99) 3)),3,[],.none,.none,.none,(.str "fivefields.rows" 1108),none,(r 772),.none,0⟩),#[]⟩
def azU:Obj:=tu [(.str "day_marks" 1249),(.str "hour_mask" 1250),(.str "minute_mask" 1251),(.str "month_mask" 1252),(.str "time_mask" 1253),(.str "weekday_marks" 1254)]
def aBA(P:Params):Obj:=di [(de P "__module__" 1166 (.str "fivefields.rows" 1108)),(de P "__firstlineno__" 1170 (.int 368 1169)),(de P "__init__" 1178 (r 710)),(de P "minutes" 1185 (r 717)),(de P "hours" 1192 (r 724)),(de P "months" 1199 (r 731)),(de P "times" 1206 (r 738)),(de P "days_in" 1215 (r 745)),(de P "on_days" 1223 (r 752)),(de P "holds" 1231 (r 759)),(de P "shut_by" 1241 (r 766)),(de P "shown" 1248 (r 773)),(de P "__static_attributes__" 1255 (r 774)),(de P "__dict__" 1257 (r 777)),(de P "__weakref__" 1259 (r 778)),(de P "__doc__" 1260 .none)] 4
def azG:Obj:=⟨(.type "type"),none,(.cls ⟨"Row",[(.type "object")],[(r 776),(.type "object")],775,"Row",true,[],[],false,none,false⟩),#[none,none,(some (.str "Row" 1159)),(some (.str "Row" 1167)),(some (.builtin "object.__new__")),(some (.bool true))]⟩
def aER:Obj:=⟨(.type "getset_descriptor"),none,(.fields #[(.str "__dict__" 1256),(r 776),(.builtin "function.__dict__"),(.builtin "function.__dict__#set")]),#[]⟩
def aBJ:Obj:=⟨(.type "getset_descriptor"),none,(.fields #[(.str "__weakref__" 1258),(r 776),(.builtin "ExceptionGroup.__weakref__"),.none]),#[]⟩
def aCF:Obj:=⟨(.type "super"),none,(.fields #[(r 776),(r 776),(r 776)]),#[]⟩
def aAT:Obj:=⟨(.type "builtin_function_or_method"),none,(.fields #[(.builtin "object.__init_subclass__"),(r 776)]),#[]⟩
def aBI:Obj:=tu [(.str "word" 1266),(.str "place" 1267),(.str "bounds" 1268)]
def aC7:Obj:=fz "read_word" "read_word" (tp 100)
def aEH:Obj:=co [(.str "read_word" 1263),(.str "read_word" 1264),(sf 1265),(i 417),(i 2),(i 0),(i 0),(i 3),(r 781),(.bool true),(i 181),(r 782),.none,(r 783),(r 784),(r 785),(i 1269),(i 417),(sf 1270)]
def aEI:Obj:=fn "read_word" "read_word" (tp 100) 3 [] .none .none .none (.str "fivefields.rows" 1108) none (r 786) .none 0
def aC8:Obj:=tu [(.str "word" 1275),(.str "place" 1276)]
def aAI:Obj:=fz "read_at" "read_at" (tp 101)
def aAE:Obj:=co [(.str "read_at" 1272),(.str "read_at" 1273),(sf 1274),(i 424),(i 2),(i 0),(i 0),(i 3),(r 788),(.bool true),(i 181),(r 789),.none,(r 790),(r 791),(r 792),(i 1277),(i 424),(sf 1278)]
def ay4:Obj:=fn "read_at" "read_at" (tp 101) 3 [] .none .none .none (.str "fivefields.rows" 1108) none (r 793) .none 0
def azZ:Obj:=fz "read_row" "read_row" (tp 102)
def aAF:Obj:=co [(.str "read_row" 1280),(.str "read_row" 1281),(sf 1282),(i 429),(i 1),(i 0),(i 0),(i 3),(r 795),(.bool true),(i 181),(r 796),.none,.none,.none,(r 797),(i 1283),(i 429),(sf 1284)]
def aBH:Obj:=fn "read_row" "read_row" (tp 102) 3 [] .none .none .none (.str "fivefields.rows" 1108) none (r 798) .none 0
def ayU:Obj:=fz "tally_of" "tally_of" (tp 107)
def aA3:Obj:=co [(.str "tally_of" 1294),(.str "tally_of" 1295),(sf 1296),(i 440),(i 1),(i 0),(i 0),(i 3),(r 800),(.bool true),(i 181),(r 801),.none,.none,.none,(r 802),(i 1297),(i 440),(sf 1298)]
def ay7:Obj:=fn "tally_of" "tally_of" (tp 107) 3 [] .none .none .none (.str "fivefields.books" 1286) none (r 803) .none 0
def aD6:Obj:=fz "depth_of" "depth_of" (tp 108)
def aDU:Obj:=co [(.str "depth_of" 1300),(.str "depth_of" 1301),(sf 1302),(i 442),(i 1),(i 0),(i 0),(i 3),(r 805),(.bool true),(i 181),(r 806),.none,.none,.none,(r 807),(i 1303),(i 442),(sf 1304)]
def aD9:Obj:=fn "depth_of" "depth_of" (tp 108) 3 [] .none .none .none (.str "fivefields.books" 1286) none (r 808) .none 0
def aDL(P:Params):Obj:=di [(de P "__module__" 1313 (.str "fivefields.books" 1286)),(de P "__qualname__" 1315 (.str "Book" 1314)),(de P "__firstlineno__" 1317 (.int 444 1316)),(de P "holds" 1325 (r 823)),(de P "tally" 1332 (r 830)),(de P "depth" 1339 (r 837)),(de P "on_days" 1347 (r 844)),(de P "__static_attributes__" 1348 (r 845))] 8
def aD3:Obj:=fd [(i 446),(i 4),(r 822),(i 449),(i 4),(r 829),(i 452),(i 4),(r 836),(i 455),(i 4),(r 843)]
def aEJ:Obj:=co [(.str "Book" 1308),(.str "Book" 1309),(sf 1310),(i 444),(i 0),(i 0),(i 0),(i 0),(r 813),(.bool false),(i 181),(r 814),.none,.none,.none,.none,(i 1311),(i 444),(sf 1312)]
def aEG:Obj:=⟨(.type "frame"),none,.plain,#[(some (r 815)),(some (r 3)),(some (r 812)),none,(some (.str "fivefields.books" 1286)),none,(some (r 0))]⟩
def aCA:Obj:=tu [(.str "self" 1321),(.str "moment" 1322)]
def aBM:Obj:=⟨.none,none,(.func ⟨"holds","Book.holds",(ag (ib (tp 109) 0)),(.stmts (bd (ib (tp 109) 0))),(sc (ib (tp 99) 7)),0,[],.none,.none,.none,.none,none,.none,.none,0⟩),#[]⟩
def azM:Obj:=co [(.str "holds" 1318),(.str "Book.holds" 1319),(sf 1320),(i 446),(i 2),(i 0),(i 0),(i 3),(r 817),(.bool true),(i 181),(r 818),.none,(r 819),(r 820),(r 821),(i 1323),(i 446),(sf 1324)]
def aBS:Obj:=⟨(.type "function"),none,(.func ⟨"holds","Book.holds",(ag (ib (tp 109) 0)),(.stmts (bd (ib (tp 109) 0))),(sc (ib (tp 99) 7)),3,[],.none,.none,.none,(.str "fivefields.books" 1286),none,(r 822),.none,0⟩),#[]⟩
def aBB:Obj:=tu [(.str "self" 1329)]
def az8:Obj:=⟨.none,none,(.func ⟨"tally","Book.tally",(ag (ib (tp 109) 1)),(.stmts (bd (ib (tp 109) 1))),(sc (ib (tp 73) 1)),0,[],.none,.none,.none,.none,none,.none,.none,0⟩),#[]⟩
def aAB:Obj:=co [(.str "tally" 1326),(.str "Book.tally" 1327),(sf 1328),(i 449),(i 1),(i 0),(i 0),(i 3),(r 824),(.bool true),(i 181),(r 825),.none,(r 826),(r 827),(r 828),(i 1330),(i 449),(sf 1331)]
def aDV:Obj:=⟨(.type "function"),none,(.func ⟨"tally","Book.tally",(ag (ib (tp 109) 1)),(.stmts (bd (ib (tp 109) 1))),(sc (ib (tp 73) 1)),3,[],.none,.none,.none,(.str "fivefields.books" 1286),none,(r 829),.none,0⟩),#[]⟩
def az7:Obj:=tu [(.str "self" 1336)]
def aCX:Obj:=⟨.none,none,(.func ⟨"depth","Book.depth",(ag (ib (tp 109) 2)),(.stmts (bd (ib (tp 109) 2))),(sc (ib (tp 73) 1)),0,[],.none,.none,.none,.none,none,.none,.none,0⟩),#[]⟩
def aA9:Obj:=co [(.str "depth" 1333),(.str "Book.depth" 1334),(sf 1335),(i 452),(i 1),(i 0),(i 0),(i 3),(r 831),(.bool true),(i 181),(r 832),.none,(r 833),(r 834),(r 835),(i 1337),(i 452),(sf 1338)]
def aDX:Obj:=⟨(.type "function"),none,(.func ⟨"depth","Book.depth",(ag (ib (tp 109) 2)),(.stmts (bd (ib (tp 109) 2))),(sc (ib (tp 73) 1)),3,[],.none,.none,.none,(.str "fivefields.books" 1286),none,(r 836),.none,0⟩),#[]⟩
def aA7:Obj:=tu [(.str "self" 1343),(.str "kind" 1344)]
def aCW:Obj:=⟨.none,none,(.func ⟨"on_days","Book.on_days",(ag (ib (tp 109) 3)),(.stmts (bd (ib (tp 109) 3))),(sc (ib (tp 99) 6)),0,[],.none,.none,.none,.none,none,.none,.none,0⟩),#[]⟩
def aBU:Obj:=co [(.str "on_days" 1340),(.str "Book.on_days" 1341),(sf 1342),(i 455),(i 2),(i 0),(i 0),(i 3),(r 838),(.bool true),(i 181),(r 839),.none,(r 840),(r 841),(r 842),(i 1345),(i 455),(sf 1346)]
def aAU:Obj:=⟨(.type "function"),none,(.func ⟨"on_days","Book.on_days",(ag (ib (tp 109) 3)),(.stmts (bd (ib (tp 109) 3))),(sc (ib (tp 99) 6)),3,[],.none,.none,.none,(.str "fivefields.books" 1286),none,(r 843),.none,0⟩),#[]⟩
def aA1(P:Params):Obj:=di [(de P "__module__" 1313 (.str "fivefields.books" 1286)),(de P "__firstlineno__" 1317 (.int 444 1316)),(de P "holds" 1325 (r 823)),(de P "tally" 1332 (r 830)),(de P "depth" 1339 (r 837)),(de P "on_days" 1347 (r 844)),(de P "__static_attributes__" 1348 (r 845)),(de P "__dict__" 1350 (r 848)),(de P "__weakref__" 1352 (r 849)),(de P "__doc__" 1353 .none)] 4
def o525:Obj:=⟨(.type "type"),none,(.cls ⟨"Book",[(.type "object")],[(r 847),(.type "object")],846,"Book",true,[],[],false,none,false⟩),#[none,none,(some (.str "Book" 1306)),(some (.str "Book" 1314)),(some (.builtin "object.__new__")),(some (.bool true))]⟩
def aBC:Obj:=⟨(.type "getset_descriptor"),none,(.fields #[(.str "__dict__" 1349),(r 847),(.builtin "function.__dict__"),(.builtin "function.__dict__#set")]),#[]⟩
def aCP:Obj:=⟨(.type "getset_descriptor"),none,(.fields #[(.str "__weakref__" 1351),(r 847),(.builtin "ExceptionGroup.__weakref__"),.none]),#[]⟩
def ayX:Obj:=⟨(.type "super"),none,(.fields #[(r 847),(r 847),(r 847)]),#[]⟩
def aAH:Obj:=⟨(.type "builtin_function_or_method"),none,(.fields #[(.builtin "object.__init_subclass__"),(r 847)]),#[]⟩
def aBL:Obj:=fz "checked" "checked" (tp 110)
def az0:Obj:=co [(.str "checked" 1356),(.str "checked" 1357),(sf 1358),(i 457),(i 1),(i 0),(i 0),(i 3),(r 852),(.bool true),(i 181),(r 853),.none,.none,.none,(r 854),(i 1359),(i 457),(sf 1360)]
def aCS:Obj:=fn "checked" "checked" (tp 110) 3 [] .none .none .none (.str "fivefields.books" 1286) none (r 855) .none 0
def aB9:Obj:=tu [(.str "books" 1365)]
def aBG:Obj:=fz "checked_list" "checked_list" (tp 111)
def aD0:Obj:=co [(.str "checked_list" 1362),(.str "checked_list" 1363),(sf 1364),(i 465),(i 1),(i 0),(i 0),(i 3),(r 857),(.bool true),(i 181),(r 858),.none,(r 859),(r 860),(r 861),(i 1366),(i 465),(sf 1367)]
def aCH:Obj:=fn "checked_list" "checked_list" (tp 111) 3 [] .none .none .none (.str "fivefields.books" 1286) none (r 862) .none 0
def t4(P:Params):BT:=(nd (boot_o_0 P) (nd (boot_o_1 P) (nd (o372 P) (nd (boot_o_7 P) (nd o0 (nd o90 (nd o36 (nd o78 (nd o1 (lf avT) (lf o0)) (nd asM (lf ayZ) .nil)) (nd o0 (nd o0 (lf auV) (lf o0)) (nd o1 (lf aDC) .nil))) (nd o59 (nd apH (nd ap8 (lf auY) (lf aBH)) (nd o0 (lf aDE) .nil)) (nd arG (nd aoZ (lf o0) (lf aCH)) (nd o0 (lf o0) .nil)))) (nd o20 (nd o11 (nd o0 (nd aoP (lf (ayG P)) (lf aBI)) (nd (aoN P) (lf aAK) .nil)) (nd o0 (nd o0 (lf auB) (lf o525)) (nd o0 (lf o1) .nil))) (nd (o68 P) (nd o1 (nd aqI (lf at4) (lf aEJ)) (nd au6 (lf ay9) .nil)) (nd aqD (nd asV (lf aB7) .nil) (nd axD (lf aC1) .nil))))) (nd o11 (nd o1 (nd o41 (nd o83 (nd arX (lf o0) (lf (aBA P))) (nd o0 (lf o0) .nil)) (nd apP (nd apA (lf avS) (lf o1)) (nd at7 (lf o0) .nil))) (nd o63 (nd o0 (nd asW (lf au8) (lf aD6)) (nd atP (lf aCN) .nil)) (nd asE (nd o0 (lf aEA) .nil) (nd o1 (lf aAJ) .nil)))) (nd (o31 P) (nd o52 (nd o97 (nd ap2 (lf au9) (lf o0)) (nd (avM P) (lf az4) .nil)) (nd o1 (nd o1 (lf (aEC P)) (lf az0)) (nd awP (lf aBY) .nil))) (nd o73 (nd atB (nd aoL (lf o0) (lf aBS)) (nd o11 (lf aDH) .nil)) (nd o0 (nd ar1 (lf o1) .nil) (nd auI (lf aAN) .nil)))))) (nd o0 (nd o7 (nd o20 (nd o1 (nd o0 (nd as9 (lf o0) (lf aAR)) (nd o0 (lf ayT) .nil)) (nd o0 (nd o0 (lf o1) (lf aCX)) (nd auC (lf o0) .nil))) (nd (o61 P) (nd o0 (nd aoS (lf awV) (lf aA3)) (nd o0 (lf o0) .nil)) (nd o1 (nd asN (lf o0) .nil) (nd au7 (lf o0) .nil)))) (nd o1 (nd o50 (nd o0 (nd aoT (lf abC) (lf aEI)) (nd as3 (lf o1) .nil)) (nd asC (nd asT (lf atG) (lf aAH)) (nd axY (lf aDS) .nil))) (nd o70 (nd aqP (nd ap5 (lf awQ) (lf aCA)) (nd atL (lf o1) .nil)) (nd o0 (nd o1 (lf ay2) .nil) (nd avA (lf aBX) .nil))))) (nd o13 (nd (o24 P) (nd o45 (nd o87 (nd aoY (lf avH) (lf aCF)) (nd ar7 (lf o0) .nil)) (nd o0 (nd o0 (lf ax6) (lf aBU)) (nd auN (lf azB) .nil))) (nd o66 (nd apQ (nd aqR (lf o0) (lf o11)) (nd o1 (lf o0) .nil)) (nd asI (nd o0 (lf o1) .nil) (nd axF (lf o1) .nil)))) (nd o20 (nd o55 (nd o0 (nd aq3 (lf o1) (lf o0)) (nd auU (lf aDD) .nil)) (nd arJ (nd aoF (lf azK) (lf aB9)) (nd o0 (lf aB2) .nil))) (nd (o75 P) (nd aoQ (nd arZ (lf o0) (lf o0)) (nd ax5 (lf (azH P)) .nil)) (nd ao7 (nd (aqT P) (lf aDF) .nil) (nd (ax3 P) (lf o0) .nil))))))) (nd (boot_o_5 P) (nd (boot_o_9 P) (nd o6 (nd o18 (nd o38 (nd o1 (nd o0 (lf o1) (lf ayY)) (nd o1 (lf aCR) .nil)) (nd aqY (nd aoH (lf ayJ) (lf az7)) (nd o0 (lf o1) .nil))) (nd o20 (nd o1 (nd arT (lf o0) (lf o1)) (nd atW (lf o1) .nil)) (nd aqH (nd aq2 (lf ayS) .nil) (nd at8 (lf ayV) .nil)))) (nd (o28 P) (nd o0 (nd o92 (nd o0 (lf ayR) (lf aC7)) (nd as8 (lf aBV) .nil)) (nd aqW (nd apR (lf (avE P)) (lf aCP)) (nd avK (lf o0) .nil))) (nd o1 (nd o0 (nd o1 (lf axX) (lf o0)) (nd awW (lf aDK) .nil)) (nd o1 (nd apV (lf azF) .nil) (nd awK (lf o0) .nil))))) (nd o0 (nd o23 (nd o43 (nd o85 (nd ar9 (lf aw5) (lf aER)) (nd apJ (lf azJ) .nil)) (nd o1 (nd o1 (lf o0) (lf o0)) (nd auM (lf aAA) .nil))) (nd (o64 P) (nd atC (nd o0 (lf o1) (lf aD9)) (nd awO (lf aC9) .nil)) (nd o0 (nd apD (lf aCC) .nil) (nd o0 (lf azI) .nil)))) (nd o33 (nd o53 (nd o1 (nd o1 (lf ax7) (lf aAE)) (nd avJ (lf o0) .nil)) (nd o0 (nd o0 (lf aEO) (lf o0)) (nd o11 (lf ay6) .nil))) (nd o20 (nd arY (nd asG (lf avL) (lf o1)) (nd o0 (lf o0) .nil)) (nd apO (nd o0 (lf o0) .nil) (nd abC (lf o1) .nil)))))) (nd o2 (nd o9 (nd (o21 P) (nd o0 (nd o81 (nd o0 (lf ayO) (lf azV)) (nd asB (lf o1) .nil)) (nd ar5 (nd arU (lf o0) (lf aDX)) (nd o0 (lf ay5) .nil))) (nd o1 (nd asD (nd o1 (lf ax1) (lf o0)) (nd avG (lf aBN) .nil)) (nd o0 (nd o1 (lf aEE) .nil) (nd at1 (lf azQ) .nil)))) (nd o30 (nd o0 (nd o95 (nd asU (lf (axA P)) (lf o1)) (nd abC (lf o0) .nil)) (nd arB (nd aqJ (lf abC) (lf o1)) (nd auR (lf o0) .nil))) (nd (o71 P) (nd o0 (nd o0 (lf o11) (lf aBM)) (nd avO (lf o0) .nil)) (nd arO (nd o0 (lf azT) .nil) (nd (avW P) (lf azY) .nil))))) (nd o0 (nd o26 (nd o47 (nd o11 (nd o1 (lf at9) (lf o0)) (nd aqO (lf aBF) .nil)) (nd asJ (nd asP (lf av6) (lf o0)) (nd o1 (lf azO) .nil))) (nd o20 (nd ao3 (nd as2 (lf atU) (lf o0)) (nd o0 (lf aDI) .nil)) (nd aqC (nd asA (lf o0) .nil) (nd o0 (lf o0) .nil)))) (nd (o35 P) (nd (o57 P) (nd arS (nd o0 (lf o0) (lf azZ)) (nd o1 (lf aAD) .nil)) (nd o0 (nd o0 (lf o1) (lf aBG)) (nd auX (lf o1) .nil))) (nd o76 (nd o1 (nd o1 (lf axK) (lf aAB)) (nd auO (lf aCK) .nil)) (nd ap3 (nd apU (lf o0) .nil) (nd av0 (lf aCY) .nil)))))))) (nd (boot_o_2 P) (nd (boot_o_4 P) (nd (boot_o_8 P) (nd o1 (nd o17 (nd o37 (nd o0 (nd as6 (lf o0) (lf o1)) (nd o0 (lf o0) .nil)) (nd aq1 (nd aqA (lf aw3) (lf o1)) (nd auL (lf o0) .nil))) (nd o60 (nd o0 (nd o0 (lf aw4) (lf o0)) (nd auE (lf o0) .nil)) (nd aoG (nd o0 (lf aCJ) .nil) (nd o1 (lf ay0) .nil)))) (nd o11 (nd (o48 P) (nd o1 (nd asH (lf at0) (lf o0)) (nd az3 (lf aDA) .nil)) (nd o1 (nd o1 (lf ayC) (lf aBC)) (nd avV (lf aDY) .nil))) (nd o0 (nd aqS (nd o0 (lf (ayI P)) (lf aEG)) (nd axG (lf aDR) .nil)) (nd o0 (nd arA (lf aBK) .nil) (nd o0 (lf azX) .nil))))) (nd (o12 P) (nd o22 (nd o42 (nd (o84 P) (nd o0 (lf o1) (lf azG)) (nd o1 (lf aBD) .nil)) (nd o0 (nd o0 (lf awN) (lf aA7)) (nd o0 (lf o1) .nil))) (nd o0 (nd o1 (nd aoR (lf o0) (lf aDU)) (nd atN (lf aDJ) .nil)) (nd aqU (nd aq0 (lf aCB) .nil) (nd avC (lf ayW) .nil)))) (nd o32 (nd o0 (nd o0 (nd o0 (lf awJ) (lf aAI)) (nd o0 (lf aEN) .nil)) (nd apF (nd aq4 (lf o0) (lf aCS)) (nd abC (lf o0) .nil))) (nd o74 (nd o0 (nd o0 (lf awT) (lf o0)) (nd (atT P) (lf aAZ) .nil)) (nd o1 (nd apK (lf aA4) .nil) (nd atJ (lf o0) .nil)))))) (nd o373 (nd o8 (nd o11 (nd o39 (nd o80 (nd apZ (lf avF) (lf aB1)) (nd aoI (lf o0) .nil)) (nd o1 (nd o1 (lf ayB) (lf aA9)) (nd aw2 (lf aC2) .nil))) (nd o0 (nd aoW (nd o0 (lf o0) (lf ay7)) (nd o1 (lf aD8) .nil)) (nd ar3 (nd o0 (lf o1) .nil) (nd aw8 (lf o1) .nil)))) (nd o29 (nd o51 (nd (o94 P) (nd o0 (lf o11) (lf o0)) (nd ap1 (lf aEF) .nil)) (nd apL (nd ao5 (lf axZ) (lf o0)) (nd (atY P) (lf aAV) .nil))) (nd o0 (nd ar6 (nd arM (lf abC) (lf o0)) (nd avQ (lf aBE) .nil)) (nd aq8 (nd arL (lf aBT) .nil) (nd ayD (lf o0) .nil))))) (nd o14 (nd o25 (nd o46 (nd o20 (nd o0 (lf awC) (lf aAT)) (nd apB (lf o1) .nil)) (nd ar8 (nd apM (lf o0) (lf aAU)) (nd o0 (lf az9) .nil))) (nd o67 (nd atD (nd o0 (lf auJ) (lf (aDL P))) (nd auD (lf o1) .nil)) (nd o0 (nd o1 (lf aDQ) .nil) (nd ayP (lf azA) .nil)))) (nd o11 (nd o56 (nd o99 (nd apI (lf axN) (lf o1)) (nd o0 (lf o0) .nil)) (nd aoO (nd ao1 (lf o0) (lf o0)) (nd auZ (lf o0) .nil))) (nd o0 (nd o0 (nd o0 (lf o1) (lf az8)) (nd atM (lf o0) .nil)) (nd arP (nd o0 (lf azC) .nil) (nd o0 (lf aA0) .nil))))))) (nd (boot_o_6 P) (nd (boot_o_10 P) (nd o0 (nd o19 (nd o0 (nd o79 (nd asK (lf axW) (lf o0)) (nd aq6 (lf aCG) .nil)) (nd asY (nd ar2 (lf o0) (lf o0)) (nd aw7 (lf aES) .nil))) (nd o11 (nd asX (nd asQ (lf o1) (lf ayU)) (nd auS (lf aCE) .nil)) (nd o0 (nd aq5 (lf aBQ) .nil) (nd o0 (lf aDT) .nil)))) (nd o0 (nd o49 (nd o93 (nd o1 (lf atF) (lf aEH)) (nd aoJ (lf o0) .nil)) (nd o0 (nd o0 (lf awZ) (lf ayX)) (nd avX (lf aAX) .nil))) (nd o69 (nd aqL (nd aoX (lf auF) (lf o1)) (nd (avD P) (lf o0) .nil)) (nd asS (nd o0 (lf (aAL P)) .nil) (nd avU (lf o1) .nil))))) (nd o1 (nd o0 (nd (o44 P) (nd o86 (nd arI (lf o0) (lf aBJ)) (nd o0 (lf azD) .nil)) (nd arK (nd apX (lf o1) (lf aCW)) (nd ax8 (lf o0) .nil))) (nd o65 (nd o0 (nd o1 (lf ax2) (lf o0)) (nd o0 (lf aBZ) .nil)) (nd o1 (nd apY (lf o0) .nil) (nd av3 (lf o0) .nil)))) (nd o34 (nd o54 (nd o98 (nd arE (lf o0) (lf ay4)) (nd awE (lf o1) .nil)) (nd aqB (nd apE (lf azE) (lf o1)) (nd (axI P) (lf aCZ) .nil))) (nd o11 (nd asF (nd apC (lf aw0) (lf aBB)) (nd auH (lf o11) .nil)) (nd o0 (nd o11 (lf aBO) .nil) (nd o11 (lf aB4) .nil)))))) (nd o3 (nd o10 (nd o0 (nd o40 (nd o82 (nd o1 (lf axH) (lf azU)) (nd ar4 (lf ay8) .nil)) (nd aqN (nd arQ (lf avR) (lf o0)) (nd o1 (lf aAM) .nil))) (nd o62 (nd arR (nd atA (lf av4) (lf o1)) (nd o0 (lf aCU) .nil)) (nd aoM (nd ap7 (lf o0) .nil) (nd o0 (lf o0) .nil)))) (nd o0 (nd o1 (nd o96 (nd aqQ (lf o0) (lf aC8)) (nd o11 (lf aEB) .nil)) (nd o0 (nd o0 (lf o11) (lf aBL)) (nd awD (lf o1) .nil))) (nd o72 (nd o1 (nd o1 (lf (au0 P)) (lf azM)) (nd abC (lf aB0) .nil)) (nd aq9 (nd asR (lf o0) .nil) (nd awA (lf aA5) .nil))))) (nd (o15 P) (nd o27 (nd o20 (nd (o91 P) (nd apS (lf o0) (lf o1)) (nd o0 (lf o0) .nil)) (nd ao0 (nd apG (lf au4) (lf (aA1 P))) (nd av7 (lf o0) .nil))) (nd o11 (nd o0 (nd ao4 (lf axC) (lf aD3)) (nd ayH (lf o0) .nil)) (nd atE (nd o0 (lf aDG) .nil) (nd o1 (lf aCL) .nil)))) (nd o0 (nd o58 (nd ar0 (nd o1 (lf awL) (lf aAF)) (nd awB (lf aB8) .nil)) (nd o1 (nd o1 (lf aCI) (lf aD0)) (nd auQ (lf aD1) .nil))) (nd o77 (nd apN (nd aqM (lf o0) (lf aDV)) (nd o0 (lf aC5) .nil)) (nd o0 (nd as4 (lf o1) .nil) (nd auW (lf aCD) .nil)))))))))
def s4(w:World)(os:OsState):SharedT:=⟨t4 w.params,864,⟨[],[],[],0,[],[],false,#[],[],0,false,false,false,0,[2000,10,10],false,0,true,[],[],0,false⟩,#[],⟨0,0,0,0⟩,1369,os⟩
def l3:List Stmt:=(bi.drop 80).take 32
theorem r3(w:World)(os:OsState):
  segRunT treeTable pw w 11 an 1 1790 (s3 w os) (piecesOf l3 ev cd ⟨257,0,270,55⟩ bk) =
  some (.next,s4 w os,cd,⟨465,0,468,25⟩):=
 byRow2 "special-get-raises" (P:=fun w=>segRunT treeTable pw w 11 an 1 1790 (s3 w os) (piecesOf l3 ev cd ⟨257,0,270,55⟩ bk)=some (.next,s4 w os,cd,⟨465,0,468,25⟩)) (fun w=>by kernel_rfl) (fun w=>by kernel_rfl) w
def o537(P:Params):Obj:=di [(de P "__name__" 165 (.str "law_fivefields_k62_books_refused" 1628)),(de P "__doc__" 166 .none),(de P "__package__" 167 .none),(de P "__loader__" 168 (.builtin "__main__.__loader__#opaque")),(de P "__spec__" 169 .none),(de P "__annotations__" 170 (r 6)),(de P "__builtins__" 171 (r 4)),(de P "__file__" 173 (sf 172)),(de P "__cached__" 174 .none),(de P "_wall" 193 (r 21)),(de P "FieldError" 213 (r 31)),(de P "NoDay" 229 (r 44)),(de P "NoMoment" 245 (r 56)),(de P "NoField" 270 (r 75)),(de P "NoRow" 295 (r 94)),(de P "NoBook" 311 (r 106)),(de P "NoClock" 327 (r 118)),(de P "NoName" 352 (r 137)),(de P "NoWord" 368 (r 149)),(de P "is_whole" 377 (r 158)),(de P "MONTH_LASTS" 392 (r 159)),(de P "ROUND_YEARS" 394 (.int 400 393)),(de P "ROUND_DAYS" 396 (.int 146097 395)),(de P "is_long" 403 (r 166)),(de P "multiples_before" 411 (r 173)),(de P "days_before" 419 (r 180)),(de P "last_of" 427 (r 187)),(de P "is_date" 436 (r 194)),(de P "day_of" 442 (r 199)),(de P "year_of" 450 (r 206)),(de P "date_of" 460 (r 213)),(de P "weekday" 467 (r 220)),(de P "FIGURES" 471 (.str "0123456789" 470)),(de P "all_figures" 477 (r 225)),(de P "is_written" 484 (r 232)),(de P "DAY_MINUTES" 488 (.int 1440 487)),(de P "HOUR_MINUTES" 490 (.int 60 489)),(de P "parted" 498 (r 239)),(de P "LONG_PLACE" 502 (.int 12 501)),(de P "LONG_LAST" 504 (.int 29 503)),(de P "SHORT_YEAR" 506 (.int 1 505)),(de P "kind_from" 516 (r 246)),(de P "kind_of" 524 (r 253)),(de P "month_at" 533 (r 260)),(de P "has" 543 (r 267)),(de P "starts_of" 549 (r 272)),(de P "end_from" 558 (r 279)),(de P "ranges_of" 564 (r 284)),(de P "shown_range" 572 (r 291)),(de P "shown_ranges" 578 (r 296)),(de P "MOST_SIGNS" 582 (.int 300 581)),(de P "MOST_ITEMS" 584 (.int 40 583)),(de P "MOST_STRIDE" 586 (.int 99 585)),(de P "mask_of" 595 (r 303)),(de P "numbers_in" 601 (r 308)),(de P "run_mask" 610 (r 315)),(de P "read_number" 620 (r 322)),(de P "read_run" 626 (r 327)),(de P "read_strided" 639 (r 334)),(de P "read_item" 650 (r 341)),(de P "read_field" 664 (r 348)),(de P "MOST_MARKS" 668 (.int 20 667)),(de P "MOST_DAY" 670 (.int 31 669)),(de P "MOST_BACK" 672 (.int 30 671)),(de P "MOST_NTH" 674 (.int 5 673)),(de P "SUNDAY" 676 (.int 0 675)),(de P "SATURDAY" 678 (.int 6 677)),(de P "SUNDAY_TOO" 680 (.int 7 679)),(de P "ALL_WEEKDAYS" 682 (.int 127 681)),(de P "weekday_at" 690 (r 355)),(de P "all_days" 697 (r 362)),(de P "nearest_work" 707 (r 369)),(de P "first_one" 715 (r 376)),(de P "Mark" 751 (r 400)),(de P "Numbers" 792 (r 435)),(de P "Last" 834 (r 469)),(de P "Near" 875 (r 502)),(de P "LastWork" 907 (r 528)),(de P "Weekdays" 950 (r 561)),(de P "Nth" 994 (r 594)),(de P "LastOne" 1035 (r 627)),(de P "any_days" 1046 (r 636)),(de P "read_day_mark" 1055 (r 643)),(de P "read_weekday" 1063 (r 650)),(de P "read_weekday_mark" 1073 (r 657)),(de P "read_items" 1090 (r 664)),(de P "read_days" 1098 (r 671)),(de P "read_weekdays" 1107 (r 678)),(de P "MOST_ROW_SIGNS" 1111 (.int 1600 1110)),(de P "MINUTE" 1113 (.int 0 1112)),(de P "HOUR" 1115 (.int 1 1114)),(de P "DAY" 1117 (.int 2 1116)),(de P "MONTH" 1119 (.int 3 1118)),(de P "WEEKDAY" 1121 (.int 4 1120)),(de P "NO_PLACE" 1123 (.int 5 1122)),(de P "BOUNDS" 1136 (r 679)),(de P "times_of" 1146 (r 689)),(de P "days_by" 1158 (r 696)),(de P "Row" 1262 (r 776)),(de P "read_word" 1271 (r 787)),(de P "read_at" 1279 (r 794)),(de P "read_row" 1285 (r 799)),(de P "MOST_BOOKS" 1289 (.int 8 1288)),(de P "MOST_TALLY" 1291 (.int 24 1290)),(de P "MOST_DEPTH" 1293 (.int 5 1292)),(de P "tally_of" 1299 (r 804)),(de P "depth_of" 1305 (r 809)),(de P "Book" 1355 (r 847)),(de P "checked" 1361 (r 856)),(de P "checked_list" 1368 (r 863)),(de P "Of" 1409 (r 894)),(de P "Joined" 1462 (r 939)),(de P "Met" 1515 (r 984)),(de P "Less" 1572 (r 1031)),(de P "Turned" 1627 (r 1078)),(de P "_law_cell_at" 1637 (r 1087)),(de P "_law_stir" 1646 (r 1094)),(de P "_law_digits" 1657 (r 1101)),(de P "_law_made" 1666 (r 1108)),(de P "_law_refused" 1676 (r 1115)),(de P "_law_odd" 1684 (r 1122))] 121
def o538:Obj:=fd [(i 1),(i 0),(r 20),(i 5),(i 0),(r 27),(i 7),(i 0),(r 40),(i 9),(i 0),(r 52),(i 11),(i 0),(r 64),(i 15),(i 0),(r 83),(i 19),(i 0),(r 102),(i 21),(i 0),(r 114),(i 23),(i 0),(r 126),(i 27),(i 0),(r 145),(i 30),(i 0),(r 157),(i 36),(i 0),(r 165),(i 38),(i 0),(r 172),(i 40),(i 0),(r 179),(i 43),(i 0),(r 186),(i 47),(i 0),(r 193),(i 51),(i 0),(r 198),(i 56),(i 0),(r 205),(i 61),(i 0),(r 212),(i 69),(i 0),(r 219),(i 73),(i 0),(r 224),(i 75),(i 0),(r 231),(i 80),(i 0),(r 238),(i 87),(i 0),(r 245),(i 90),(i 0),(r 252),(i 92),(i 0),(r 259),(i 99),(i 0),(r 266),(i 101),(i 0),(r 271),(i 104),(i 0),(r 278),(i 109),(i 0),(r 283),(i 111),(i 0),(r 290),(i 115),(i 0),(r 295),(i 121),(i 0),(r 302),(i 126),(i 0),(r 307),(i 128),(i 0),(r 314),(i 130),(i 0),(r 321),(i 137),(i 0),(r 326),(i 144),(i 0),(r 333),(i 151),(i 0),(r 340),(i 159),(i 0),(r 347),(i 181),(i 0),(r 354),(i 183),(i 0),(r 361),(i 185),(i 0),(r 368),(i 192),(i 0),(r 375),(i 194),(i 0),(r 382),(i 201),(i 0),(r 410),(i 211),(i 0),(r 443),(i 225),(i 0),(r 477),(i 237),(i 0),(r 510),(i 244),(i 0),(r 536),(i 257),(i 0),(r 569),(i 271),(i 0),(r 602),(i 281),(i 0),(r 635),(i 286),(i 0),(r 642),(i 298),(i 0),(r 649),(i 301),(i 0),(r 656),(i 313),(i 0),(r 663),(i 331),(i 0),(r 670),(i 338),(i 0),(r 677),(i 355),(i 0),(r 688),(i 360),(i 0),(r 695),(i 368),(i 0),(r 702),(i 417),(i 0),(r 786),(i 424),(i 0),(r 793),(i 429),(i 0),(r 798),(i 440),(i 0),(r 803),(i 442),(i 0),(r 808),(i 444),(i 0),(r 815),(i 457),(i 0),(r 855),(i 465),(i 0),(r 862),(i 469),(i 0),(r 869),(i 481),(i 0),(r 902),(i 497),(i 0),(r 947),(i 513),(i 0),(r 992),(i 531),(i 0),(r 1039),(i 549),(i 0),(r 1086),(i 553),(i 0),(r 1093),(i 557),(i 0),(r 1100),(i 568),(i 0),(r 1107),(i 578),(i 0),(r 1114),(i 586),(i 0),(r 1121)]
def aIQ:Obj:=⟨(.type "type"),none,(.cls ⟨"Book",[(.type "object")],[(r 847),(.type "object")],846,"Book",true,[],[(r 894),(r 939),(r 984),(r 1031),(r 1078)],false,none,false⟩),#[none,none,(some (.str "Book" 1306)),(some (.str "Book" 1314)),(some (.builtin "object.__new__")),(some (.bool true))]⟩
def aeM:Obj:=tu [(r 847)]
def aI5(P:Params):Obj:=di [(de P "__module__" 1376 (.str "fivefields.books" 1286)),(de P "__qualname__" 1378 (.str "Of" 1377)),(de P "__firstlineno__" 1380 (.int 469 1379)),(de P "__init__" 1388 (r 877)),(de P "holds" 1396 (r 884)),(de P "on_days" 1404 (r 891)),(de P "__static_attributes__" 1406 (r 892))] 7
def aJG:Obj:=fd [(i 471),(i 4),(r 876),(i 476),(i 4),(r 883),(i 479),(i 4),(r 890)]
def aJU:Obj:=co [(.str "Of" 1371),(.str "Of" 1372),(sf 1373),(i 469),(i 0),(i 0),(i 0),(i 0),(r 867),(.bool false),(i 181),(r 868),.none,.none,.none,.none,(i 1374),(i 469),(sf 1375)]
def aGE:Obj:=⟨(.type "frame"),none,.plain,#[(some (r 869)),(some (r 3)),(some (r 866)),none,(some (.str "fivefields.books" 1286)),none,(some (r 0))]⟩
def aJ3:Obj:=tu [(.str "self" 1384),(.str "row" 1385)]
def aJH:Obj:=fz "__init__" "Of.__init__" (ib (tp 112) 0)
def aIJ:Obj:=co [(.str "__init__" 1381),(.str "Of.__init__" 1382),(sf 1383),(i 471),(i 2),(i 0),(i 0),(i 3),(r 871),(.bool true),(i 181),(r 872),.none,(r 873),(r 874),(r 875),(i 1386),(i 471),(sf 1387)]
def aFI:Obj:=fn "__init__" "Of.__init__" (ib (tp 112) 0) 3 [] .none .none .none (.str "fivefields.books" 1286) none (r 876) .none 0
def aK9:Obj:=tu [(.str "self" 1392),(.str "moment" 1393)]
def aF3:Obj:=⟨.none,none,(.func ⟨"holds","Of.holds",(ag (ib (tp 112) 1)),(.stmts (bd (ib (tp 112) 1))),(sc (ib (tp 99) 7)),0,[],.none,.none,.none,.none,none,.none,.none,0⟩),#[]⟩
def aHK:Obj:=co [(.str "holds" 1389),(.str "Of.holds" 1390),(sf 1391),(i 476),(i 2),(i 0),(i 0),(i 3),(r 878),(.bool true),(i 181),(r 879),.none,(r 880),(r 881),(r 882),(i 1394),(i 476),(sf 1395)]
def aGG:Obj:=⟨(.type "function"),none,(.func ⟨"holds","Of.holds",(ag (ib (tp 112) 1)),(.stmts (bd (ib (tp 112) 1))),(sc (ib (tp 99) 7)),3,[],.none,.none,.none,(.str "fivefields.books" 1286),none,(r 883),.none,0⟩),#[]⟩
def aG8:Obj:=tu [(.str "self" 1400),(.str "kind" 1401)]
def aJM:Obj:=⟨.none,none,(.func ⟨"on_days","Of.on_days",(ag (ib (tp 112) 2)),(.stmts (bd (ib (tp 112) 2))),(sc (ib (tp 99) 6)),0,[],.none,.none,.none,.none,none,.none,.none,0⟩),#[]⟩
def aJP:Obj:=co [(.str "on_days" 1397),(.str "Of.on_days" 1398),(sf 1399),(i 479),(i 2),(i 0),(i 0),(i 3),(r 885),(.bool true),(i 181),(r 886),.none,(r 887),(r 888),(r 889),(i 1402),(i 479),(sf 1403)]
def aKO:Obj:=⟨(.type "function"),none,(.func ⟨"on_days","Of.on_days",(ag (ib (tp 112) 2)),(.stmts (bd (ib (tp 112) 2))),(sc (ib (tp 99) 6)),3,[],.none,.none,.none,(.str "fivefields.books" 1286),none,(r 890),.none,0⟩),#[]⟩
def aG6:Obj:=tu [(.str "row" 1405)]
def aFX(P:Params):Obj:=di [(de P "__module__" 1376 (.str "fivefields.books" 1286)),(de P "__firstlineno__" 1380 (.int 469 1379)),(de P "__init__" 1388 (r 877)),(de P "holds" 1396 (r 884)),(de P "on_days" 1404 (r 891)),(de P "__static_attributes__" 1406 (r 892)),(de P "__doc__" 1407 .none)] 2
def aGI:Obj:=⟨(.type "type"),none,(.cls ⟨"Of",[(r 847)],[(r 894),(r 847),(.type "object")],893,"Of",true,[],[],false,none,false⟩),#[(some (r 864)),none,(some (.str "Of" 1369)),(some (.str "Of" 1377)),(some (.builtin "object.__new__")),(some (.bool true))]⟩
def aIM:Obj:=⟨(.type "super"),none,(.fields #[(r 894),(r 894),(r 894)]),#[]⟩
def aJ0:Obj:=⟨(.type "builtin_function_or_method"),none,(.fields #[(.builtin "object.__init_subclass__"),(r 894)]),#[]⟩
def aKE(P:Params):Obj:=di [(de P "__module__" 1417 (.str "fivefields.books" 1286)),(de P "__qualname__" 1419 (.str "Joined" 1418)),(de P "__firstlineno__" 1421 (.int 481 1420)),(de P "__init__" 1429 (r 910)),(de P "holds" 1435 (r 915)),(de P "tally" 1442 (r 922)),(de P "depth" 1449 (r 929)),(de P "on_days" 1457 (r 936)),(de P "__static_attributes__" 1459 (r 937))] 9
def aIK:Obj:=fd [(i 483),(i 4),(r 909),(i 486),(i 4),(r 914),(i 489),(i 4),(r 921),(i 492),(i 4),(r 928),(i 495),(i 4),(r 935)]
def aHN:Obj:=co [(.str "Joined" 1412),(.str "Joined" 1413),(sf 1414),(i 481),(i 0),(i 0),(i 0),(i 0),(r 900),(.bool false),(i 181),(r 901),.none,.none,.none,.none,(i 1415),(i 481),(sf 1416)]
def aLK:Obj:=⟨(.type "frame"),none,.plain,#[(some (r 902)),(some (r 3)),(some (r 899)),none,(some (.str "fivefields.books" 1286)),none,(some (r 0))]⟩
def aFK:Obj:=tu [(.str "self" 1425),(.str "books" 1426)]
def aHL:Obj:=fz "__init__" "Joined.__init__" (ib (tp 113) 0)
def aLE:Obj:=co [(.str "__init__" 1422),(.str "Joined.__init__" 1423),(sf 1424),(i 483),(i 2),(i 0),(i 0),(i 3),(r 904),(.bool true),(i 181),(r 905),.none,(r 906),(r 907),(r 908),(i 1427),(i 483),(sf 1428)]
def aL3:Obj:=fn "__init__" "Joined.__init__" (ib (tp 113) 0) 3 [] .none .none .none (.str "fivefields.books" 1286) none (r 909) .none 0
def aH4:Obj:=fz "holds" "Joined.holds" (ib (tp 113) 1)
def aIL:Obj:=co [(.str "holds" 1430),(.str "Joined.holds" 1431),(sf 1432),(i 486),(i 2),(i 0),(i 0),(i 3),(r 911),(.bool true),(i 181),(r 912),.none,.none,.none,(r 913),(i 1433),(i 486),(sf 1434)]
def aHF:Obj:=fn "holds" "Joined.holds" (ib (tp 113) 1) 3 [] .none .none .none (.str "fivefields.books" 1286) none (r 914) .none 0
def aKD:Obj:=tu [(.str "self" 1439)]
def aF4:Obj:=fz "tally" "Joined.tally" (ib (tp 113) 2)
def aHV:Obj:=co [(.str "tally" 1436),(.str "Joined.tally" 1437),(sf 1438),(i 489),(i 1),(i 0),(i 0),(i 3),(r 916),(.bool true),(i 181),(r 917),.none,(r 918),(r 919),(r 920),(i 1440),(i 489),(sf 1441)]
def aH0:Obj:=fn "tally" "Joined.tally" (ib (tp 113) 2) 3 [] .none .none .none (.str "fivefields.books" 1286) none (r 921) .none 0
def aKY:Obj:=tu [(.str "self" 1446)]
def aI6:Obj:=fz "depth" "Joined.depth" (ib (tp 113) 3)
def aLM:Obj:=co [(.str "depth" 1443),(.str "Joined.depth" 1444),(sf 1445),(i 492),(i 1),(i 0),(i 0),(i 3),(r 923),(.bool true),(i 181),(r 924),.none,(r 925),(r 926),(r 927),(i 1447),(i 492),(sf 1448)]
def aII:Obj:=fn "depth" "Joined.depth" (ib (tp 113) 3) 3 [] .none .none .none (.str "fivefields.books" 1286) none (r 928) .none 0
def aI0:Obj:=tu [(.str "self" 1453),(.str "kind" 1454)]
def aIN:Obj:=⟨.none,none,(.func ⟨"on_days","Joined.on_days",(ag (ib (tp 113) 4)),(.stmts (bd (ib (tp 113) 4))),(sc (ib (tp 99) 6)),0,[],.none,.none,.none,.none,none,.none,.none,0⟩),#[]⟩
def aHY:Obj:=co [(.str "on_days" 1450),(.str "Joined.on_days" 1451),(sf 1452),(i 495),(i 2),(i 0),(i 0),(i 3),(r 930),(.bool true),(i 181),(r 931),.none,(r 932),(r 933),(r 934),(i 1455),(i 495),(sf 1456)]
def aLR:Obj:=⟨(.type "function"),none,(.func ⟨"on_days","Joined.on_days",(ag (ib (tp 113) 4)),(.stmts (bd (ib (tp 113) 4))),(sc (ib (tp 99) 6)),3,[],.none,.none,.none,(.str "fivefields.books" 1286),none,(r 935),.none,0⟩),#[]⟩
def aJA:Obj:=tu [(.str "books" 1458)]
def aKF(P:Params):Obj:=di [(de P "__module__" 1417 (.str "fivefields.books" 1286)),(de P "__firstlineno__" 1421 (.int 481 1420)),(de P "__init__" 1429 (r 910)),(de P "holds" 1435 (r 915)),(de P "tally" 1442 (r 922)),(de P "depth" 1449 (r 929)),(de P "on_days" 1457 (r 936)),(de P "__static_attributes__" 1459 (r 937)),(de P "__doc__" 1460 .none)] 2
def aJD:Obj:=⟨(.type "type"),none,(.cls ⟨"Joined",[(r 847)],[(r 939),(r 847),(.type "object")],938,"Joined",true,[],[],false,none,false⟩),#[(some (r 897)),none,(some (.str "Joined" 1410)),(some (.str "Joined" 1418)),(some (.builtin "object.__new__")),(some (.bool true))]⟩
def aKI:Obj:=⟨(.type "super"),none,(.fields #[(r 939),(r 939),(r 939)]),#[]⟩
def aJ1:Obj:=⟨(.type "builtin_function_or_method"),none,(.fields #[(.builtin "object.__init_subclass__"),(r 939)]),#[]⟩
def aIH(P:Params):Obj:=di [(de P "__module__" 1470 (.str "fivefields.books" 1286)),(de P "__qualname__" 1472 (.str "Met" 1471)),(de P "__firstlineno__" 1474 (.int 497 1473)),(de P "__init__" 1482 (r 955)),(de P "holds" 1488 (r 960)),(de P "tally" 1495 (r 967)),(de P "depth" 1502 (r 974)),(de P "on_days" 1510 (r 981)),(de P "__static_attributes__" 1512 (r 982))] 9
def aFW:Obj:=fd [(i 499),(i 4),(r 954),(i 502),(i 4),(r 959),(i 505),(i 4),(r 966),(i 508),(i 4),(r 973),(i 511),(i 4),(r 980)]
def aFH:Obj:=co [(.str "Met" 1465),(.str "Met" 1466),(sf 1467),(i 497),(i 0),(i 0),(i 0),(i 0),(r 945),(.bool false),(i 181),(r 946),.none,.none,.none,.none,(i 1468),(i 497),(sf 1469)]
def aJ5:Obj:=⟨(.type "frame"),none,.plain,#[(some (r 947)),(some (r 3)),(some (r 944)),none,(some (.str "fivefields.books" 1286)),none,(some (r 0))]⟩
def aK7:Obj:=tu [(.str "self" 1478),(.str "books" 1479)]
def aGK:Obj:=⟨.none,none,(.func ⟨"__init__","Met.__init__",(ag (ib (tp 114) 0)),(.stmts (bd (ib (tp 114) 0))),(sc (ib (tp 113) 0)),0,[],.none,.none,.none,.none,none,.none,.none,0⟩),#[]⟩
def aLC:Obj:=co [(.str "__init__" 1475),(.str "Met.__init__" 1476),(sf 1477),(i 499),(i 2),(i 0),(i 0),(i 3),(r 949),(.bool true),(i 181),(r 950),.none,(r 951),(r 952),(r 953),(i 1480),(i 499),(sf 1481)]
def aI4:Obj:=⟨(.type "function"),none,(.func ⟨"__init__","Met.__init__",(ag (ib (tp 114) 0)),(.stmts (bd (ib (tp 114) 0))),(sc (ib (tp 113) 0)),3,[],.none,.none,.none,(.str "fivefields.books" 1286),none,(r 954),.none,0⟩),#[]⟩
def aFZ:Obj:=fz "holds" "Met.holds" (ib (tp 114) 1)
def aJL:Obj:=co [(.str "holds" 1483),(.str "Met.holds" 1484),(sf 1485),(i 502),(i 2),(i 0),(i 0),(i 3),(r 956),(.bool true),(i 181),(r 957),.none,.none,.none,(r 958),(i 1486),(i 502),(sf 1487)]
def aGC:Obj:=fn "holds" "Met.holds" (ib (tp 114) 1) 3 [] .none .none .none (.str "fivefields.books" 1286) none (r 959) .none 0
def aG1:Obj:=tu [(.str "self" 1492)]
def aLY:Obj:=⟨.none,none,(.func ⟨"tally","Met.tally",(ag (ib (tp 114) 2)),(.stmts (bd (ib (tp 114) 2))),(sc (ib (tp 113) 2)),0,[],.none,.none,.none,.none,none,.none,.none,0⟩),#[]⟩
def aK0:Obj:=co [(.str "tally" 1489),(.str "Met.tally" 1490),(sf 1491),(i 505),(i 1),(i 0),(i 0),(i 3),(r 961),(.bool true),(i 181),(r 962),.none,(r 963),(r 964),(r 965),(i 1493),(i 505),(sf 1494)]
def aJJ:Obj:=⟨(.type "function"),none,(.func ⟨"tally","Met.tally",(ag (ib (tp 114) 2)),(.stmts (bd (ib (tp 114) 2))),(sc (ib (tp 113) 2)),3,[],.none,.none,.none,(.str "fivefields.books" 1286),none,(r 966),.none,0⟩),#[]⟩
def aI7:Obj:=tu [(.str "self" 1499)]
def aGN:Obj:=⟨.none,none,(.func ⟨"depth","Met.depth",(ag (ib (tp 114) 3)),(.stmts (bd (ib (tp 114) 3))),(sc (ib (tp 113) 3)),0,[],.none,.none,.none,.none,none,.none,.none,0⟩),#[]⟩
def aGB:Obj:=co [(.str "depth" 1496),(.str "Met.depth" 1497),(sf 1498),(i 508),(i 1),(i 0),(i 0),(i 3),(r 968),(.bool true),(i 181),(r 969),.none,(r 970),(r 971),(r 972),(i 1500),(i 508),(sf 1501)]
def aFS:Obj:=⟨(.type "function"),none,(.func ⟨"depth","Met.depth",(ag (ib (tp 114) 3)),(.stmts (bd (ib (tp 114) 3))),(sc (ib (tp 113) 3)),3,[],.none,.none,.none,(.str "fivefields.books" 1286),none,(r 973),.none,0⟩),#[]⟩
def aGS:Obj:=tu [(.str "self" 1506),(.str "kind" 1507)]
def aIW:Obj:=⟨.none,none,(.func ⟨"on_days","Met.on_days",(ag (ib (tp 114) 4)),(.stmts (bd (ib (tp 114) 4))),(sc (ib (tp 99) 6)),0,[],.none,.none,.none,.none,none,.none,.none,0⟩),#[]⟩
def aLI:Obj:=co [(.str "on_days" 1503),(.str "Met.on_days" 1504),(sf 1505),(i 511),(i 2),(i 0),(i 0),(i 3),(r 975),(.bool true),(i 181),(r 976),.none,(r 977),(r 978),(r 979),(i 1508),(i 511),(sf 1509)]
def aI3:Obj:=⟨(.type "function"),none,(.func ⟨"on_days","Met.on_days",(ag (ib (tp 114) 4)),(.stmts (bd (ib (tp 114) 4))),(sc (ib (tp 99) 6)),3,[],.none,.none,.none,(.str "fivefields.books" 1286),none,(r 980),.none,0⟩),#[]⟩
def aLG:Obj:=tu [(.str "books" 1511)]
def aL2(P:Params):Obj:=di [(de P "__module__" 1470 (.str "fivefields.books" 1286)),(de P "__firstlineno__" 1474 (.int 497 1473)),(de P "__init__" 1482 (r 955)),(de P "holds" 1488 (r 960)),(de P "tally" 1495 (r 967)),(de P "depth" 1502 (r 974)),(de P "on_days" 1510 (r 981)),(de P "__static_attributes__" 1512 (r 982)),(de P "__doc__" 1513 .none)] 2
def aFD:Obj:=⟨(.type "type"),none,(.cls ⟨"Met",[(r 847)],[(r 984),(r 847),(.type "object")],983,"Met",true,[],[],false,none,false⟩),#[(some (r 942)),none,(some (.str "Met" 1463)),(some (.str "Met" 1471)),(some (.builtin "object.__new__")),(some (.bool true))]⟩
def aJE:Obj:=⟨(.type "super"),none,(.fields #[(r 984),(r 984),(r 984)]),#[]⟩
def aGL:Obj:=⟨(.type "builtin_function_or_method"),none,(.fields #[(.builtin "object.__init_subclass__"),(r 984)]),#[]⟩
def aIP(P:Params):Obj:=di [(de P "__module__" 1523 (.str "fivefields.books" 1286)),(de P "__qualname__" 1525 (.str "Less" 1524)),(de P "__firstlineno__" 1527 (.int 513 1526)),(de P "__init__" 1536 (r 1000)),(de P "holds" 1544 (r 1007)),(de P "tally" 1551 (r 1014)),(de P "depth" 1558 (r 1021)),(de P "on_days" 1566 (r 1028)),(de P "__static_attributes__" 1569 (r 1029))] 9
def aKX:Obj:=fd [(i 515),(i 4),(r 999),(i 520),(i 4),(r 1006),(i 523),(i 4),(r 1013),(i 526),(i 4),(r 1020),(i 529),(i 4),(r 1027)]
def aIF:Obj:=co [(.str "Less" 1518),(.str "Less" 1519),(sf 1520),(i 513),(i 0),(i 0),(i 0),(i 0),(r 990),(.bool false),(i 181),(r 991),.none,.none,.none,.none,(i 1521),(i 513),(sf 1522)]
def aLV:Obj:=⟨(.type "frame"),none,.plain,#[(some (r 992)),(some (r 3)),(some (r 989)),none,(some (.str "fivefields.books" 1286)),none,(some (r 0))]⟩
def aGT:Obj:=tu [(.str "self" 1531),(.str "one" 1532),(.str "other" 1533)]
def aL4:Obj:=fz "__init__" "Less.__init__" (ib (tp 115) 0)
def aJ6:Obj:=co [(.str "__init__" 1528),(.str "Less.__init__" 1529),(sf 1530),(i 515),(i 3),(i 0),(i 0),(i 3),(r 994),(.bool true),(i 181),(r 995),.none,(r 996),(r 997),(r 998),(i 1534),(i 515),(sf 1535)]
def aHG:Obj:=fn "__init__" "Less.__init__" (ib (tp 115) 0) 3 [] .none .none .none (.str "fivefields.books" 1286) none (r 999) .none 0
def aJV:Obj:=tu [(.str "self" 1540),(.str "moment" 1541)]
def aG5:Obj:=⟨.none,none,(.func ⟨"holds","Less.holds",(ag (ib (tp 115) 1)),(.stmts (bd (ib (tp 115) 1))),(sc (ib (tp 99) 7)),0,[],.none,.none,.none,.none,none,.none,.none,0⟩),#[]⟩
def aH8:Obj:=co [(.str "holds" 1537),(.str "Less.holds" 1538),(sf 1539),(i 520),(i 2),(i 0),(i 0),(i 3),(r 1001),(.bool true),(i 181),(r 1002),.none,(r 1003),(r 1004),(r 1005),(i 1542),(i 520),(sf 1543)]
def aKZ:Obj:=⟨(.type "function"),none,(.func ⟨"holds","Less.holds",(ag (ib (tp 115) 1)),(.stmts (bd (ib (tp 115) 1))),(sc (ib (tp 99) 7)),3,[],.none,.none,.none,(.str "fivefields.books" 1286),none,(r 1006),.none,0⟩),#[]⟩
def aKH:Obj:=tu [(.str "self" 1548)]
def aHI:Obj:=⟨.none,none,(.func ⟨"tally","Less.tally",(ag (ib (tp 115) 2)),(.stmts (bd (ib (tp 115) 2))),(sc (ib (tp 113) 2)),0,[],.none,.none,.none,.none,none,.none,.none,0⟩),#[]⟩
def aJW:Obj:=co [(.str "tally" 1545),(.str "Less.tally" 1546),(sf 1547),(i 523),(i 1),(i 0),(i 0),(i 3),(r 1008),(.bool true),(i 181),(r 1009),.none,(r 1010),(r 1011),(r 1012),(i 1549),(i 523),(sf 1550)]
def aG4:Obj:=⟨(.type "function"),none,(.func ⟨"tally","Less.tally",(ag (ib (tp 115) 2)),(.stmts (bd (ib (tp 115) 2))),(sc (ib (tp 113) 2)),3,[],.none,.none,.none,(.str "fivefields.books" 1286),none,(r 1013),.none,0⟩),#[]⟩
def aKU:Obj:=tu [(.str "self" 1555)]
def aJC:Obj:=⟨.none,none,(.func ⟨"depth","Less.depth",(ag (ib (tp 115) 3)),(.stmts (bd (ib (tp 115) 3))),(sc (ib (tp 113) 3)),0,[],.none,.none,.none,.none,none,.none,.none,0⟩),#[]⟩
def aFU:Obj:=co [(.str "depth" 1552),(.str "Less.depth" 1553),(sf 1554),(i 526),(i 1),(i 0),(i 0),(i 3),(r 1015),(.bool true),(i 181),(r 1016),.none,(r 1017),(r 1018),(r 1019),(i 1556),(i 526),(sf 1557)]
def aI1:Obj:=⟨(.type "function"),none,(.func ⟨"depth","Less.depth",(ag (ib (tp 115) 3)),(.stmts (bd (ib (tp 115) 3))),(sc (ib (tp 113) 3)),3,[],.none,.none,.none,(.str "fivefields.books" 1286),none,(r 1020),.none,0⟩),#[]⟩
def aJT:Obj:=tu [(.str "self" 1562),(.str "kind" 1563)]
def aLW:Obj:=⟨.none,none,(.func ⟨"on_days","Less.on_days",(ag (ib (tp 115) 4)),(.stmts (bd (ib (tp 115) 4))),(sc (ib (tp 99) 6)),0,[],.none,.none,.none,.none,none,.none,.none,0⟩),#[]⟩
def aI2:Obj:=co [(.str "on_days" 1559),(.str "Less.on_days" 1560),(sf 1561),(i 529),(i 2),(i 0),(i 0),(i 3),(r 1022),(.bool true),(i 181),(r 1023),.none,(r 1024),(r 1025),(r 1026),(i 1564),(i 529),(sf 1565)]
def aG7:Obj:=⟨(.type "function"),none,(.func ⟨"on_days","Less.on_days",(ag (ib (tp 115) 4)),(.stmts (bd (ib (tp 115) 4))),(sc (ib (tp 99) 6)),3,[],.none,.none,.none,(.str "fivefields.books" 1286),none,(r 1027),.none,0⟩),#[]⟩
def aHC:Obj:=tu [(.str "one" 1567),(.str "other" 1568)]
def aHA(P:Params):Obj:=di [(de P "__module__" 1523 (.str "fivefields.books" 1286)),(de P "__firstlineno__" 1527 (.int 513 1526)),(de P "__init__" 1536 (r 1000)),(de P "holds" 1544 (r 1007)),(de P "tally" 1551 (r 1014)),(de P "depth" 1558 (r 1021)),(de P "on_days" 1566 (r 1028)),(de P "__static_attributes__" 1569 (r 1029)),(de P "__doc__" 1570 .none)] 2
def aHP:Obj:=⟨(.type "type"),none,(.cls ⟨"Less",[(r 847)],[(r 1031),(r 847),(.type "object")],1030,"Less",true,[],[],false,none,false⟩),#[(some (r 987)),none,(some (.str "Less" 1516)),(some (.str "Less" 1524)),(some (.builtin "object.__new__")),(some (.bool true))]⟩
def aF1:Obj:=⟨(.type "super"),none,(.fields #[(r 1031),(r 1031),(r 1031)]),#[]⟩
def aIE:Obj:=⟨(.type "builtin_function_or_method"),none,(.fields #[(.builtin "object.__init_subclass__"),(r 1031)]),#[]⟩
def aJS(P:Params):Obj:=di [(de P "__module__" 1580 (.str "fivefields.books" 1286)),(de P "__qualname__" 1582 (.str "Turned" 1581)),(de P "__firstlineno__" 1584 (.int 531 1583)),(de P "__init__" 1592 (r 1047)),(de P "holds" 1600 (r 1054)),(de P "tally" 1607 (r 1061)),(de P "depth" 1614 (r 1068)),(de P "on_days" 1622 (r 1075)),(de P "__static_attributes__" 1624 (r 1076))] 9
def aJX:Obj:=fd [(i 533),(i 4),(r 1046),(i 537),(i 4),(r 1053),(i 540),(i 4),(r 1060),(i 543),(i 4),(r 1067),(i 546),(i 4),(r 1074)]
def aLF:Obj:=co [(.str "Turned" 1575),(.str "Turned" 1576),(sf 1577),(i 531),(i 0),(i 0),(i 0),(i 0),(r 1037),(.bool false),(i 181),(r 1038),.none,.none,.none,.none,(i 1578),(i 531),(sf 1579)]
def aHQ:Obj:=⟨(.type "frame"),none,.plain,#[(some (r 1039)),(some (r 3)),(some (r 1036)),none,(some (.str "fivefields.books" 1286)),none,(some (r 0))]⟩
def aHR:Obj:=tu [(.str "self" 1588),(.str "one" 1589)]
def aJ2:Obj:=fz "__init__" "Turned.__init__" (ib (tp 116) 0)
def aGQ:Obj:=co [(.str "__init__" 1585),(.str "Turned.__init__" 1586),(sf 1587),(i 533),(i 2),(i 0),(i 0),(i 3),(r 1041),(.bool true),(i 181),(r 1042),.none,(r 1043),(r 1044),(r 1045),(i 1590),(i 533),(sf 1591)]
def aFQ:Obj:=fn "__init__" "Turned.__init__" (ib (tp 116) 0) 3 [] .none .none .none (.str "fivefields.books" 1286) none (r 1046) .none 0
def aID:Obj:=tu [(.str "self" 1596),(.str "moment" 1597)]
def aLX:Obj:=⟨.none,none,(.func ⟨"holds","Turned.holds",(ag (ib (tp 116) 1)),(.stmts (bd (ib (tp 116) 1))),(sc (ib (tp 99) 7)),0,[],.none,.none,.none,.none,none,.none,.none,0⟩),#[]⟩
def aGM:Obj:=co [(.str "holds" 1593),(.str "Turned.holds" 1594),(sf 1595),(i 537),(i 2),(i 0),(i 0),(i 3),(r 1048),(.bool true),(i 181),(r 1049),.none,(r 1050),(r 1051),(r 1052),(i 1598),(i 537),(sf 1599)]
def aLS:Obj:=⟨(.type "function"),none,(.func ⟨"holds","Turned.holds",(ag (ib (tp 116) 1)),(.stmts (bd (ib (tp 116) 1))),(sc (ib (tp 99) 7)),3,[],.none,.none,.none,(.str "fivefields.books" 1286),none,(r 1053),.none,0⟩),#[]⟩
def aFV:Obj:=tu [(.str "self" 1604)]
def aLB:Obj:=⟨.none,none,(.func ⟨"tally","Turned.tally",(ag (ib (tp 116) 2)),(.stmts (bd (ib (tp 116) 2))),(sc (ib (tp 113) 2)),0,[],.none,.none,.none,.none,none,.none,.none,0⟩),#[]⟩
def aIX:Obj:=co [(.str "tally" 1601),(.str "Turned.tally" 1602),(sf 1603),(i 540),(i 1),(i 0),(i 0),(i 3),(r 1055),(.bool true),(i 181),(r 1056),.none,(r 1057),(r 1058),(r 1059),(i 1605),(i 540),(sf 1606)]
def aG3:Obj:=⟨(.type "function"),none,(.func ⟨"tally","Turned.tally",(ag (ib (tp 116) 2)),(.stmts (bd (ib (tp 116) 2))),(sc (ib (tp 113) 2)),3,[],.none,.none,.none,(.str "fivefields.books" 1286),none,(r 1060),.none,0⟩),#[]⟩
def aLT:Obj:=tu [(.str "self" 1611)]
def aGV:Obj:=⟨.none,none,(.func ⟨"depth","Turned.depth",(ag (ib (tp 116) 3)),(.stmts (bd (ib (tp 116) 3))),(sc (ib (tp 113) 3)),0,[],.none,.none,.none,.none,none,.none,.none,0⟩),#[]⟩
def aLQ:Obj:=co [(.str "depth" 1608),(.str "Turned.depth" 1609),(sf 1610),(i 543),(i 1),(i 0),(i 0),(i 3),(r 1062),(.bool true),(i 181),(r 1063),.none,(r 1064),(r 1065),(r 1066),(i 1612),(i 543),(sf 1613)]
def aK8:Obj:=⟨(.type "function"),none,(.func ⟨"depth","Turned.depth",(ag (ib (tp 116) 3)),(.stmts (bd (ib (tp 116) 3))),(sc (ib (tp 113) 3)),3,[],.none,.none,.none,(.str "fivefields.books" 1286),none,(r 1067),.none,0⟩),#[]⟩
def aKS:Obj:=tu [(.str "self" 1618),(.str "kind" 1619)]
def aIA:Obj:=⟨.none,none,(.func ⟨"on_days","Turned.on_days",(ag (ib (tp 116) 4)),(.stmts (bd (ib (tp 116) 4))),(sc (ib (tp 99) 6)),0,[],.none,.none,.none,.none,none,.none,.none,0⟩),#[]⟩
def aHW:Obj:=co [(.str "on_days" 1615),(.str "Turned.on_days" 1616),(sf 1617),(i 546),(i 2),(i 0),(i 0),(i 3),(r 1069),(.bool true),(i 181),(r 1070),.none,(r 1071),(r 1072),(r 1073),(i 1620),(i 546),(sf 1621)]
def aFJ:Obj:=⟨(.type "function"),none,(.func ⟨"on_days","Turned.on_days",(ag (ib (tp 116) 4)),(.stmts (bd (ib (tp 116) 4))),(sc (ib (tp 99) 6)),3,[],.none,.none,.none,(.str "fivefields.books" 1286),none,(r 1074),.none,0⟩),#[]⟩
def aHD:Obj:=tu [(.str "one" 1623)]
def aHU(P:Params):Obj:=di [(de P "__module__" 1580 (.str "fivefields.books" 1286)),(de P "__firstlineno__" 1584 (.int 531 1583)),(de P "__init__" 1592 (r 1047)),(de P "holds" 1600 (r 1054)),(de P "tally" 1607 (r 1061)),(de P "depth" 1614 (r 1068)),(de P "on_days" 1622 (r 1075)),(de P "__static_attributes__" 1624 (r 1076)),(de P "__doc__" 1625 .none)] 2
def aKA:Obj:=⟨(.type "type"),none,(.cls ⟨"Turned",[(r 847)],[(r 1078),(r 847),(.type "object")],1077,"Turned",true,[],[],false,none,false⟩),#[(some (r 1034)),none,(some (.str "Turned" 1573)),(some (.str "Turned" 1581)),(some (.builtin "object.__new__")),(some (.bool true))]⟩
def aHE:Obj:=⟨(.type "super"),none,(.fields #[(r 1078),(r 1078),(r 1078)]),#[]⟩
def aFG:Obj:=⟨(.type "builtin_function_or_method"),none,(.fields #[(.builtin "object.__init_subclass__"),(r 1078)]),#[]⟩
def aFE:Obj:=tu [(.str "_law_script" 1633),(.str "_law_k" 1634)]
def aG0:Obj:=fz "_law_cell_at" "_law_cell_at" (tp 118)
def aKC:Obj:=co [(.str "_law_cell_at" 1630),(.str "_law_cell_at" 1631),(sf 1632),(i 549),(i 2),(i 0),(i 0),(i 3),(r 1081),(.bool true),(i 181),(r 1082),.none,(r 1083),(r 1084),(r 1085),(i 1635),(i 549),(sf 1636)]
def aGA:Obj:=fn "_law_cell_at" "_law_cell_at" (tp 118) 3 [] .none .none .none (.str "law_fivefields_k62_books_refused" 1628) none (r 1086) .none 0
def aJF:Obj:=tu [(.str "_law_number" 1641),(.str "_law_first" 1642),(.str "_law_second" 1643)]
def aH7:Obj:=fz "_law_stir" "_law_stir" (tp 119)
def aJR:Obj:=co [(.str "_law_stir" 1638),(.str "_law_stir" 1639),(sf 1640),(i 553),(i 1),(i 0),(i 0),(i 3),(r 1088),(.bool true),(i 181),(r 1089),.none,(r 1090),(r 1091),(r 1092),(i 1644),(i 553),(sf 1645)]
def aIB:Obj:=fn "_law_stir" "_law_stir" (tp 119) 3 [] .none .none .none (.str "law_fivefields_k62_books_refused" 1628) none (r 1093) .none 0
def aKQ:Obj:=tu [(.str "_law_cell" 1650),(.str "_law_sizes" 1651),(.str "_law_mixed" 1652),(.str "_law_found" 1653),(.str "_law_size" 1654)]
def aKM:Obj:=fz "_law_digits" "_law_digits" (tp 120)
def aFC:Obj:=co [(.str "_law_digits" 1647),(.str "_law_digits" 1648),(sf 1649),(i 557),(i 3),(i 0),(i 0),(i 3),(r 1095),(.bool true),(i 181),(r 1096),.none,(r 1097),(r 1098),(r 1099),(i 1655),(i 557),(sf 1656)]
def aKL:Obj:=fn "_law_digits" "_law_digits" (tp 120) 3 [] .none .none .none (.str "law_fivefields_k62_books_refused" 1628) none (r 1100) .none 0
def aHZ:Obj:=tu [(.str "_law_word" 1661),(.str "_law_thing" 1662),(.str "_law_other" 1663)]
def aHO:Obj:=fz "_law_made" "_law_made" (tp 121)
def aH5:Obj:=co [(.str "_law_made" 1658),(.str "_law_made" 1659),(sf 1660),(i 568),(i 3),(i 0),(i 0),(i 3),(r 1102),(.bool true),(i 181),(r 1103),.none,(r 1104),(r 1105),(r 1106),(i 1664),(i 568),(sf 1665)]
def aLZ:Obj:=fn "_law_made" "_law_made" (tp 121) 3 [] .none .none .none (.str "law_fivefields_k62_books_refused" 1628) none (r 1107) .none 0
def aJK:Obj:=tu [(.str "_law_word" 1670),(.str "_law_thing" 1671),(.str "_law_other" 1672),(.str "e" 1673)]
def aHS:Obj:=fz "_law_refused" "_law_refused" (tp 122)
def aGP:Obj:=co [(.str "_law_refused" 1667),(.str "_law_refused" 1668),(sf 1669),(i 578),(i 3),(i 0),(i 0),(i 3),(r 1109),(.bool true),(i 181),(r 1110),.none,(r 1111),(r 1112),(r 1113),(i 1674),(i 578),(sf 1675)]
def aJ4:Obj:=fn "_law_refused" "_law_refused" (tp 122) 3 [] .none .none .none (.str "law_fivefields_k62_books_refused" 1628) none (r 1114) .none 0
def aHJ:Obj:=tu [(.str "_law_way" 1680),(.str "_law_row" 1681)]
def aG9:Obj:=fz "_law_odd" "_law_odd" (tp 123)
def aJQ:Obj:=co [(.str "_law_odd" 1677),(.str "_law_odd" 1678),(sf 1679),(i 586),(i 1),(i 0),(i 0),(i 3),(r 1116),(.bool true),(i 181),(r 1117),.none,(r 1118),(r 1119),(r 1120),(i 1682),(i 586),(sf 1683)]
def aH2:Obj:=fn "_law_odd" "_law_odd" (tp 123) 3 [] .none .none .none (.str "law_fivefields_k62_books_refused" 1628) none (r 1121) .none 0
def t5(P:Params):BT:=(nd (boot_o_0 P) (nd (boot_o_1 P) (nd (o537 P) (nd (boot_o_7 P) (nd o0 (nd o90 (nd o36 (nd o78 (nd o1 (nd avT (lf o1) .nil) (lf o0)) (nd asM (lf ayZ) (lf aIM))) (nd o0 (nd o0 (nd auV (lf aGA) .nil) (lf o0)) (nd o1 (lf aDC) (lf aJL)))) (nd o59 (nd apH (nd ap8 (nd auY (lf o0) .nil) (lf aBH)) (nd o0 (lf aDE) (lf aI6))) (nd arG (nd aoZ (nd o0 (lf o0) .nil) (lf aCH)) (nd o0 (lf o0) (lf aKX))))) (nd o20 (nd o11 (nd o0 (nd aoP (nd (ayG P) (lf aLF) .nil) (lf aBI)) (nd (aoN P) (lf aAK) (lf o0))) (nd o0 (nd o0 (nd auB (lf o1) .nil) (lf aIQ)) (nd o0 (lf o1) (lf o0)))) (nd (o68 P) (nd o1 (nd aqI (nd at4 (lf aKS) .nil) (lf aEJ)) (nd au6 (lf ay9) (lf o11))) (nd aqD (nd asV (lf aB7) (lf o1)) (nd axD (lf aC1) (lf aKZ)))))) (nd o11 (nd o1 (nd o41 (nd o83 (nd arX (nd o0 (lf aHP) .nil) (lf (aBA P))) (nd o0 (lf o0) (lf aLK))) (nd apP (nd apA (nd avS (lf o0) .nil) (lf o1)) (nd at7 (lf o0) (lf aJJ)))) (nd o63 (nd o0 (nd asW (nd au8 (lf o1) .nil) (lf aD6)) (nd atP (lf aCN) (lf aHY))) (nd asE (nd o0 (lf aEA) (lf o0)) (nd o1 (lf aAJ) (lf aJ6))))) (nd (o31 P) (nd o52 (nd o97 (nd ap2 (nd au9 (lf aFQ) .nil) (lf o0)) (nd (avM P) (lf az4) (lf o0))) (nd o1 (nd o1 (nd (aEC P) (lf aJK) .nil) (lf az0)) (nd awP (lf aBY) (lf (aL2 P))))) (nd o73 (nd atB (nd aoL (nd o0 (lf aHE) .nil) (lf aBS)) (nd o11 (lf aDH) (lf aK7))) (nd o0 (nd ar1 (lf o1) (lf aG8)) (nd auI (lf aAN) (lf o0))))))) (nd o0 (nd o7 (nd o20 (nd o1 (nd o0 (nd as9 (nd o0 (lf aI2) .nil) (lf aAR)) (nd o0 (lf ayT) (lf (aKE P)))) (nd o0 (nd o0 (nd o1 (lf o0) .nil) (lf aCX)) (nd auC (lf o0) (lf aG1)))) (nd (o61 P) (nd o0 (nd aoS (nd awV (lf aLB) .nil) (lf aA3)) (nd o0 (lf o0) (lf o1))) (nd o1 (nd asN (lf o0) (lf o0)) (nd au7 (lf o0) (lf o1))))) (nd o1 (nd o50 (nd o0 (nd aoT (nd abC (lf aHR) .nil) (lf aEI)) (nd as3 (lf o1) (lf aHF))) (nd asC (nd asT (nd atG (lf aH5) .nil) (lf aAH)) (nd axY (lf aDS) (lf aIW)))) (nd o70 (nd aqP (nd ap5 (nd awQ (lf aFJ) .nil) (lf aCA)) (nd atL (lf o1) (lf aFH))) (nd o0 (nd o1 (lf ay2) (lf aHK)) (nd avA (lf aBX) (lf o0)))))) (nd o13 (nd (o24 P) (nd o45 (nd o87 (nd aoY (nd avH (lf o11) .nil) (lf aCF)) (nd ar7 (lf o0) (lf o0))) (nd o0 (nd o0 (nd ax6 (lf aKM) .nil) (lf aBU)) (nd auN (lf azB) (lf o0)))) (nd o66 (nd apQ (nd aqR (nd o0 (lf aLQ) .nil) (lf o11)) (nd o1 (lf o0) (lf aJD))) (nd asI (nd o0 (lf o1) (lf aJH)) (nd axF (lf o1) (lf aJV))))) (nd o20 (nd o55 (nd o0 (nd aq3 (nd o1 (lf o0) .nil) (lf o0)) (nd auU (lf aDD) (lf o0))) (nd arJ (nd aoF (nd azK (lf aJ4) .nil) (lf aB9)) (nd o0 (lf aB2) (lf aeM)))) (nd (o75 P) (nd aoQ (nd arZ (nd o0 (lf aFE) .nil) (lf o0)) (nd ax5 (lf (azH P)) (lf aI4))) (nd ao7 (nd (aqT P) (lf aDF) (lf aKO)) (nd (ax3 P) (lf o0) (lf aJC)))))))) (nd (boot_o_5 P) (nd (boot_o_9 P) (nd o6 (nd o18 (nd o38 (nd o1 (nd o0 (nd o1 (lf o0) .nil) (lf ayY)) (nd o1 (lf aCR) (lf aeM))) (nd aqY (nd aoH (nd ayJ (lf o1) .nil) (lf az7)) (nd o0 (lf o1) (lf o0)))) (nd o20 (nd o1 (nd arT (nd o0 (lf aFV) .nil) (lf o1)) (nd atW (lf o1) (lf aII))) (nd aqH (nd aq2 (nd ayS (lf aJQ) .nil) (lf o11)) (nd at8 (lf ayV) (lf aLV))))) (nd (o28 P) (nd o0 (nd o92 (nd o0 (nd ayR (lf o0) .nil) (lf aC7)) (nd as8 (lf aBV) (lf aH4))) (nd aqW (nd apR (nd (avE P) (lf o0) .nil) (lf aCP)) (nd avK (lf o0) (lf aGS)))) (nd o1 (nd o0 (nd o1 (nd axX (lf aIA) .nil) (lf o0)) (nd awW (lf aDK) (lf o0))) (nd o1 (nd apV (lf azF) (lf o0)) (nd awK (lf o0) (lf o1)))))) (nd o0 (nd o23 (nd o43 (nd o85 (nd ar9 (nd aw5 (lf aIE) .nil) (lf aER)) (nd apJ (lf azJ) (lf o1))) (nd o1 (nd o1 (nd o0 (lf aKQ) .nil) (lf o0)) (nd auM (lf aAA) (lf o1)))) (nd (o64 P) (nd atC (nd o0 (nd o1 (lf o0) .nil) (lf aD9)) (nd awO (lf aC9) (lf aJA))) (nd o0 (nd apD (lf aCC) (lf aJ3)) (nd o0 (lf azI) (lf o0))))) (nd o33 (nd o53 (nd o1 (nd o1 (nd ax7 (lf o1) .nil) (lf aAE)) (nd avJ (lf o0) (lf aHV))) (nd o0 (nd o0 (nd aEO (lf aHS) .nil) (lf o0)) (nd o11 (lf ay6) (lf aJE)))) (nd o20 (nd arY (nd asG (nd avL (lf o0) .nil) (lf o1)) (nd o0 (lf o0) (lf aGK))) (nd apO (nd o0 (lf o0) (lf aJM)) (nd abC (lf o1) (lf aKU))))))) (nd o2 (nd o9 (nd (o21 P) (nd o0 (nd o81 (nd o0 (nd ayO (lf aHC) .nil) (lf azV)) (nd asB (lf o1) (lf aIK))) (nd ar5 (nd arU (nd o0 (lf aJR) .nil) (lf aDX)) (nd o0 (lf ay5) (lf aLY)))) (nd o1 (nd asD (nd o1 (nd ax1 (lf aG3) .nil) (lf o0)) (nd avG (lf aBN) (lf o0))) (nd o0 (nd o1 (lf aEE) (lf aJU)) (nd at1 (lf azQ) (lf o0))))) (nd o30 (nd o0 (nd o95 (nd asU (nd (axA P) (lf aJ2) .nil) (lf o1)) (nd abC (lf o0) (lf o1))) (nd arB (nd aqJ (nd abC (lf o0) .nil) (lf o1)) (nd auR (lf o0) (lf aI3)))) (nd (o71 P) (nd o0 (nd o0 (nd o11 (lf (aHU P)) .nil) (lf aBM)) (nd avO (lf o0) (lf o0))) (nd arO (nd o0 (lf azT) (lf o0)) (nd (avW P) (lf azY) (lf aJW)))))) (nd o0 (nd o26 (nd o47 (nd o11 (nd o1 (nd at9 (lf o0) .nil) (lf o0)) (nd aqO (lf aBF) (lf aLE))) (nd asJ (nd asP (nd av6 (lf aKL) .nil) (lf o0)) (nd o1 (lf azO) (lf aGB)))) (nd o20 (nd ao3 (nd as2 (nd atU (lf o0) .nil) (lf o0)) (nd o0 (lf aDI) (lf aJ1))) (nd aqC (nd asA (lf o0) (lf aFI)) (nd o0 (lf o0) (lf aG5))))) (nd (o35 P) (nd (o57 P) (nd arS (nd o0 (nd o0 (lf aGM) .nil) (lf azZ)) (nd o1 (lf aAD) (lf aKY))) (nd o0 (nd o0 (nd o1 (lf o1) .nil) (lf aBG)) (nd auX (lf o1) (lf (aIP P))))) (nd o76 (nd o1 (nd o1 (nd axK (lf aG0) .nil) (lf aAB)) (nd auO (lf aCK) (lf o1))) (nd ap3 (nd apU (lf o0) (lf (aFX P))) (nd av0 (lf aCY) (lf aI1))))))))) (nd (boot_o_2 P) (nd (boot_o_4 P) (nd (boot_o_8 P) (nd o1 (nd o17 (nd o37 (nd o0 (nd as6 (nd o0 (lf aJT) .nil) (lf o1)) (nd o0 (lf o0) (lf aJ0))) (nd aq1 (nd aqA (nd aw3 (lf o0) .nil) (lf o1)) (nd auL (lf o0) (lf aGC)))) (nd o60 (nd o0 (nd o0 (nd aw4 (lf o1) .nil) (lf o0)) (nd auE (lf o0) (lf aLM))) (nd aoG (nd o0 (nd aCJ (lf aG9) .nil) (lf aeM)) (nd o1 (lf ay0) (lf aIF))))) (nd o11 (nd (o48 P) (nd o1 (nd asH (nd at0 (lf aHQ) .nil) (lf o0)) (nd az3 (lf aDA) (lf o1))) (nd o1 (nd o1 (nd ayC (lf aHZ) .nil) (lf aBC)) (nd avV (lf aDY) (lf o1)))) (nd o0 (nd aqS (nd o0 (nd (ayI P) (lf o0) .nil) (lf aEG)) (nd axG (lf aDR) (lf (aIH P)))) (nd o0 (nd arA (lf aBK) (lf aK9)) (nd o0 (lf azX) (lf o0)))))) (nd (o12 P) (nd o22 (nd o42 (nd (o84 P) (nd o0 (nd o1 (lf aF1) .nil) (lf azG)) (nd o1 (lf aBD) (lf o0))) (nd o0 (nd o0 (nd awN (lf o1) .nil) (lf aA7)) (nd o0 (lf o1) (lf o0)))) (nd o0 (nd o1 (nd aoR (nd o0 (lf aLT) .nil) (lf aDU)) (nd atN (lf aDJ) (lf aLR))) (nd aqU (nd aq0 (lf aCB) (lf o1)) (nd avC (lf ayW) (lf aHG))))) (nd o32 (nd o0 (nd o0 (nd o0 (nd awJ (lf o0) .nil) (lf aAI)) (nd o0 (lf aEN) (lf aF4))) (nd apF (nd aq4 (nd o0 (lf o0) .nil) (lf aCS)) (nd abC (lf o0) (lf aFD)))) (nd o74 (nd o0 (nd o0 (nd awT (lf aFG) .nil) (lf o0)) (nd (atT P) (lf aAZ) (lf o0))) (nd o1 (nd apK (lf aA4) (lf o0)) (nd atJ (lf o0) (lf o1))))))) (nd o538 (nd o8 (nd o11 (nd o39 (nd o80 (nd apZ (nd avF (lf aG7) .nil) (lf aB1)) (nd aoI (lf o0) (lf o0))) (nd o1 (nd o1 (nd ayB (lf aH7) .nil) (lf aA9)) (nd aw2 (lf aC2) (lf o0)))) (nd o0 (nd aoW (nd o0 (nd o0 (lf aIX) .nil) (lf ay7)) (nd o1 (lf aD8) (lf aI0))) (nd ar3 (nd o0 (lf o1) (lf aJG)) (nd aw8 (lf o1) (lf aGT))))) (nd o29 (nd o51 (nd (o94 P) (nd o0 (nd o11 (lf o0) .nil) (lf o0)) (nd ap1 (lf aEF) (lf o0))) (nd apL (nd ao5 (nd axZ (lf aLZ) .nil) (lf o0)) (nd (atY P) (lf aAV) (lf aLI)))) (nd o0 (nd ar6 (nd arM (nd abC (lf aHD) .nil) (lf o0)) (nd avQ (lf aBE) (lf aJ5))) (nd aq8 (nd arL (lf aBT) (lf aGG)) (nd ayD (lf o0) (lf aHI)))))) (nd o14 (nd o25 (nd o46 (nd o20 (nd o0 (nd awC (lf (aJS P)) .nil) (lf aAT)) (nd apB (lf o1) (lf aHL))) (nd ar8 (nd apM (nd o0 (lf aFC) .nil) (lf aAU)) (nd o0 (lf az9) (lf aGN)))) (nd o67 (nd atD (nd o0 (nd auJ (lf aK8) .nil) (lf (aDL P))) (nd auD (lf o1) (lf aKI))) (nd o0 (nd o1 (lf aDQ) (lf aIJ)) (nd ayP (lf azA) (lf o0))))) (nd o11 (nd o56 (nd o99 (nd apI (nd axN (lf aLX) .nil) (lf o1)) (nd o0 (lf o0) (lf o1))) (nd aoO (nd ao1 (nd o0 (lf o0) .nil) (lf o0)) (nd auZ (lf o0) (lf o11)))) (nd o0 (nd o0 (nd o0 (nd o1 (lf o0) .nil) (lf az8)) (nd atM (lf o0) (lf o0))) (nd arP (nd o0 (lf azC) (lf aG6)) (nd o0 (lf aA0) (lf aFU)))))))) (nd (boot_o_6 P) (nd (boot_o_10 P) (nd o0 (nd o19 (nd o0 (nd o79 (nd asK (nd axW (lf aLW) .nil) (lf o0)) (nd aq6 (lf aCG) (lf o11))) (nd asY (nd ar2 (nd o0 (lf aJF) .nil) (lf o0)) (nd aw7 (lf aES) (lf o1)))) (nd o11 (nd asX (nd asQ (nd o1 (lf o0) .nil) (lf ayU)) (nd auS (lf aCE) (lf o0))) (nd o0 (nd aq5 (nd aBQ (lf aH2) .nil) (lf (aI5 P))) (nd o0 (lf aDT) (lf o0))))) (nd o0 (nd o49 (nd o93 (nd o1 (nd atF (lf o1) .nil) (lf aEH)) (nd aoJ (lf o0) (lf aIL))) (nd o0 (nd o0 (nd awZ (lf aHO) .nil) (lf ayX)) (nd avX (lf aAX) (lf o0)))) (nd o69 (nd aqL (nd aoX (nd auF (lf aHW) .nil) (lf o1)) (nd (avD P) (lf o0) (lf aFW))) (nd asS (nd o0 (lf (aAL P)) (lf aF3)) (nd avU (lf o1) (lf aKH)))))) (nd o1 (nd o0 (nd (o44 P) (nd o86 (nd arI (nd o0 (lf aeM) .nil) (lf aBJ)) (nd o0 (lf azD) (lf aFK))) (nd arK (nd apX (nd o1 (lf o0) .nil) (lf aCW)) (nd ax8 (lf o0) (lf aI7)))) (nd o65 (nd o0 (nd o1 (nd ax2 (lf aGV) .nil) (lf o0)) (nd o0 (lf aBZ) (lf (aKF P)))) (nd o1 (nd apY (lf o0) (lf o0)) (nd av3 (lf o0) (lf o1))))) (nd o34 (nd o54 (nd o98 (nd arE (nd o0 (lf aID) .nil) (lf ay4)) (nd awE (lf o1) (lf aH0))) (nd aqB (nd apE (nd azE (lf aGP) .nil) (lf o1)) (nd (axI P) (lf aCZ) (lf aGL)))) (nd o11 (nd asF (nd apC (nd aw0 (lf o1) .nil) (lf aBB)) (nd auH (lf o11) (lf aLC))) (nd o0 (nd o11 (lf aBO) (lf aJP)) (nd o11 (lf aB4) (lf o0))))))) (nd o3 (nd o10 (nd o0 (nd o40 (nd o82 (nd o1 (nd axH (lf (aHA P)) .nil) (lf azU)) (nd ar4 (lf ay8) (lf aHN))) (nd aqN (nd arQ (nd avR (lf aIB) .nil) (lf o0)) (nd o1 (lf aAM) (lf aK0)))) (nd o62 (nd arR (nd atA (nd av4 (lf o0) .nil) (lf o1)) (nd o0 (lf aCU) (lf aIN))) (nd aoM (nd ap7 (lf o0) (lf aGE)) (nd o0 (lf o0) (lf aL4))))) (nd o0 (nd o1 (nd o96 (nd aqQ (nd o0 (lf aGQ) .nil) (lf aC8)) (nd o11 (lf aEB) (lf aKD))) (nd o0 (nd o0 (nd o11 (lf o1) .nil) (lf aBL)) (nd awD (lf o1) (lf aLG)))) (nd o72 (nd o1 (nd o1 (nd (au0 P) (lf aKA) .nil) (lf azM)) (nd abC (lf aB0) (lf o1))) (nd aq9 (nd asR (lf o0) (lf o1)) (nd awA (lf aA5) (lf aG4)))))) (nd (o15 P) (nd o27 (nd o20 (nd (o91 P) (nd apS (nd o0 (lf aJX) .nil) (lf o1)) (nd o0 (lf o0) (lf aL3))) (nd ao0 (nd apG (nd au4 (lf o0) .nil) (lf (aA1 P))) (nd av7 (lf o0) (lf aFS)))) (nd o11 (nd o0 (nd ao4 (nd axC (lf o1) .nil) (lf aD3)) (nd ayH (lf o0) (lf aeM))) (nd atE (nd o0 (lf aDG) (lf o0)) (nd o1 (lf aCL) (lf aH8))))) (nd o0 (nd o58 (nd ar0 (nd o1 (nd awL (lf aLS) .nil) (lf aAF)) (nd awB (lf aB8) (lf o0))) (nd o1 (nd o1 (nd aCI (lf aHJ) .nil) (lf aD0)) (nd auQ (lf aD1) (lf o0)))) (nd o77 (nd apN (nd aqM (nd o0 (lf aKC) .nil) (lf aDV)) (nd o0 (lf aC5) (lf aFZ))) (nd o0 (nd as4 (lf o1) (lf aGI)) (nd auW (lf aCD) (lf o0))))))))))
def s5(w:World)(os:OsState):SharedT:=⟨t5 w.params,1123,⟨[],[],[],0,[],[],false,#[],[],0,false,false,false,0,[2000,10,10],false,0,true,[],[],0,false⟩,#[],⟨0,0,0,0⟩,1685,os⟩
def l4:List Stmt:=(bi.drop 112).take 12
theorem r4(w:World)(os:OsState):
  segRunT treeTable pw w 11 an 1 1984 (s4 w os) (piecesOf l4 ev cd ⟨465,0,468,25⟩ bk) =
  some (.next,s5 w os,cd,⟨586,0,588,106⟩):=by kernel_rfl
def aM8(P:Params):Obj:=di [(de P "__name__" 165 (.str "law_fivefields_k62_books_refused" 1628)),(de P "__doc__" 166 .none),(de P "__package__" 167 .none),(de P "__loader__" 168 (.builtin "__main__.__loader__#opaque")),(de P "__spec__" 169 .none),(de P "__annotations__" 170 (r 6)),(de P "__builtins__" 171 (r 4)),(de P "__file__" 173 (sf 172)),(de P "__cached__" 174 .none),(de P "_wall" 193 (r 21)),(de P "FieldError" 213 (r 31)),(de P "NoDay" 229 (r 44)),(de P "NoMoment" 245 (r 56)),(de P "NoField" 270 (r 75)),(de P "NoRow" 295 (r 94)),(de P "NoBook" 311 (r 106)),(de P "NoClock" 327 (r 118)),(de P "NoName" 352 (r 137)),(de P "NoWord" 368 (r 149)),(de P "is_whole" 377 (r 158)),(de P "MONTH_LASTS" 392 (r 159)),(de P "ROUND_YEARS" 394 (.int 400 393)),(de P "ROUND_DAYS" 396 (.int 146097 395)),(de P "is_long" 403 (r 166)),(de P "multiples_before" 411 (r 173)),(de P "days_before" 419 (r 180)),(de P "last_of" 427 (r 187)),(de P "is_date" 436 (r 194)),(de P "day_of" 442 (r 199)),(de P "year_of" 450 (r 206)),(de P "date_of" 460 (r 213)),(de P "weekday" 467 (r 220)),(de P "FIGURES" 471 (.str "0123456789" 470)),(de P "all_figures" 477 (r 225)),(de P "is_written" 484 (r 232)),(de P "DAY_MINUTES" 488 (.int 1440 487)),(de P "HOUR_MINUTES" 490 (.int 60 489)),(de P "parted" 498 (r 239)),(de P "LONG_PLACE" 502 (.int 12 501)),(de P "LONG_LAST" 504 (.int 29 503)),(de P "SHORT_YEAR" 506 (.int 1 505)),(de P "kind_from" 516 (r 246)),(de P "kind_of" 524 (r 253)),(de P "month_at" 533 (r 260)),(de P "has" 543 (r 267)),(de P "starts_of" 549 (r 272)),(de P "end_from" 558 (r 279)),(de P "ranges_of" 564 (r 284)),(de P "shown_range" 572 (r 291)),(de P "shown_ranges" 578 (r 296)),(de P "MOST_SIGNS" 582 (.int 300 581)),(de P "MOST_ITEMS" 584 (.int 40 583)),(de P "MOST_STRIDE" 586 (.int 99 585)),(de P "mask_of" 595 (r 303)),(de P "numbers_in" 601 (r 308)),(de P "run_mask" 610 (r 315)),(de P "read_number" 620 (r 322)),(de P "read_run" 626 (r 327)),(de P "read_strided" 639 (r 334)),(de P "read_item" 650 (r 341)),(de P "read_field" 664 (r 348)),(de P "MOST_MARKS" 668 (.int 20 667)),(de P "MOST_DAY" 670 (.int 31 669)),(de P "MOST_BACK" 672 (.int 30 671)),(de P "MOST_NTH" 674 (.int 5 673)),(de P "SUNDAY" 676 (.int 0 675)),(de P "SATURDAY" 678 (.int 6 677)),(de P "SUNDAY_TOO" 680 (.int 7 679)),(de P "ALL_WEEKDAYS" 682 (.int 127 681)),(de P "weekday_at" 690 (r 355)),(de P "all_days" 697 (r 362)),(de P "nearest_work" 707 (r 369)),(de P "first_one" 715 (r 376)),(de P "Mark" 751 (r 400)),(de P "Numbers" 792 (r 435)),(de P "Last" 834 (r 469)),(de P "Near" 875 (r 502)),(de P "LastWork" 907 (r 528)),(de P "Weekdays" 950 (r 561)),(de P "Nth" 994 (r 594)),(de P "LastOne" 1035 (r 627)),(de P "any_days" 1046 (r 636)),(de P "read_day_mark" 1055 (r 643)),(de P "read_weekday" 1063 (r 650)),(de P "read_weekday_mark" 1073 (r 657)),(de P "read_items" 1090 (r 664)),(de P "read_days" 1098 (r 671)),(de P "read_weekdays" 1107 (r 678)),(de P "MOST_ROW_SIGNS" 1111 (.int 1600 1110)),(de P "MINUTE" 1113 (.int 0 1112)),(de P "HOUR" 1115 (.int 1 1114)),(de P "DAY" 1117 (.int 2 1116)),(de P "MONTH" 1119 (.int 3 1118)),(de P "WEEKDAY" 1121 (.int 4 1120)),(de P "NO_PLACE" 1123 (.int 5 1122)),(de P "BOUNDS" 1136 (r 679)),(de P "times_of" 1146 (r 689)),(de P "days_by" 1158 (r 696)),(de P "Row" 1262 (r 776)),(de P "read_word" 1271 (r 787)),(de P "read_at" 1279 (r 794)),(de P "read_row" 1285 (r 799)),(de P "MOST_BOOKS" 1289 (.int 8 1288)),(de P "MOST_TALLY" 1291 (.int 24 1290)),(de P "MOST_DEPTH" 1293 (.int 5 1292)),(de P "tally_of" 1299 (r 804)),(de P "depth_of" 1305 (r 809)),(de P "Book" 1355 (r 847)),(de P "checked" 1361 (r 856)),(de P "checked_list" 1368 (r 863)),(de P "Of" 1409 (r 894)),(de P "Joined" 1462 (r 939)),(de P "Met" 1515 (r 984)),(de P "Less" 1572 (r 1031)),(de P "Turned" 1627 (r 1078)),(de P "_law_cell_at" 1637 (r 1087)),(de P "_law_stir" 1646 (r 1094)),(de P "_law_digits" 1657 (r 1101)),(de P "_law_made" 1666 (r 1108)),(de P "_law_refused" 1676 (r 1115)),(de P "_law_odd" 1684 (r 1122)),(de P "_law_bad_list" 1695 (r 1129)),(de P "_law_deep" 1705 (r 1136)),(de P "_law_wide" 1714 (r 1143)),(de P "_law_sizes_are" 1723 (r 1150)),(de P "_law_deep_edges" 1733 (r 1157)),(de P "_law_wide_edges" 1742 (r 1164)),(de P "_law_twice" 1750 (r 1171)),(de P "law" 1756 (r 1176))] 129
def aNN:Obj:=fd [(i 1),(i 0),(r 20),(i 5),(i 0),(r 27),(i 7),(i 0),(r 40),(i 9),(i 0),(r 52),(i 11),(i 0),(r 64),(i 15),(i 0),(r 83),(i 19),(i 0),(r 102),(i 21),(i 0),(r 114),(i 23),(i 0),(r 126),(i 27),(i 0),(r 145),(i 30),(i 0),(r 157),(i 36),(i 0),(r 165),(i 38),(i 0),(r 172),(i 40),(i 0),(r 179),(i 43),(i 0),(r 186),(i 47),(i 0),(r 193),(i 51),(i 0),(r 198),(i 56),(i 0),(r 205),(i 61),(i 0),(r 212),(i 69),(i 0),(r 219),(i 73),(i 0),(r 224),(i 75),(i 0),(r 231),(i 80),(i 0),(r 238),(i 87),(i 0),(r 245),(i 90),(i 0),(r 252),(i 92),(i 0),(r 259),(i 99),(i 0),(r 266),(i 101),(i 0),(r 271),(i 104),(i 0),(r 278),(i 109),(i 0),(r 283),(i 111),(i 0),(r 290),(i 115),(i 0),(r 295),(i 121),(i 0),(r 302),(i 126),(i 0),(r 307),(i 128),(i 0),(r 314),(i 130),(i 0),(r 321),(i 137),(i 0),(r 326),(i 144),(i 0),(r 333),(i 151),(i 0),(r 340),(i 159),(i 0),(r 347),(i 181),(i 0),(r 354),(i 183),(i 0),(r 361),(i 185),(i 0),(r 368),(i 192),(i 0),(r 375),(i 194),(i 0),(r 382),(i 201),(i 0),(r 410),(i 211),(i 0),(r 443),(i 225),(i 0),(r 477),(i 237),(i 0),(r 510),(i 244),(i 0),(r 536),(i 257),(i 0),(r 569),(i 271),(i 0),(r 602),(i 281),(i 0),(r 635),(i 286),(i 0),(r 642),(i 298),(i 0),(r 649),(i 301),(i 0),(r 656),(i 313),(i 0),(r 663),(i 331),(i 0),(r 670),(i 338),(i 0),(r 677),(i 355),(i 0),(r 688),(i 360),(i 0),(r 695),(i 368),(i 0),(r 702),(i 417),(i 0),(r 786),(i 424),(i 0),(r 793),(i 429),(i 0),(r 798),(i 440),(i 0),(r 803),(i 442),(i 0),(r 808),(i 444),(i 0),(r 815),(i 457),(i 0),(r 855),(i 465),(i 0),(r 862),(i 469),(i 0),(r 869),(i 481),(i 0),(r 902),(i 497),(i 0),(r 947),(i 513),(i 0),(r 992),(i 531),(i 0),(r 1039),(i 549),(i 0),(r 1086),(i 553),(i 0),(r 1093),(i 557),(i 0),(r 1100),(i 568),(i 0),(r 1107),(i 578),(i 0),(r 1114),(i 586),(i 0),(r 1121),(i 589),(i 0),(r 1128),(i 596),(i 0),(r 1135),(i 608),(i 0),(r 1142),(i 617),(i 0),(r 1149),(i 619),(i 0),(r 1156),(i 630),(i 0),(r 1163),(i 641),(i 0),(r 1170),(i 647),(i 0),(r 1175)]
def aMY:Obj:=tu [(.str "_law_way" 1688),(.str "_law_at" 1689),(.str "_law_odd_here" 1690),(.str "_law_some" 1691),(.str "_law_place" 1692)]
def aO1:Obj:=fz "_law_bad_list" "_law_bad_list" (tp 124)
def aMU:Obj:=co [(.str "_law_bad_list" 1685),(.str "_law_bad_list" 1686),(sf 1687),(i 589),(i 4),(i 0),(i 0),(i 3),(r 1123),(.bool true),(i 181),(r 1124),.none,(r 1125),(r 1126),(r 1127),(i 1693),(i 589),(sf 1694)]
def aMA:Obj:=fn "_law_bad_list" "_law_bad_list" (tp 124) 3 [] .none .none .none (.str "law_fivefields_k62_books_refused" 1628) none (r 1128) .none 0
def aM6:Obj:=tu [(.str "_law_ways" 1699),(.str "_law_many" 1700),(.str "_law_book" 1701),(.str "_law_way" 1702)]
def aMR:Obj:=fz "_law_deep" "_law_deep" (tp 125)
def aMJ:Obj:=co [(.str "_law_deep" 1696),(.str "_law_deep" 1697),(sf 1698),(i 596),(i 2),(i 0),(i 0),(i 3),(r 1130),(.bool true),(i 181),(r 1131),.none,(r 1132),(r 1133),(r 1134),(i 1703),(i 596),(sf 1704)]
def aM4:Obj:=fn "_law_deep" "_law_deep" (tp 125) 3 [] .none .none .none (.str "law_fivefields_k62_books_refused" 1628) none (r 1135) .none 0
def aNQ:Obj:=tu [(.str "_law_many" 1709),(.str "_law_some" 1710),(.str "_law_left" 1711)]
def aOW:Obj:=fz "_law_wide" "_law_wide" (tp 126)
def aNY:Obj:=co [(.str "_law_wide" 1706),(.str "_law_wide" 1707),(sf 1708),(i 608),(i 1),(i 0),(i 0),(i 3),(r 1137),(.bool true),(i 181),(r 1138),.none,(r 1139),(r 1140),(r 1141),(i 1712),(i 608),(sf 1713)]
def aMT:Obj:=fn "_law_wide" "_law_wide" (tp 126) 3 [] .none .none .none (.str "law_fivefields_k62_books_refused" 1628) none (r 1142) .none 0
def aN4:Obj:=tu [(.str "_law_book" 1718),(.str "_law_tally" 1719),(.str "_law_depth" 1720)]
def aOX:Obj:=fz "_law_sizes_are" "_law_sizes_are" (tp 127)
def aMX:Obj:=co [(.str "_law_sizes_are" 1715),(.str "_law_sizes_are" 1716),(sf 1717),(i 617),(i 3),(i 0),(i 0),(i 3),(r 1144),(.bool true),(i 181),(r 1145),.none,(r 1146),(r 1147),(r 1148),(i 1721),(i 617),(sf 1722)]
def aNT:Obj:=fn "_law_sizes_are" "_law_sizes_are" (tp 127) 3 [] .none .none .none (.str "law_fivefields_k62_books_refused" 1628) none (r 1149) .none 0
def aNR:Obj:=tu [(.str "_law_ways" 1727),(.str "_law_five" 1728),(.str "_law_four" 1729),(.str "_law_word" 1730)]
def aOE:Obj:=fz "_law_deep_edges" "_law_deep_edges" (tp 128)
def aMV:Obj:=co [(.str "_law_deep_edges" 1724),(.str "_law_deep_edges" 1725),(sf 1726),(i 619),(i 1),(i 0),(i 0),(i 3),(r 1151),(.bool true),(i 181),(r 1152),.none,(r 1153),(r 1154),(r 1155),(i 1731),(i 619),(sf 1732)]
def aME:Obj:=fn "_law_deep_edges" "_law_deep_edges" (tp 128) 3 [] .none .none .none (.str "law_fivefields_k62_books_refused" 1628) none (r 1156) .none 0
def aN8:Obj:=tu [(.str "_law_wide_here" 1737),(.str "_law_over" 1738),(.str "_law_one" 1739)]
def aL5:Obj:=fz "_law_wide_edges" "_law_wide_edges" (tp 129)
def aMH:Obj:=co [(.str "_law_wide_edges" 1734),(.str "_law_wide_edges" 1735),(sf 1736),(i 630),(i 0),(i 0),(i 0),(i 3),(r 1158),(.bool true),(i 181),(r 1159),.none,(r 1160),(r 1161),(r 1162),(i 1740),(i 630),(sf 1741)]
def aND:Obj:=fn "_law_wide_edges" "_law_wide_edges" (tp 129) 3 [] .none .none .none (.str "law_fivefields_k62_books_refused" 1628) none (r 1163) .none 0
def aMQ:Obj:=tu [(.str "_law_one" 1746),(.str "_law_double" 1747)]
def aL6:Obj:=⟨.none,none,(.func ⟨"_law_twice","_law_twice",(ag (tp 129)),(.stmts (bd (tp 130))),(sc (tp 130)),0,[],.none,.none,.none,.none,none,.none,.none,0⟩),#[]⟩
def aNL:Obj:=co [(.str "_law_twice" 1743),(.str "_law_twice" 1744),(sf 1745),(i 641),(i 0),(i 0),(i 0),(i 3),(r 1165),(.bool true),(i 181),(r 1166),.none,(r 1167),(r 1168),(r 1169),(i 1748),(i 641),(sf 1749)]
def aMD:Obj:=⟨(.type "function"),none,(.func ⟨"_law_twice","_law_twice",(ag (tp 129)),(.stmts (bd (tp 130))),(sc (tp 130)),3,[],.none,.none,.none,(.str "law_fivefields_k62_books_refused" 1628),none,(r 1170),.none,0⟩),#[]⟩
def aMG:Obj:=fz "law" "law" (tp 131)
def aM2:Obj:=co [(.str "law" 1751),(.str "law" 1752),(sf 1753),(i 647),(i 1),(i 0),(i 0),(i 3),(r 1172),(.bool true),(i 181),(r 1173),.none,.none,.none,(r 1174),(i 1754),(i 647),(sf 1755)]
def aMO:Obj:=fn "law" "law" (tp 131) 3 [] .none .none .none (.str "law_fivefields_k62_books_refused" 1628) none (r 1175) .none 0
def t6(P:Params):BT:=(nd (boot_o_0 P) (nd (boot_o_1 P) (nd (aM8 P) (nd (boot_o_7 P) (nd o0 (nd o90 (nd o36 (nd o78 (nd o1 (nd avT (lf o1) .nil) (lf o0)) (nd asM (nd ayZ (lf o0) .nil) (lf aIM))) (nd o0 (nd o0 (nd auV (lf aGA) .nil) (lf o0)) (nd o1 (lf aDC) (lf aJL)))) (nd o59 (nd apH (nd ap8 (nd auY (lf o0) .nil) (lf aBH)) (nd o0 (lf aDE) (lf aI6))) (nd arG (nd aoZ (nd o0 (lf o0) .nil) (lf aCH)) (nd o0 (lf o0) (lf aKX))))) (nd o20 (nd o11 (nd o0 (nd aoP (nd (ayG P) (lf aLF) .nil) (lf aBI)) (nd (aoN P) (nd aAK (lf aMQ) .nil) (lf o0))) (nd o0 (nd o0 (nd auB (lf o1) .nil) (lf aIQ)) (nd o0 (lf o1) (lf o0)))) (nd (o68 P) (nd o1 (nd aqI (nd at4 (lf aKS) .nil) (lf aEJ)) (nd au6 (lf ay9) (lf o11))) (nd aqD (nd asV (nd aB7 (lf aMJ) .nil) (lf o1)) (nd axD (lf aC1) (lf aKZ)))))) (nd o11 (nd o1 (nd o41 (nd o83 (nd arX (nd o0 (lf aHP) .nil) (lf (aBA P))) (nd o0 (nd o0 (lf o1) .nil) (lf aLK))) (nd apP (nd apA (nd avS (lf o0) .nil) (lf o1)) (nd at7 (lf o0) (lf aJJ)))) (nd o63 (nd o0 (nd asW (nd au8 (lf o1) .nil) (lf aD6)) (nd atP (lf aCN) (lf aHY))) (nd asE (nd o0 (nd aEA (lf aO1) .nil) (lf o0)) (nd o1 (lf aAJ) (lf aJ6))))) (nd (o31 P) (nd o52 (nd o97 (nd ap2 (nd au9 (lf aFQ) .nil) (lf o0)) (nd (avM P) (nd az4 (lf aM2) .nil) (lf o0))) (nd o1 (nd o1 (nd (aEC P) (lf aJK) .nil) (lf az0)) (nd awP (lf aBY) (lf (aL2 P))))) (nd o73 (nd atB (nd aoL (nd o0 (lf aHE) .nil) (lf aBS)) (nd o11 (lf aDH) (lf aK7))) (nd o0 (nd ar1 (nd o1 (lf aMT) .nil) (lf aG8)) (nd auI (lf aAN) (lf o0))))))) (nd o0 (nd o7 (nd o20 (nd o1 (nd o0 (nd as9 (nd o0 (lf aI2) .nil) (lf aAR)) (nd o0 (nd ayT (lf aOE) .nil) (lf (aKE P)))) (nd o0 (nd o0 (nd o1 (lf o0) .nil) (lf aCX)) (nd auC (lf o0) (lf aG1)))) (nd (o61 P) (nd o0 (nd aoS (nd awV (lf aLB) .nil) (lf aA3)) (nd o0 (lf o0) (lf o1))) (nd o1 (nd asN (nd o0 (lf o0) .nil) (lf o0)) (nd au7 (lf o0) (lf o1))))) (nd o1 (nd o50 (nd o0 (nd aoT (nd abC (lf aHR) .nil) (lf aEI)) (nd as3 (nd o1 (lf aMD) .nil) (lf aHF))) (nd asC (nd asT (nd atG (lf aH5) .nil) (lf aAH)) (nd axY (lf aDS) (lf aIW)))) (nd o70 (nd aqP (nd ap5 (nd awQ (lf aFJ) .nil) (lf aCA)) (nd atL (lf o1) (lf aFH))) (nd o0 (nd o1 (nd ay2 (lf aNQ) .nil) (lf aHK)) (nd avA (lf aBX) (lf o0)))))) (nd o13 (nd (o24 P) (nd o45 (nd o87 (nd aoY (nd avH (lf o11) .nil) (lf aCF)) (nd ar7 (nd o0 (lf aMH) .nil) (lf o0))) (nd o0 (nd o0 (nd ax6 (lf aKM) .nil) (lf aBU)) (nd auN (lf azB) (lf o0)))) (nd o66 (nd apQ (nd aqR (nd o0 (lf aLQ) .nil) (lf o11)) (nd o1 (lf o0) (lf aJD))) (nd asI (nd o0 (nd o1 (lf o1) .nil) (lf aJH)) (nd axF (lf o1) (lf aJV))))) (nd o20 (nd o55 (nd o0 (nd aq3 (nd o1 (lf o0) .nil) (lf o0)) (nd auU (lf aDD) (lf o0))) (nd arJ (nd aoF (nd azK (lf aJ4) .nil) (lf aB9)) (nd o0 (lf aB2) (lf aeM)))) (nd (o75 P) (nd aoQ (nd arZ (nd o0 (lf aFE) .nil) (lf o0)) (nd ax5 (lf (azH P)) (lf aI4))) (nd ao7 (nd (aqT P) (nd aDF (lf o0) .nil) (lf aKO)) (nd (ax3 P) (lf o0) (lf aJC)))))))) (nd (boot_o_5 P) (nd (boot_o_9 P) (nd o6 (nd o18 (nd o38 (nd o1 (nd o0 (nd o1 (lf o0) .nil) (lf ayY)) (nd o1 (nd aCR (lf aNR) .nil) (lf aeM))) (nd aqY (nd aoH (nd ayJ (lf o1) .nil) (lf az7)) (nd o0 (lf o1) (lf o0)))) (nd o20 (nd o1 (nd arT (nd o0 (lf aFV) .nil) (lf o1)) (nd atW (lf o1) (lf aII))) (nd aqH (nd aq2 (nd ayS (lf aJQ) .nil) (lf o11)) (nd at8 (lf ayV) (lf aLV))))) (nd (o28 P) (nd o0 (nd o92 (nd o0 (nd ayR (lf o0) .nil) (lf aC7)) (nd as8 (nd aBV (lf aL6) .nil) (lf aH4))) (nd aqW (nd apR (nd (avE P) (lf o0) .nil) (lf aCP)) (nd avK (lf o0) (lf aGS)))) (nd o1 (nd o0 (nd o1 (nd axX (lf aIA) .nil) (lf o0)) (nd awW (lf aDK) (lf o0))) (nd o1 (nd apV (nd azF (lf o0) .nil) (lf o0)) (nd awK (lf o0) (lf o1)))))) (nd o0 (nd o23 (nd o43 (nd o85 (nd ar9 (nd aw5 (lf aIE) .nil) (lf aER)) (nd apJ (nd azJ (lf o0) .nil) (lf o1))) (nd o1 (nd o1 (nd o0 (lf aKQ) .nil) (lf o0)) (nd auM (lf aAA) (lf o1)))) (nd (o64 P) (nd atC (nd o0 (nd o1 (lf o0) .nil) (lf aD9)) (nd awO (lf aC9) (lf aJA))) (nd o0 (nd apD (nd aCC (lf aMA) .nil) (lf aJ3)) (nd o0 (lf azI) (lf o0))))) (nd o33 (nd o53 (nd o1 (nd o1 (nd ax7 (lf o1) .nil) (lf aAE)) (nd avJ (lf o0) (lf aHV))) (nd o0 (nd o0 (nd aEO (lf aHS) .nil) (lf o0)) (nd o11 (lf ay6) (lf aJE)))) (nd o20 (nd arY (nd asG (nd avL (lf o0) .nil) (lf o1)) (nd o0 (lf o0) (lf aGK))) (nd apO (nd o0 (nd o0 (lf o1) .nil) (lf aJM)) (nd abC (lf o1) (lf aKU))))))) (nd o2 (nd o9 (nd (o21 P) (nd o0 (nd o81 (nd o0 (nd ayO (lf aHC) .nil) (lf azV)) (nd asB (nd o1 (lf aME) .nil) (lf aIK))) (nd ar5 (nd arU (nd o0 (lf aJR) .nil) (lf aDX)) (nd o0 (lf ay5) (lf aLY)))) (nd o1 (nd asD (nd o1 (nd ax1 (lf aG3) .nil) (lf o0)) (nd avG (lf aBN) (lf o0))) (nd o0 (nd o1 (nd aEE (lf aMY) .nil) (lf aJU)) (nd at1 (lf azQ) (lf o0))))) (nd o30 (nd o0 (nd o95 (nd asU (nd (axA P) (lf aJ2) .nil) (lf o1)) (nd abC (nd o0 (lf o1) .nil) (lf o1))) (nd arB (nd aqJ (nd abC (lf o0) .nil) (lf o1)) (nd auR (lf o0) (lf aI3)))) (nd (o71 P) (nd o0 (nd o0 (nd o11 (lf (aHU P)) .nil) (lf aBM)) (nd avO (lf o0) (lf o0))) (nd arO (nd o0 (nd azT (lf aOW) .nil) (lf o0)) (nd (avW P) (lf azY) (lf aJW)))))) (nd o0 (nd o26 (nd o47 (nd o11 (nd o1 (nd at9 (lf o0) .nil) (lf o0)) (nd aqO (nd aBF (lf o0) .nil) (lf aLE))) (nd asJ (nd asP (nd av6 (lf aKL) .nil) (lf o0)) (nd o1 (lf azO) (lf aGB)))) (nd o20 (nd ao3 (nd as2 (nd atU (lf o0) .nil) (lf o0)) (nd o0 (lf aDI) (lf aJ1))) (nd aqC (nd asA (nd o0 (lf o0) .nil) (lf aFI)) (nd o0 (lf o0) (lf aG5))))) (nd (o35 P) (nd (o57 P) (nd arS (nd o0 (nd o0 (lf aGM) .nil) (lf azZ)) (nd o1 (lf aAD) (lf aKY))) (nd o0 (nd o0 (nd o1 (lf o1) .nil) (lf aBG)) (nd auX (lf o1) (lf (aIP P))))) (nd o76 (nd o1 (nd o1 (nd axK (lf aG0) .nil) (lf aAB)) (nd auO (lf aCK) (lf o1))) (nd ap3 (nd apU (nd o0 (lf aMX) .nil) (lf (aFX P))) (nd av0 (lf aCY) (lf aI1))))))))) (nd (boot_o_2 P) (nd (boot_o_4 P) (nd (boot_o_8 P) (nd o1 (nd o17 (nd o37 (nd o0 (nd as6 (nd o0 (lf aJT) .nil) (lf o1)) (nd o0 (nd o0 (lf o1) .nil) (lf aJ0))) (nd aq1 (nd aqA (nd aw3 (lf o0) .nil) (lf o1)) (nd auL (lf o0) (lf aGC)))) (nd o60 (nd o0 (nd o0 (nd aw4 (lf o1) .nil) (lf o0)) (nd auE (lf o0) (lf aLM))) (nd aoG (nd o0 (nd aCJ (lf aG9) .nil) (lf aeM)) (nd o1 (lf ay0) (lf aIF))))) (nd o11 (nd (o48 P) (nd o1 (nd asH (nd at0 (lf aHQ) .nil) (lf o0)) (nd az3 (nd aDA (lf o0) .nil) (lf o1))) (nd o1 (nd o1 (nd ayC (lf aHZ) .nil) (lf aBC)) (nd avV (lf aDY) (lf o1)))) (nd o0 (nd aqS (nd o0 (nd (ayI P) (lf o0) .nil) (lf aEG)) (nd axG (lf aDR) (lf (aIH P)))) (nd o0 (nd arA (nd aBK (lf aM4) .nil) (lf aK9)) (nd o0 (lf azX) (lf o0)))))) (nd (o12 P) (nd o22 (nd o42 (nd (o84 P) (nd o0 (nd o1 (lf aF1) .nil) (lf azG)) (nd o1 (nd aBD (lf aN8) .nil) (lf o0))) (nd o0 (nd o0 (nd awN (lf o1) .nil) (lf aA7)) (nd o0 (lf o1) (lf o0)))) (nd o0 (nd o1 (nd aoR (nd o0 (lf aLT) .nil) (lf aDU)) (nd atN (lf aDJ) (lf aLR))) (nd aqU (nd aq0 (nd aCB (lf aMU) .nil) (lf o1)) (nd avC (lf ayW) (lf aHG))))) (nd o32 (nd o0 (nd o0 (nd o0 (nd awJ (lf o0) .nil) (lf aAI)) (nd o0 (nd aEN (lf aMO) .nil) (lf aF4))) (nd apF (nd aq4 (nd o0 (lf o0) .nil) (lf aCS)) (nd abC (lf o0) (lf aFD)))) (nd o74 (nd o0 (nd o0 (nd awT (lf aFG) .nil) (lf o0)) (nd (atT P) (lf aAZ) (lf o0))) (nd o1 (nd apK (nd aA4 (lf o0) .nil) (lf o0)) (nd atJ (lf o0) (lf o1))))))) (nd aNN (nd o8 (nd o11 (nd o39 (nd o80 (nd apZ (nd avF (lf aG7) .nil) (lf aB1)) (nd aoI (nd o0 (lf aMV) .nil) (lf o0))) (nd o1 (nd o1 (nd ayB (lf aH7) .nil) (lf aA9)) (nd aw2 (lf aC2) (lf o0)))) (nd o0 (nd aoW (nd o0 (nd o0 (lf aIX) .nil) (lf ay7)) (nd o1 (lf aD8) (lf aI0))) (nd ar3 (nd o0 (nd o1 (lf o1) .nil) (lf aJG)) (nd aw8 (lf o1) (lf aGT))))) (nd o29 (nd o51 (nd (o94 P) (nd o0 (nd o11 (lf o0) .nil) (lf o0)) (nd ap1 (nd aEF (lf o0) .nil) (lf o0))) (nd apL (nd ao5 (nd axZ (lf aLZ) .nil) (lf o0)) (nd (atY P) (lf aAV) (lf aLI)))) (nd o0 (nd ar6 (nd arM (nd abC (lf aHD) .nil) (lf o0)) (nd avQ (lf aBE) (lf aJ5))) (nd aq8 (nd arL (nd aBT (lf o0) .nil) (lf aGG)) (nd ayD (lf o0) (lf aHI)))))) (nd o14 (nd o25 (nd o46 (nd o20 (nd o0 (nd awC (lf (aJS P)) .nil) (lf aAT)) (nd apB (nd o1 (lf aND) .nil) (lf aHL))) (nd ar8 (nd apM (nd o0 (lf aFC) .nil) (lf aAU)) (nd o0 (lf az9) (lf aGN)))) (nd o67 (nd atD (nd o0 (nd auJ (lf aK8) .nil) (lf (aDL P))) (nd auD (lf o1) (lf aKI))) (nd o0 (nd o1 (nd aDQ (lf aM6) .nil) (lf aIJ)) (nd ayP (lf azA) (lf o0))))) (nd o11 (nd o56 (nd o99 (nd apI (nd axN (lf aLX) .nil) (lf o1)) (nd o0 (lf o0) (lf o1))) (nd aoO (nd ao1 (nd o0 (lf o0) .nil) (lf o0)) (nd auZ (lf o0) (lf o11)))) (nd o0 (nd o0 (nd o0 (nd o1 (lf o0) .nil) (lf az8)) (nd atM (lf o0) (lf o0))) (nd arP (nd o0 (nd azC (lf aOX) .nil) (lf aG6)) (nd o0 (lf aA0) (lf aFU)))))))) (nd (boot_o_6 P) (nd (boot_o_10 P) (nd o0 (nd o19 (nd o0 (nd o79 (nd asK (nd axW (lf aLW) .nil) (lf o0)) (nd aq6 (nd aCG (lf o0) .nil) (lf o11))) (nd asY (nd ar2 (nd o0 (lf aJF) .nil) (lf o0)) (nd aw7 (lf aES) (lf o1)))) (nd o11 (nd asX (nd asQ (nd o1 (lf o0) .nil) (lf ayU)) (nd auS (lf aCE) (lf o0))) (nd o0 (nd aq5 (nd aBQ (lf aH2) .nil) (lf (aI5 P))) (nd o0 (lf aDT) (lf o0))))) (nd o0 (nd o49 (nd o93 (nd o1 (nd atF (lf o1) .nil) (lf aEH)) (nd aoJ (nd o0 (lf aNL) .nil) (lf aIL))) (nd o0 (nd o0 (nd awZ (lf aHO) .nil) (lf ayX)) (nd avX (lf aAX) (lf o0)))) (nd o69 (nd aqL (nd aoX (nd auF (lf aHW) .nil) (lf o1)) (nd (avD P) (lf o0) (lf aFW))) (nd asS (nd o0 (nd (aAL P) (lf o1) .nil) (lf aF3)) (nd avU (lf o1) (lf aKH)))))) (nd o1 (nd o0 (nd (o44 P) (nd o86 (nd arI (nd o0 (lf aeM) .nil) (lf aBJ)) (nd o0 (nd azD (lf aL5) .nil) (lf aFK))) (nd arK (nd apX (nd o1 (lf o0) .nil) (lf aCW)) (nd ax8 (lf o0) (lf aI7)))) (nd o65 (nd o0 (nd o1 (nd ax2 (lf aGV) .nil) (lf o0)) (nd o0 (lf aBZ) (lf (aKF P)))) (nd o1 (nd apY (nd o0 (lf o0) .nil) (lf o0)) (nd av3 (lf o0) (lf o1))))) (nd o34 (nd o54 (nd o98 (nd arE (nd o0 (lf aID) .nil) (lf ay4)) (nd awE (lf o1) (lf aH0))) (nd aqB (nd apE (nd azE (lf aGP) .nil) (lf o1)) (nd (axI P) (lf aCZ) (lf aGL)))) (nd o11 (nd asF (nd apC (nd aw0 (lf o1) .nil) (lf aBB)) (nd auH (lf o11) (lf aLC))) (nd o0 (nd o11 (nd aBO (lf aN4) .nil) (lf aJP)) (nd o11 (lf aB4) (lf o0))))))) (nd o3 (nd o10 (nd o0 (nd o40 (nd o82 (nd o1 (nd axH (lf (aHA P)) .nil) (lf azU)) (nd ar4 (nd ay8 (lf o0) .nil) (lf aHN))) (nd aqN (nd arQ (nd avR (lf aIB) .nil) (lf o0)) (nd o1 (lf aAM) (lf aK0)))) (nd o62 (nd arR (nd atA (nd av4 (lf o0) .nil) (lf o1)) (nd o0 (lf aCU) (lf aIN))) (nd aoM (nd ap7 (nd o0 (lf o0) .nil) (lf aGE)) (nd o0 (lf o0) (lf aL4))))) (nd o0 (nd o1 (nd o96 (nd aqQ (nd o0 (lf aGQ) .nil) (lf aC8)) (nd o11 (nd aEB (lf aMG) .nil) (lf aKD))) (nd o0 (nd o0 (nd o11 (lf o1) .nil) (lf aBL)) (nd awD (lf o1) (lf aLG)))) (nd o72 (nd o1 (nd o1 (nd (au0 P) (lf aKA) .nil) (lf azM)) (nd abC (lf aB0) (lf o1))) (nd aq9 (nd asR (nd o0 (lf aNY) .nil) (lf o1)) (nd awA (lf aA5) (lf aG4)))))) (nd (o15 P) (nd o27 (nd o20 (nd (o91 P) (nd apS (nd o0 (lf aJX) .nil) (lf o1)) (nd o0 (nd o0 (lf o1) .nil) (lf aL3))) (nd ao0 (nd apG (nd au4 (lf o0) .nil) (lf (aA1 P))) (nd av7 (lf o0) (lf aFS)))) (nd o11 (nd o0 (nd ao4 (nd axC (lf o1) .nil) (lf aD3)) (nd ayH (lf o0) (lf aeM))) (nd atE (nd o0 (nd aDG (lf aMR) .nil) (lf o0)) (nd o1 (lf aCL) (lf aH8))))) (nd o0 (nd o58 (nd ar0 (nd o1 (nd awL (lf aLS) .nil) (lf aAF)) (nd awB (lf aB8) (lf o0))) (nd o1 (nd o1 (nd aCI (lf aHJ) .nil) (lf aD0)) (nd auQ (lf aD1) (lf o0)))) (nd o77 (nd apN (nd aqM (nd o0 (lf aKC) .nil) (lf aDV)) (nd o0 (lf aC5) (lf aFZ))) (nd o0 (nd as4 (nd o1 (lf aNT) .nil) (lf aGI)) (nd auW (lf aCD) (lf o0))))))))))
def s6(w:World)(os:OsState):SharedT:=⟨t6 w.params,1177,⟨[],[],[],0,[],[],false,#[],[],0,false,false,false,0,[2000,10,10],false,0,true,[],[],0,false⟩,#[],⟨0,0,0,0⟩,1757,os⟩
def l5:List Stmt:=(bi.drop 124).take 8
theorem r5(w:World)(os:OsState):
  segRunT treeTable pw w 11 an 1 247 (s5 w os) (piecesOf l5 ev cd ⟨586,0,588,106⟩ bk) =
  some (.next,s6 w os,cd,⟨647,0,668,76⟩):=by kernel_rfl
def hF(P:Params):Heap:=⟨⟨[(boot_o_0 P),(boot_o_1 P),(boot_o_2 P),(aM8 P),(boot_o_4 P),(boot_o_5 P),(boot_o_6 P),(boot_o_7 P),(boot_o_8 P),(boot_o_9 P),(boot_o_10 P),o0,aNN,o2,o3,o0,o1,o6,o0,o7,o8,o9,o10,o11,(o12 P),o0,o1,o13,o14,o0,(o15 P),o90,o17,o18,o19,o20,o11,(o21 P),o0,o1,o22,o23,o0,(o24 P),o25,o26,o27,o20,o11,(o28 P),o0,o1,o29,o30,o0,(o31 P),o32,o33,o34,o20,o11,(o35 P),o0,o36,o37,o38,o0,o1,o39,o0,o40,o41,o42,o43,(o44 P),o45,o46,o47,o20,o11,(o48 P),o0,o49,o50,o51,o0,o1,o52,o0,o53,o54,o55,o56,(o57 P),o58,o59,o60,o20,o11,(o61 P),o0,o1,o62,o63,o0,(o64 P),o65,o66,o67,o20,o11,(o68 P),o0,o1,o69,o70,o0,(o71 P),o72,o73,o74,o20,o11,(o75 P),o0,o76,o77,o78,o0,o1,o79,o0,o80,o81,o82,o83,(o84 P),o85,o86,o87,o20,o11,(o91 P),o0,o1,o92,o93,o0,(o94 P),o95,o96,o97,o0,o1,o98,o0,o99,arS,ar0,apH,o0,o1,asX,o0,aoW,asD,arR,o0,o1,atC,o0,apQ,atD,ao3,o0,o1,aqS,o0,aqL,aqP,ar6,o0,o1,atB,o0,arY,asF,aoQ,o0,o1,apN,o0,aq1,aqY,asY,o0,o1,ar5,aqN,apP,o0,o1,arK,o0,ar8,asJ,ao0,o0,o1,aqW,o0,asC,apL,arB,o0,o1,apF,o0,aqB,arJ,aoO,o0,o1,arG,aoG,aqH,o0,o1,ar3,o0,aoM,asE,aqU,o0,o1,asI,o0,aqC,atE,aqD,o0,o1,asS,o0,aq8,arO,aq9,o0,o1,apO,o0,ao7,arP,ap3,o0,o1,as6,o0,asK,as9,apZ,o0,o1,arX,o0,ar9,arI,aoY,o0,o1,apS,aoP,asH,o0,o1,aoT,o0,asU,aqQ,ap2,o0,o1,arE,aq3,apI,o0,o1,ap8,o0,arT,asQ,aoS,o0,o1,atA,asW,aoR,o0,o1,aqR,o0,as2,ao4,aqI,o0,o1,aoX,ap5,arM,o0,o1,aoL,o0,asG,apC,arZ,o0,o1,aqM,o0,aqA,aoH,ar2,o0,o1,arU,arQ,apA,o0,o1,apX,o0,apM,asP,apG,o0,o1,apR,o0,asT,ao5,aqJ,o0,o1,aq4,o0,apE,aoF,ao1,o0,o1,aoZ,o0,aq2,aq5,asN,o0,o1,ap7,o0,aq0,apD,apY,o0,o1,asA,o0,asV,arA,apV,o0,o1,arL,o0,asR,ar1,apK,o0,o11,(aqT P),o0,apU,as4,asM,o0,o1,aq6,o0,aoI,asB,ar4,o0,o1,apJ,o0,ar7,apB,aqO,o0,(aoN P),az3,as8,aoJ,as3,ap1,abC,o11,(avM P),o0,avJ,awE,auU,o0,o1,awB,o0,auE,atW,auS,o0,o1,avG,o0,atP,atN,awO,o0,o1,auD,o0,ayH,au6,axG,awW,(avD P),atL,avQ,avO,abC,o11,(atT P),o0,auH,ax5,atM,auO,o0,o1,auL,o0,aw7,auC,aw2,o0,o1,at7,o0,auM,ax8,auN,o0,o1,av7,o0,avV,avK,avX,axY,(atY P),auR,awD,awP,abC,o11,(axI P),o0,auZ,auX,auQ,o0,o1,at8,o0,au7,aw8,at1,o0,o1,avC,o0,av3,axF,ayP,o0,o1,axD,o0,awK,avU,avA,ayD,(avW P),awA,auI,atJ,abC,o11,(ax3 P),o0,av0,auW,avT,o0,o1,axW,o0,avF,ayO,axH,o0,o1,aw5,o0,avH,awC,at9,o0,(ayG P),at0,ayR,atF,abC,o11,(axA P),o0,au9,awJ,ax7,o0,o1,axN,o0,awL,auY,aw4,o0,o1,awV,o0,ax1,av4,au8,o0,o1,ax2,o0,auJ,atU,axC,at4,(ayI P),axX,auF,awQ,abC,o11,(au0 P),o0,awT,avL,aw0,o0,o1,axK,o0,auV,aw3,ayJ,o0,o1,ayB,o0,avR,avS,awN,o0,o1,ax6,o0,av6,au4,auB,ayC,(avE P),awZ,atG,axZ,abC,o11,(aEC P),o0,aEO,azE,azK,o0,o1,aCI,o0,aCJ,ayS,aBQ,o0,o1,aEE,o0,aEA,aCB,aCC,o0,o1,aDQ,o0,aDG,aB7,aBK,azF,(aAL P),ay2,aBT,azT,o0,o1,aA4,o0,aBO,aDF,azC,o0,o1,ayZ,o0,aCR,aCG,ayT,o0,o1,ay8,o0,aBD,azJ,azD,o0,o1,aBF,o0,aAK,aDA,aBV,o0,o1,aEF,o0,aEB,az4,aEN,o0,o1,aDD,o0,aAD,aB8,aDE,o0,o1,aCE,o0,aD8,aBN,aCU,aCN,aDJ,aC9,aBZ,o0,o1,aDI,o0,ay9,aDR,aDK,o0,o1,aBE,o0,aB0,aDH,aAZ,o0,o11,(azH P),o0,aCK,aC5,aDC,o0,o1,aES,o0,aC2,ay5,aAM,o0,o1,aAA,o0,azB,az9,azO,o0,o1,aDY,o0,aAX,aDS,aAV,o0,o1,aBY,o0,ay6,aCZ,aB2,o0,o1,aD1,o0,ay0,ayV,aDT,o0,o1,azQ,o0,aAJ,ayW,azI,o0,o1,azA,o0,aCL,aC1,azX,o0,o1,aBX,o0,azY,aA5,aAN,o0,o1,aB4,o0,aA0,aCY,aCD,o0,o1,ayY,o0,aAR,aB1,azV,azU,(aBA P),azG,aER,aBJ,aCF,aAT,o0,o1,aBI,o0,aC7,aEH,aEI,o0,o1,aC8,o0,aAI,aAE,ay4,o0,o1,azZ,aAF,aBH,o0,o1,ayU,aA3,ay7,o0,o1,aD6,aDU,aD9,o0,o11,(aDL P),o0,aD3,aEJ,aEG,o0,o1,aCA,o0,aBM,azM,aBS,o0,o1,aBB,o0,az8,aAB,aDV,o0,o1,az7,o0,aCX,aA9,aDX,o0,o1,aA7,o0,aCW,aBU,aAU,o0,(aA1 P),aIQ,aBC,aCP,ayX,aAH,o0,o1,aBL,az0,aCS,o0,o1,aB9,o0,aBG,aD0,aCH,aeM,o11,(aI5 P),o0,aJG,aJU,aGE,o0,o1,aJ3,o0,aJH,aIJ,aFI,o0,o1,aK9,o0,aF3,aHK,aGG,o0,o1,aG8,o0,aJM,aJP,aKO,aG6,(aFX P),aGI,aIM,aJ0,aeM,o11,(aKE P),o0,aIK,aHN,aLK,o0,o1,aFK,o0,aHL,aLE,aL3,o0,o1,aH4,aIL,aHF,o0,o1,aKD,o0,aF4,aHV,aH0,o0,o1,aKY,o0,aI6,aLM,aII,o0,o1,aI0,o0,aIN,aHY,aLR,aJA,(aKF P),aJD,aKI,aJ1,aeM,o11,(aIH P),o0,aFW,aFH,aJ5,o0,o1,aK7,o0,aGK,aLC,aI4,o0,o1,aFZ,aJL,aGC,o0,o1,aG1,o0,aLY,aK0,aJJ,o0,o1,aI7,o0,aGN,aGB,aFS,o0,o1,aGS,o0,aIW,aLI,aI3,aLG,(aL2 P),aFD,aJE,aGL,aeM,o11,(aIP P),o0,aKX,aIF,aLV,o0,o1,aGT,o0,aL4,aJ6,aHG,o0,o1,aJV,o0,aG5,aH8,aKZ,o0,o1,aKH,o0,aHI,aJW,aG4,o0,o1,aKU,o0,aJC,aFU,aI1,o0,o1,aJT,o0,aLW,aI2,aG7,aHC,(aHA P),aHP,aF1,aIE,aeM,o11,(aJS P),o0,aJX,aLF,aHQ,o0,o1,aHR,o0,aJ2,aGQ,aFQ,o0,o1,aID,o0,aLX,aGM,aLS,o0,o1,aFV,o0,aLB,aIX,aG3,o0,o1,aLT,o0,aGV,aLQ,aK8,o0,o1,aKS,o0,aIA,aHW,aFJ,aHD,(aHU P),aKA,aHE,aFG,o0,o1,aFE,o0,aG0,aKC,aGA,o0,o1,aJF,o0,aH7,aJR,aIB,o0,o1,aKQ,o0,aKM,aFC,aKL,o0,o1,aHZ,o0,aHO,aH5,aLZ,o0,o1,aJK,o0,aHS,aGP,aJ4,o0,o1,aHJ,o0,aG9,aJQ,aH2,o0,o1,aMY,o0,aO1,aMU,aMA,o0,o1,aM6,o0,aMR,aMJ,aM4,o0,o1,aNQ,o0,aOW,aNY,aMT,o0,o1,aN4,o0,aOX,aMX,aNT,o0,o1,aNR,o0,aOE,aMV,aME,o0,o1,aN8,o0,aL5,aMH,aND,o0,o1,aMQ,o0,aL6,aNL,aMD,o0,o1,aMG,aM2,aMO]⟩,⟨[],[],[],0,[],[],false,#[],[],0,false,false,false,0,[2000,10,10],false,0,true,[],[],0,false⟩⟩
def sF(w:World)(os:OsState):Shared:=⟨hF w.params,#[],⟨0,0,0,0⟩,1757,os⟩
theorem fin(w:World)(os:OsState):
  topRun treeTable pw w 11 an 2 (s6 w os).abs (restOf [] ev cd ⟨647,0,668,76⟩ bk) =
  some (sF w os):=by kernel_rfl
theorem bis:bi=(l0++(l1++(l2++(l3++(l4++(l5++[])))))):=by kernel_rfl
theorem run(w:World)(os:OsState):topRun treeTable pw w 11 an (12+(1+(1812+(1746+(1829+(1790+(1984+(247+(2))))))))) ⟨boot_heap w.params,⟨[]⟩,boot_drawn,boot_toks,os⟩ (topStub pw)=some (sF w os):=by
 refine go_top (pre w os) (piece_block (blk w os) ?_)
 rw[bis]
 exact (piece_app (segRun_of (r0 w os)) (piece_app (segRun_of (r1 w os)) (piece_app (segRun_of (r2 w os)) (piece_app (segRun_of (r3 w os)) (piece_app (segRun_of (r4 w os)) (piece_app (segRun_of (r5 w os)) (fin w os)))))))
theorem opn:∀w:World,(fencedOpening treeTable pw w 18930).map (fun s=>(s.heap,s.gens,s.drawn,s.toks))=some (boot_heap w.params,⟨[]⟩,boot_drawn,boot_toks):=
 boot_open (by kernel_rfl) rfl (fun s=>by kernel_rfl)
theorem siz(w:World):((boot_heap w.params).isNs mainGlobals&&(⟨[]⟩:Array GenState).size==0,(boot_heap w.params).objs.size,(boot_heap w.params).nsMap mainGlobals "__annotations__")=(true,11,an):=by kernel_rfl
end
end
theorem aN6{q:Program}{loose mods:List Str}{Xt:Shared->Bool}{s:Shared}
  (e1:seen ((recsOf q).map (·.name)) (ownsOf q) [] {s with gens:= #[]}=expectedOf q) (e2:s.heap.bltView=bltViewBooted)
  (a1:s.heap.keysOk (looseW q loose) ((recsOf q).map (·.name)) ((litsOf q).map (·.1)) ((clssOf q (looseW q loose)).map (·.name))=true)
  (a2:s.heap.accountedOkI mods=true) (a3:s.heap.isNs mainGlobals=true) (a4:s.heap.isNs builtinsNs=true)
  (a5:tablesOk q s.heap=true) (a6:Xt s=true) (a7:(s.gens.size==0)=true) (e4:tabsOk q s=true)
  (e5:pinSeenD q (drecsOf q) s=pinGoodD (drecsOf q)) (e6:plainSeenE q (looseW q loose) s=plainGoodE q (looseW q loose))
  (e7:plainSeenD q loose s=plainGoodD q loose) (e8:wideSeen q s=wideGood q) (e9:clsSeenW q loose s=clsGoodW q loose):
  openSeen q loose mods Xt true s=openGood q loose:=by
 unfold openSeen openGood
 rw[e1,e2,a1,a2,a3,a4,a5,a6,if_pos rfl,a7,e4,e5,e6,e7,e8,e9];rfl
theorem aNV{α:Type}(n:Nat){l r:List α}(h1:l.take n=r.take n)(h2:l.drop n=r.drop n):l=r:=by
 rw[←List.take_append_drop n l,h1,h2,List.take_append_drop]
noncomputable def seenBy:Program:=view PySem.Challenge.pw_fivefields_k62_books_refused [0,2,3,4,5,6,7,8,9,10,12,14,15,16,17,18,19,20,21,22,23,24,25,27,28,29,31,32,33,35,36,37,38,39,40,42,43,44,45,46,47,49,50,51,52,53,54,55,56,57,58,59,61,62,63,64,65,66,67,68,69,70,71,72,73,74,75,76,77,78,79,80,81,82,83,84,85,86,87,89,90,91,92,93,94,95,96,97,98,99,100,101,102,104,105,106,107,108,109,110,111,112,113,114,115,116,118,119,120,121,122,123,124,125,126,127,128,129,130,131]
noncomputable def free:List Str:=[Str.ofString "Last",Str.ofString "BOUNDS"]
noncomputable def read:List (Str×WData):=[]
section
set_option maxHeartbeats 0
set_option maxRecDepth 100000
noncomputable section
def XT:Shared->Bool:=fun z=>xlAt seenBy read z&&recOk (RowW.records (OpenRow.toRowW (OpenLaw.row PySem.Challenge.rw_fivefields_k62_books_refused))) z
abbrev SE(w:World)(os:OsState):=openSeen seenBy free (importedModules pw.main.body) XT true (sF w os)
section
variable(w:World)(os:OsState)
theorem z1:seen ((recsOf seenBy).map (·.name)) (ownsOf seenBy) [] {sF w os with gens:= #[]}=expectedOf seenBy:=by kernel_rfl
theorem z2:(sF w os).heap.bltView=bltViewBooted:=by kernel_rfl
theorem y1:(sF w os).heap.keysOk (looseW seenBy free) ((recsOf seenBy).map (·.name)) ((litsOf seenBy).map (·.1)) ((clssOf seenBy (looseW seenBy free)).map (·.name))=true:=by kernel_rfl
theorem y2:(sF w os).heap.accountedOkI (importedModules pw.main.body)=true:=by kernel_rfl
theorem y3:(sF w os).heap.isNs mainGlobals=true:=by kernel_rfl
theorem y4:(sF w os).heap.isNs builtinsNs=true:=by kernel_rfl
theorem y5:tablesOk seenBy (sF w os).heap=true:=by kernel_rfl
theorem y6:XT (sF w os)=true:=by kernel_rfl
theorem y7:((sF w os).gens.size==0)=true:=by kernel_rfl
theorem z4:tabsOk seenBy (sF w os)=true:=by kernel_rfl
theorem z5:pinSeenD seenBy (drecsOf seenBy) (sF w os)=pinGoodD (drecsOf seenBy):=by kernel_rfl
theorem z6:plainSeenE seenBy (looseW seenBy free) (sF w os)=plainGoodE seenBy (looseW seenBy free):=by kernel_rfl
theorem z7:plainSeenD seenBy free (sF w os)=plainGoodD seenBy free:=by kernel_rfl
theorem z8:wideSeen seenBy (sF w os)=wideGood seenBy:=by kernel_rfl
theorem z9:clsSeenW seenBy free (sF w os)=clsGoodW seenBy free:=by kernel_rfl
theorem look:SE w os=openGood seenBy free:=aN6 (q:=seenBy) (loose:=free) (mods:=importedModules pw.main.body) (Xt:=XT) (s:=sF w os) (z1 w os) (z2 w os) (y1 w os) (y2 w os) (y3 w os) (y4 w os) (y5 w os) (y6 w os) (y7 w os) (z4 w os) (z5 w os) (z6 w os) (z7 w os) (z8 w os) (z9 w os)
end
theorem lk0(w:World)(os:OsState):(staticsOk (importedModules pw.main.body) (boot_heap w.params) (hF w.params)&&namesBound pw (hF w.params)
  &&gensDone (sF w os)&&laidKept (boot_heap w.params) (hF w.params))=true:=by kernel_rfl
section
set_option Elab.async false
local macro_rules
  | `(tactic| o_head $H) => `(tactic| (have kk := $H; assumption))
theorem d0(h:PySem.Challenge.rw_fivefields_k62_books_refused.row.Holds):PySem.Challenge.rw_fivefields_k62_books_refused.row.Holds:=by
 w_on
 k_head
end
theorem kk(w:World)(os:OsState):((d0.heap_1 w.params).map fun p=>p.1).map (sF w os).heap.get? =(d0.heap_1 w.params).map fun p=>some p.2:=by
 iterate 3 (refine aNV 190 ?_ ?_;(· as_aux_lemma=>kernel_rfl))
 as_aux_lemma=>kernel_rfl
end
end
end Hd
set_option Elab.async false
set_option linter.all false
set_option maxRecDepth 100000
namespace L2
open PySem PySem.Spec PyProof.Rows
abbrev Key:=Sum Int Str
def ajN:Key->Value->Bool
 |.inl k,v=>Value.isInt k v
 |.inr x,v=>Value.isStrOf x v
def keyH(w:World):Key->Int
 |.inl k=>hashInt k
 |.inr x=>hashStr w x
theorem aa3:∀{k:Key} {v:Value},ajN k v=true->(∃i t,k=Sum.inl i/\v=Value.int i t)∨(∃x t,k=Sum.inr x/\v=Value.str x t)
 |.inl i,v,h=>by
  obtain⟨t,e⟩:=Value.isInt_shape (k:=i) (v:=v) h
  exact .inl ⟨i,t,rfl,e⟩
 |.inr x,v,h=>by
  obtain⟨t,e⟩:=Value.isStrOf_shape (x:=x) (v:=v) h
  exact .inr ⟨x,t,rfl,e⟩
theorem apT(i:Int)(t:Tok):ajN (.inl i) (.int i t)=true:=by simp[ajN,Value.isInt]
theorem apW(x:Str)(t:Tok):ajN (.inr x) (.str x t)=true:=by simp[ajN,Value.isStrOf]
theorem aGU(a b:Int):decide ((Sum.inl a:Key)=Sum.inl b)=(a==b):=by
 by_cases e:a=b
 ·subst e;simp
 ·have h:¬(Sum.inl a:Key)=Sum.inl b:=fun q=>e (Sum.inl.inj q)
  rw[decide_eq_false h]
  exact (beq_eq_false_iff_ne.mpr e).symm
theorem aH3(a b:Str):decide ((Sum.inr a:Key)=Sum.inr b)=decide (a=b):=by
 by_cases e:a=b
 ·subst e;simp
 ·have h:¬(Sum.inr a:Key)=Sum.inr b:=fun q=>e (Sum.inr.inj q)
  rw[decide_eq_false h,decide_eq_false e]
theorem aFN(a:Int)(b:Str):decide ((Sum.inl a:Key)=Sum.inr b)=false:=decide_eq_false (fun q=>nomatch q)
theorem aFO(a:Str)(b:Int):decide ((Sum.inr a:Key)=Sum.inl b)=false:=decide_eq_false (fun q=>nomatch q)
def ab5(prog:Program)(w:World):PySem.KeyKind prog w Key where
 is:=ajN
 hash:=keyH w
 inj:=fun v a b ha hb=>by
  rcases aa3 ha with ⟨i,t,rfl,rfl⟩ | ⟨x,t,rfl,rfl⟩
  ·rcases aa3 hb with ⟨j,u,rfl,e⟩ | ⟨y,u,rfl,e⟩
   ·injection e with e1 _;rw[e1]
   ·exact nomatch e
  ·rcases aa3 hb with ⟨j,u,rfl,e⟩ | ⟨y,u,rfl,e⟩
   ·exact nomatch e
   ·injection e with e1 _;rw[e1]
 byValue:=fun k v h=>by
  rcases aa3 h with ⟨i,t,rfl,rfl⟩ | ⟨x,t,rfl,rfl⟩<;>rfl
 pyHash:=fun hv h=>by
  rcases aa3 hv with ⟨i,t,rfl,rfl⟩ | ⟨x,t,rfl,rfl⟩
  ·exact wpAny_pyHash_int h
  ·exact wpAny_pyHash_str h
 eqBool:=fun hu hv h=>by
  rcases aa3 hu with ⟨i,t,rfl,rfl⟩ | ⟨x,t,rfl,rfl⟩
  ·rcases aa3 hv with ⟨j,u,rfl,rfl⟩ | ⟨y,u,rfl,rfl⟩
   ·rw[aGU] at h;exact wpAny_eqBool_int h
   ·rw[aFN] at h;exact SeqAt.EqAt.int_str i t y u _ _ _ _ h
  ·rcases aa3 hv with ⟨j,u,rfl,rfl⟩ | ⟨y,u,rfl,rfl⟩
   ·rw[aFO] at h;exact SeqAt.EqAt.str_int x t j u _ _ _ _ h
   ·rw[aH3] at h;exact wpAny_eqBool_str h
 «strs»:=fun k x t v h=>by
  rcases aa3 h with ⟨i,u,rfl,e⟩ | ⟨y,u,rfl,e⟩
  ·exact nomatch e
  ·injection e with e1 _
   subst e1
   cases v<;>rfl
theorem al5(prog:Program)(w:World)(i:Int)(t:Tok):(ab5 prog w).is (.inl i) (.int i t)=true:=apT i t
theorem alX(prog:Program)(w:World)(x:Str)(t:Tok):(ab5 prog w).is (.inr x) (.str x t)=true:=apW x t
inductive V where
 |non | bl (b:Bool) | int (i:Int) | str (x:Str) | byt (b:Array UInt8) | flt (b:UInt64) | ref (a:Addr) | ty (n:String)
 deriving DecidableEq
def RelV:V->Value->Prop
 |.non,u=>u=Value.none
 |.bl b,u=>u=Value.bool b
 |.int i,u=>∃t,u=Value.int i t
 |.str x,u=>∃t,u=Value.str x t
 |.byt b,u=>∃t,u=Value.bytes b t
 |.flt b,u=>∃t,u=Value.float b t
 |.ref a,u=>u=Value.ref a
 |.ty n,u=>u=Value.type n
abbrev Vals:List V->List Value->Prop:=Paired RelV
theorem Vals.length{xs:List V}{us:List Value}(r:Vals xs us):xs.length=us.length:=Paired.length r
theorem Vals.get:∀{xs:List V} {us:List Value} {i:Nat} {x:V},Vals xs us->xs[i]? =some x->∃u,us[i]? =some u/\RelV x u
 |_,_,_,_,.nil,e=>by simp at e
 |_,_,0,_,.cons r _,e=>by simp at e;subst e;exact⟨_,rfl,r⟩
 |_,_,i+1,x,.cons _ t,e=>by
  obtain⟨u,h1,h2⟩:=Vals.get (i:=i) (x:=x) t (by simpa using e)
  exact⟨u,by simpa using h1,h2⟩
theorem Vals.append:∀{xs ys:List V} {us ws:List Value},Vals xs us->Vals ys ws->Vals (xs++ys) (us++ws)
 |_,_,_,_,.nil,s=>s
 |_,_,_,_,.cons r t,s=>.cons r (Vals.append t s)
theorem Vals.take:∀{xs:List V} {us:List Value} (n:Nat),Vals xs us->Vals (xs.take n) (us.take n)
 |_,_,0,_=>.nil
 |_,_,_+1,.nil=>.nil
 |_,_,n+1,.cons r t=>.cons r (Vals.take n t)
theorem Vals.drop:∀{xs:List V} {us:List Value} (n:Nat),Vals xs us->Vals (xs.drop n) (us.drop n)
 |_,_,0,r=>r
 |_,_,_+1,.nil=>.nil
 |_,_,n+1,.cons _ t=>Vals.drop n t
def RelO:Option V->Option Value->Prop
 |some v,some u=>RelV v u
 |none,none=>True
 |_,_=>False
def KV{κ:Type}:List (κ×V)->List (κ×Value)->Prop:=Paired fun (p:κ×V) (q:κ×Value)=>p.1=q.1/\RelV p.2 q.2
def kV:Key->V
 |.inl i=>.int i
 |.inr x=>.str x
inductive HO where
 |lst (xs:List V)
 |tup (xs:List V)
 |dK (kvs:List (Key×V)) | dT (kvs:List (List Key×V))
 |set (S:Int->Bool) (n:Nat)
 |ins (C dx:Addr) (fs:List (Str×V))
 |own (x:Addr)
 |xd (fs:List (Str×V))
 |met (f x:Addr)
 |rng (lo hi:Int)
 |frz (o:Obj) (u:HO)
 |tbl (ps:Array Value)
 |ext (φ:Heap->Prop)
abbrev Hp:=Addr->Option HO
def upd(H:Hp)(a:Addr)(o:HO):Hp:=fun b=>if b=a then some o else H b
theorem aaA{H:Hp}{a:Addr}{o:HO}:upd H a o a=some o:=by unfold upd;rw[if_pos rfl]
theorem aaE{H:Hp}{a b:Addr}{o:HO}(h:b≠a):upd H a o b=H b:=by unfold upd;rw[if_neg h]
theorem aaJ{H:Hp}{a b:Addr}{o:HO}(h:H a=some o)(h':H b=none):a≠b:=by
 intro e;subst e;rw[h] at h';cases h'
section
variable(P:Program)(w:World)
def ObjOk(H:Hp)(h:Heap)(a:Addr):HO->Prop
 |.lst xs=>xs.length<=sizeLine/\∃(its:List Value) (n:Nat),Vals xs its/\h.get? a=some {cls:=.type "list",data:=.seq its.toArray n}
 |.tup xs=>xs.length<=sizeLine/\∃its:List Value,Vals xs its/\IsTup h a its.toArray
 |.dK kvs=>kvs.length<=sizeLine/\(a==sysModules)=false/\∃vs,KV kvs vs/\h.DictOf (ab5 P w) a vs
 |.dT kvs=>kvs.length<=sizeLine/\(a==sysModules)=false/\∃xs:List (List Key×Addr×Value),
   Paired (fun (p:List Key×V) (q:List Key×Addr×Value)=>p.1=q.1/\H q.2.1=some (.tup (p.1.map kV))/\RelV p.2 q.2.2) kvs xs/\
   ∃o es ep,h.get? a=some o/\o.ExactDict/\o.data=.dict es ep/\es.toList=xs.map (entryOfKey (tupleKind (ab5 P w)))/\(xs.map (·.1)).Nodup
 |.set S n=>h.SetOf (intKind P w) a S n
 |.ins C dx fs=>H dx=some (.own a)/\fs.length<=1000/\dx≠a/\h.get? a=some (PySem.W.instObj C dx)/\
   ∃mA,h.Ns1 dx mA/\(∀f,RelO (fs.lookup f) (mA f))/\PySem.Within mA (fs.map (·.1))
 |.own _=>∃o,h.get? a=some o
 |.xd fs=>∃mA,h.Ns1 a mA/\∀f,RelO (fs.lookup f) (mA f)
 |.rng lo hi=>∃t u v,h.get? a=some {cls:=.type "range",data:=.fields #[.int lo t,.int hi u,.int 1 v]}
 |.frz o u=>h.get? a=some o/\ObjOk H h a u
 |.tbl ps=>h.get? a=some {cls:=.none,data:=.fields ps}
 |.met f x=>h.get? a=some (PySem.W.methodObj (.ref f) (.ref x))
 |.ext φ=>φ h/\(∃o,h.get? a=some o)/\∀h1 h2:Heap,φ h1->(∀o,h1.get? a=some o->h2.get? a=some o)->φ h2
def HOk(H:Hp)(h:Heap):Prop:=∀a o,H a=some o->ObjOk P w H h a o
end
section
variable{P:Program}{w:World}{H H':Hp}{h h':Heap}{a:Addr}{o:HO}
theorem ObjOk.lt(x:ObjOk P w H h a o):a<h.objs.size:=by
 cases o with
 |lst xs=>obtain⟨_,_,_,_,e⟩:=x;exact Heap.lt_size e
 |tup xs=>obtain⟨_,_,_,p⟩:=x;exact p.lt
 |dK kvs=>obtain⟨_,_,_,_,o,_,_,e,_⟩:=x;exact Heap.lt_size e
 |dT kvs=>obtain⟨_,_,_,_,o,_,_,e,_⟩:=x;exact Heap.lt_size e
 |set S n=>obtain⟨o,_,_,_,e,_⟩:=x;exact Heap.lt_size e
 |ins C dx fs=>obtain⟨_,_,_,e,_⟩:=x;exact Heap.lt_size e
 |own y=>obtain⟨_,e⟩:=x;exact Heap.lt_size e
 |xd fs=>obtain⟨_,⟨_,_,_,e,_⟩,_⟩:=x;exact Heap.lt_size e
 |rng lo hi=>obtain⟨_,_,_,e⟩:=x;exact Heap.lt_size e
 |frz ob u=>obtain⟨e,_⟩:=x;exact Heap.lt_size e
 |tbl ps=>exact Heap.lt_size (show h.get? a=some _ from x)
 |met f y=>exact Heap.lt_size (show h.get? a=some _ from x)
 |ext φ=>obtain⟨_,⟨_,e⟩,_⟩:=x;exact Heap.lt_size e
theorem Paired.mapP{α β:Type}{F G:α->β->Prop}:∀{l₁:List α} {l₂:List β},Paired F l₁ l₂->(∀a b,F a b->G a b)->Paired G l₁ l₂
 |_,_,.nil,_=>.nil
 |_,_,.cons r t,f=>.cons (f _ _ r) (Paired.mapP t f)
theorem Paired.imp'{α β:Type}{F G:α->β->Prop}(f:∀a b,F a b->G a b){l₁:List α}{l₂:List β}(r:Paired F l₁ l₂):Paired G l₁ l₂:=Paired.mapP r f
theorem ObjOk.stay(x:ObjOk P w H h a o)(k:∀b u,(b=a∨H b=some (.own a))->h.get? b=some u->h'.get? b=some u)
  (ho:∀b,H b=some (.own a)->H' b=some (.own a)) (ht:∀b xs,H b=some (.tup xs)->H' b=some (.tup xs)):ObjOk P w H' h' a o:=by
 induction o with
 |lst xs=>obtain⟨z,its,n,r,e⟩:=x;exact⟨z,its,n,r,k _ _ (.inl rfl) e⟩
 |tup xs=>obtain⟨z,its,r,ob,e,c⟩:=x;exact⟨z,its,r,ob,k _ _ (.inl rfl) e,c⟩
 |dK kvs=>obtain⟨z,y,vs,r,ob,es,ep,e,c⟩:=x;exact⟨z,y,vs,r,ob,es,ep,k _ _ (.inl rfl) e,c⟩
 |dT kvs=>
  obtain⟨z,y,xs,r,ob,es,ep,e,c⟩:=x
  exact⟨z,y,xs,Paired.mapP r fun p q z=>⟨z.1,ht _ _ z.2.1,z.2.2⟩,ob,es,ep,k _ _ (.inl rfl) e,c⟩
 |set S n=>obtain⟨ob,es,ep,t,e,c⟩:=x;exact⟨ob,es,ep,t,k _ _ (.inl rfl) e,c⟩
 |ins C dx fs=>
  obtain⟨d,z,ne,e,mA,⟨od,es,ep,e2,c⟩,r⟩:=x
  exact⟨ho _ d,z,ne,k _ _ (.inl rfl) e,mA,⟨od,es,ep,k _ _ (.inr d) e2,c⟩,r⟩
 |own y=>obtain⟨ob,e⟩:=x;exact⟨ob,k _ _ (.inl rfl) e⟩
 |xd fs=>obtain⟨mA,⟨od,es,ep,e,c⟩,r⟩:=x;exact⟨mA,⟨od,es,ep,k _ _ (.inl rfl) e,c⟩,r⟩
 |rng lo hi=>obtain⟨t,u,v,e⟩:=x;exact⟨t,u,v,k _ _ (.inl rfl) e⟩
 |frz ob u ih=>obtain⟨e,q⟩:=x;exact⟨k _ _ (.inl rfl) e,ih q⟩
 |tbl ps=>
  have e:h.get? a=some {cls:=.none,data:=.fields ps}:=x
  show h'.get? a=some {cls:=.none,data:=.fields ps}
  exact k a _ (.inl rfl) e
 |met f y=>
  have e:h.get? a=some (PySem.W.methodObj (.ref f) (.ref y)):=x
  show h'.get? a=some (PySem.W.methodObj (.ref f) (.ref y))
  exact k a _ (.inl rfl) e
 |ext φ=>obtain⟨p,⟨o,e⟩,st⟩:=x;exact⟨st _ _ p fun o q=>k _ _ (.inl rfl) q,⟨o,k _ _ (.inl rfl) e⟩,st⟩
theorem HOk.lt(x:HOk P w H h)(e:H a=some o):a<h.objs.size:=(x a o e).lt
theorem HOk.fresh(x:HOk P w H h)(e:h.objs.size<=a):H a=none:=by
 cases q:H a with
 |none=>rfl
 |some u=>exact absurd (Nat.lt_of_lt_of_le (x.lt q) e) (Nat.lt_irrefl _)
theorem HOk.kept(x:HOk P w H h)(k:∀b u,h.get? b=some u->h'.get? b=some u):HOk P w H h':=fun a o e=>
 (x a o e).stay (fun b u _ q=>k b u q) (fun _ q=>q) fun _ _ q=>q
theorem HOk.laid(x:HOk P w H h)(k:∀b u,h.get? b=some u->h'.get? b=some u)(hp:h.objs.size<=a)(new:ObjOk P w (upd H a o) h' a o):HOk P w (upd H a o) h':=fun b u e=>by
 have hn:=x.fresh hp
 by_cases hb:b=a
 ·subst hb;rw[aaA] at e;cases e;exact new
 ·rw[aaE hb] at e
  exact (x b u e).stay (fun c v _ q=>k c v q) (fun c q=>by rw[aaE (aaJ q hn)];exact q) fun c xs q=>by rw[aaE (aaJ q hn)];exact q
end
def Rd(H:Hp)(a:Addr)(u:HO):Prop:=H a=some u∨∃o,H a=some (.frz o u)
theorem Rd.ok{P:Program}{w:World}{H:Hp}{h:Heap}{a:Addr}{u:HO}(r:Rd H a u)(x:HOk P w H h):ObjOk P w H h a u:=by
 rcases r with r | ⟨o,r⟩
 ·exact x a u r
 ·obtain⟨_,q⟩:=x a _ r
  exact q
def Mut:Option HO->Prop
 |some (.lst _)=>True
 |some (.dK _)=>True
 |some (.dT _)=>True
 |some (.set _ _)=>True
 |some (.ins _ _ _)=>True
 |some (.ext _)=>True
 |_=>False
section
variable{P:Program}{w:World}{H:Hp}{h h':Heap}{x e:Addr}{o':HO}
theorem HOk.write(ok:HOk P w H h)(mu:Mut (H x))(he:e=x∨H e=some (.own x))(k:∀b u,b≠e->h.get? b=some u->h'.get? b=some u)(heo:∃u,h'.get? e=some u)
  (new:ObjOk P w (upd H x o') h' x o'):HOk P w (upd H x o') h':=fun b u q=>by
 have nown:∀c y,H c=some (.own y)->c≠x:=fun c y r z=>by subst z;rw[r] at mu;exact mu
 have ntup:∀c xs,H c=some (.tup xs)->c≠x:=fun c xs r z=>by subst z;rw[r] at mu;exact mu
 by_cases hb:b=x
 ·subst hb;rw[aaA] at q;cases q;exact new
 ·rw[aaE hb] at q
  by_cases hbe:b=e
  ·have q':H b=some (.own x):=by
    rcases he with z | z
    ·exact absurd (hbe.trans z) hb
    ·rw[hbe];exact z
   rw[q] at q';cases q'
   obtain⟨v,hv⟩:=heo
   exact⟨v,by rw[hbe];exact hv⟩
  ·refine (ok b u q).stay (fun c v hc r=>k c v ?_ r) (fun c r=>by rw[aaE (nown c b r)];exact r) fun c xs r=>by rw[aaE (ntup c xs r)];exact r
   rcases hc with rfl | hc
   ·exact hbe
   ·rintro rfl
    rcases he with z | z
    ·exact nown c b hc z
    ·rw[hc] at z;cases z;exact hb rfl
end
structure Un(fs ex:List Addr)(H H':Hp)(h h':Heap):Prop where
 keep:∀b o,h.get? b=some o->H b=none->b∉fs->b∉ex->h'.get? b=some o
 slot:∀b o,h.get? b=some o->H b=none->b∈fs->b∉ex->∃sl,h'.get? b=some {o with slots:=sl}
 free:∀b o,h.get? b=some o->H b=none->b∉ex->H' b=none
 there:∀b o,h.get? b=some o->b∉ex->∃o',h'.get? b=some o'
 tups:∀b xs,H b=some (.tup xs)->H' b=some (.tup xs)
 frzs:∀b o u,H b=some (.frz o u)->H' b=some (.frz o u)
 tbls:∀b ps,H b=some (.tbl ps)->∃more,H' b=some (.tbl (ps++more))
section
variable{fs fs' ex ex':List Addr}{H H1 H2:Hp}{h h1 h2 h':Heap}{a x e:Addr}{o:HO}
theorem Un.any(u:Un fs ex H H1 h h1){b:Addr}{ob:Obj}(q:h.get? b=some ob)(n:H b=none)(hx:b∉ex):∃sl,h1.get? b=some {ob with slots:=sl}:=by
 by_cases hb:b∈fs
 ·exact u.slot b ob q n hb hx
 ·exact⟨ob.slots,u.keep b ob q n hb hx⟩
theorem Un.trans(a:Un fs ex H H1 h h1)(b:Un fs ex H1 H2 h1 h2):Un fs ex H H2 h h2 where
 keep:=fun c ob q n hc hx=>b.keep c ob (a.keep c ob q n hc hx) (a.free c ob q n hx) hc hx
 slot:=fun c ob q n hc hx=>by
  obtain⟨sl,e1⟩:=a.slot c ob q n hc hx
  obtain⟨sl',e2⟩:=b.slot c _ e1 (a.free c ob q n hx) hc hx
  exact⟨sl',e2⟩
 free:=fun c ob q n hx=>by
  obtain⟨o',e1⟩:=a.there c ob q hx
  exact b.free c o' e1 (a.free c ob q n hx) hx
 there:=fun c ob q hx=>by
  obtain⟨o',e1⟩:=a.there c ob q hx
  exact b.there c o' e1 hx
 tups:=fun c xs q=>b.tups c xs (a.tups c xs q)
 frzs:=fun c ob xs q=>b.frzs c ob xs (a.frzs c ob xs q)
 tbls:=fun c ps q=>by
  obtain⟨m1,e1⟩:=a.tbls c ps q
  obtain⟨m2,e2⟩:=b.tbls c _ e1
  exact⟨m1++m2,by rw[e2,Array.append_assoc]⟩
theorem Un.kept(k:∀b u,h.get? b=some u->h'.get? b=some u):Un fs ex H H h h':=
 ⟨fun b ob q _ _ _=>k b ob q,fun b ob q _ _ _=>⟨ob.slots,k b ob q⟩,fun _ _ _ n _=>n,fun b ob q _=>⟨ob,k b ob q⟩,fun _ _ q=>q,fun _ _ _ q=>q,fun _ ps q=>⟨#[],by rw[q];simp⟩⟩
theorem Un.refl:Un fs ex H H h h:=Un.kept fun _ _ q=>q
theorem Un.laid(k:∀b u,h.get? b=some u->h'.get? b=some u)(hp:h.objs.size<=a)(hn:H a=none):Un fs ex H (upd H a o) h h' where
 keep:=fun b u q _ _ _=>k b u q
 slot:=fun b u q _ _ _=>⟨u.slots,k b u q⟩
 free:=fun b u q n _=>by rw[aaE (Nat.ne_of_lt (Nat.lt_of_lt_of_le (Heap.lt_size q) hp))];exact n
 there:=fun b u q _=>⟨u,k b u q⟩
 tups:=fun b xs q=>by rw[aaE (aaJ q hn)];exact q
 frzs:=fun b u xs q=>by rw[aaE (aaJ q hn)];exact q
 tbls:=fun b ps q=>⟨#[],by rw[aaE (aaJ q hn),q];simp⟩
theorem Un.write(mu:Mut (H x))(he:e=x∨H e=some (.own x))(k:∀b u,b≠e->h.get? b=some u->h'.get? b=some u)(heo:∃u,h'.get? e=some u):Un fs ex H (upd H x o) h h':=by
 have hx:∀b,H b=none->b≠x:=fun b n z=>by subst z;rw[n] at mu;exact mu
 have hb:∀b,H b=none->b≠e:=fun b n z=>by
  subst z
  rcases he with r | r
  ·exact hx b n r
  ·rw[n] at r;cases r
 have hm:∀b u,H b=some u->¬Mut (some u)->b≠x:=fun b u q nm z=>by subst z;rw[q] at mu;exact nm mu
 refine⟨fun b u q n _ _=>k b u (hb b n) q,fun b u q n _ _=>⟨u.slots,k b u (hb b n) q⟩,fun b u q n _=>by rw[aaE (hx b n)];exact n,fun b u q _=>?_,
  fun b xs q=>by rw[aaE (hm b _ q fun z=>z)];exact q,fun b u xs q=>by rw[aaE (hm b _ q fun z=>z)];exact q,fun b ps q=>⟨#[],by rw[aaE (hm b _ q fun z=>z),q];simp⟩⟩
 by_cases hbe:b=e
 ·subst hbe;exact heo
 ·exact⟨u,k b u hbe q⟩
end
def trk(h:Heap)(H:Hp):List Addr:=(List.range h.objs.size).filter fun a=>(H a).isSome
def akH(h:Heap)(H:Hp):Heap:=PySem.W.hideAll h (trk h H)
theorem arN(h:Heap)(H:Hp):(akH h H).objs.size=h.objs.size:=PySem.W.hideAll_size _ _
theorem axS{h:Heap}{H:Hp}{b:Addr}{o:Obj}(e:h.get? b=some o)(n:H b=none):(akH h H).get? b=some o:=
 PySem.W.hideAll_get _ e fun hm=>by
  have q:(H b).isSome=true:=(List.mem_filter.mp hm).2
  rw[n] at q;simp at q
theorem aBP{h:Heap}{H:Hp}{b:Addr}{o:Obj}(e:(akH h H).get? b=some o):h.get? b=some o/\H b=none:=by
 have e':h.get? b=some o:=PySem.W.of_hideAll (trk h H) e
 refine⟨e',?_⟩
 cases q:H b with
 |none=>rfl
 |some x=>
  have hm:b∈trk h H:=List.mem_filter.mpr ⟨List.mem_range.mpr (Heap.lt_size e'),by simp[q]⟩
  have z:(akH h H).get? b=none:=PySem.W.hideAll_none (trk h H) hm
  rw[z] at e;cases e
def ay3(g h:Heap)(L:Addr):List (Addr×Obj):=(List.range h.objs.size).filterMap fun a=>if a=L∨(g.get? a).isSome=true then none else (h.get? a).map fun o=>(a,o)
def rest(g h:Heap)(L d:Addr):List (Addr×Obj):=(ay3 g h L).filter fun p=>decide (p.1≠d)
structure Mod(K:PySem.W.Frag)(mg:Str->Option Value)(base:Heap):Prop where
 kin:K.In base
 glob:base.Ns mainGlobals mg
 blt:∃mb,base.Ns builtinsNs mb/\∀x:Str,x≠"__name__"->mb x=bootBuiltins x
 nolimit:base.NoLimit
structure Cx where
 prog:Program
 w:World
 K:PySem.W.Frag
 mg:Str->Option Value
 base:Heap
 A:Around
 N:List Str
 s₀:Shared
 H₀:Hp
 env:Env
 outer:List Env
 stack:List Env
 ex:List Addr
 fn:Str->Bool
 calm:Bool
 pn:List (Addr×Obj)
 xe:Value->Shared->Prop
def frs(l:List Env):List Addr:=l.filterMap (·.frame)
abbrev Cx.fs(X:Cx):List Addr:=frs X.outer
def Vis(sc:Scope)(x:Str):Prop:=sc.names.lookup x=some .local∨sc.names.lookup x=some .cell∨sc.names.lookup x=some .free
def Loc(sc:Scope)(x:Str):Prop:=sc.names.lookup x=some .local∨sc.names.lookup x=some .cell
def Look(env:Env)(h:Heap)(m:Str->Option Value)(x:Str)(u:Value):Prop:=
 (env.kindOf x=some .local/\m x=some u)∨((env.kindOf x=some .cell∨env.kindOf x=some .free)/\∃c,env.cells.lookup x=some c/\h.IsCell c (some u))
structure Cx.Ok(X:Cx):Prop where
 mod:Mod X.K X.mg X.base
 kind:X.env.scope.kind=.function
 glob:X.env.globals=mainGlobals
 blt:X.env.builtins=builtinsNs
 above:X.s₀.heap.objs.size<=X.env.locals
 inj:∀x y c,X.env.cells.lookup x=some c->X.env.cells.lookup y=some c->x=y
 has:∀x,(X.env.kindOf x=some .cell∨X.env.kindOf x=some .free)->∃c,X.env.cells.lookup x=some c
 cab:∀x c,X.fn x=true->X.env.cells.lookup x=some c->X.s₀.heap.objs.size<=c
 hd:X.calm=true->X.A.handled=none
 frames:X.A.frames=some X.stack
 stk:X.stack=X.outer∨(X.stack=X.env::X.outer/\X.env.frame=some X.env.locals)
 exf:∀b∈X.ex,b≠X.env.locals/\∀x c,X.env.cells.lookup x=some c->c≠b
 bs:∀b o,X.base.get? b=some o->X.s₀.heap.get? b=some o/\X.H₀ b=none
 bsz:X.base.objs.size<=X.s₀.heap.objs.size
 noex:∀b o,X.base.get? b=some o->b∉X.ex
 exfs:∀b∈X.ex,b∉X.fs
 funs:X.s₀.heap.FunFrames X.base X.outer
 frf:∀b∈X.fs,X.H₀ b=none
structure Inv(X:Cx)(pins:List (Addr×Obj))(σ:List (Option V))(H:Hp)(s:Shared):Prop where
 ok:X.Ok
 os:s.os=X.s₀.os
 bare:AllBare s.gens
 base:Un X.fs X.ex X.H₀ H X.s₀.heap s.heap
 loc:∃m,s.heap.Ns X.env.locals m/\∀(i:Nat) (x:Str) (v:V),X.N[i]? =some x->σ[i]? =some (some v)->Vis X.env.scope x->∃u,RelV v u/\Look X.env s.heap m x u
 cell:∀x c,X.env.cells.lookup x=some c->∃v,s.heap.IsCell c v
 free:H X.env.locals=none
 freeC:∀x c,X.env.cells.lookup x=some c->H c=none
 pin:∀p∈X.pn++pins,s.heap.get? p.1=some p.2/\H p.1=none/\p.1≠X.env.locals/\p.1∉X.fs/\∀v,p.2.data≠ .cell v
 hok:HOk X.prog X.w H s.heap
 len:σ.length=X.N.length
section
variable{X:Cx}{pins:List (Addr×Obj)}{σ:List (Option V)}{H H':Hp}{s:Shared}{h':Heap}
theorem Cx.Ok.nofr(ok:X.Ok){b:Addr}{o:Obj}(e:X.base.get? b=some o):b∉X.fs:=fun hb=>by
 have:=(ok.funs.mem hb).1
 rw[e] at this;cases this
theorem Inv.bs(I:Inv X pins σ H s):∀b o,X.base.get? b=some o->s.heap.get? b=some o/\H b=none:=fun b o e=>
 ⟨I.base.keep b o (I.ok.bs b o e).1 (I.ok.bs b o e).2 (I.ok.nofr e) (I.ok.noex b o e),I.base.free b o (I.ok.bs b o e).1 (I.ok.bs b o e).2 (I.ok.noex b o e)⟩
theorem Inv.bk(I:Inv X pins σ H s):∀b o,X.base.get? b=some o->s.heap.get? b=some o:=fun b o e=>(I.bs b o e).1
theorem Inv.mod(I:Inv X pins σ H s):Mod X.K X.mg X.base:=I.ok.mod
theorem Inv.kIn(I:Inv X pins σ H s):X.K.In s.heap:=I.ok.mod.kin.keeps I.bk
theorem Inv.lt(I:Inv X pins σ H s):X.env.locals<s.heap.objs.size:=let ⟨_,hn,_⟩:=I.loc;hn.lt
theorem Inv.sz(I:Inv X pins σ H s):X.s₀.heap.objs.size<=s.heap.objs.size:=Nat.le_trans I.ok.above (Nat.le_of_lt I.lt)
theorem Inv.nofs(I:Inv X pins σ H s){a:Addr}(h:s.heap.objs.size<=a):a∉X.fs:=fun hb=>by
 obtain⟨_,o,ho,_⟩:=I.ok.funs.mem hb
 exact absurd (Nat.lt_of_lt_of_le (Heap.lt_size ho) (Nat.le_trans I.sz h)) (Nat.lt_irrefl _)
theorem Inv.cne(I:Inv X pins σ H s):∀x c,X.env.cells.lookup x=some c->c≠X.env.locals:=fun x c e z=>by
 obtain⟨v,o,ho,hd⟩:=I.cell x c e
 obtain⟨m,⟨o',es,ep,ho',hd',_⟩,_⟩:=I.loc
 rw[z,ho'] at ho;cases ho;rw[hd'] at hd;cases hd
theorem Inv.funs(I:Inv X pins σ H s):s.heap.FunFrames X.base X.outer:=by
 have all:∀(l:List Env),(∀b∈frs l,b∈X.fs)->X.s₀.heap.FunFrames X.base l->s.heap.FunFrames X.base l:=by
  intro l
  induction l with
  |nil=>intro _ _;trivial
  |cons env r ih=>
   intro hs hl
   obtain⟨hk,⟨L,o,hf,hn,ho,hd⟩,hr⟩:=hl
   have hL:L∈X.fs:=hs L (by unfold frs;rw[List.filterMap_cons,hf];exact List.mem_cons_self)
   obtain⟨sl,e⟩:=I.base.slot L o ho (I.ok.frf L hL) hL fun z=>I.ok.exfs L z hL
   exact⟨hk,⟨L,_,hf,hn,e,hd⟩,ih (fun b hb=>hs b (by unfold frs;rw[List.filterMap_cons,hf];exact List.mem_cons_of_mem _ hb)) hr⟩
 exact all X.outer (fun _ hb=>hb) I.ok.funs
theorem Inv.stack(I:Inv X pins σ H s):s.heap.FunFrames X.base X.stack:=by
 rcases I.ok.stk with e | ⟨e,hf⟩
 ·rw[e];exact I.funs
 ·rw[e]
  obtain⟨m,hn,_⟩:=I.loc
  refine .cons (by rw[I.ok.kind];decide) hf hn ?_ I.funs
  exact Heap.get?_none_of_le (Nat.le_trans I.ok.bsz I.ok.above)
theorem Inv.stkSub(I:Inv X pins σ H s):∀b∈frs X.stack,b∈X.env.locals::X.fs:=fun b hb=>by
 rcases I.ok.stk with e | ⟨e,hf⟩
 ·rw[e] at hb;exact List.mem_cons_of_mem _ hb
 ·rw[e] at hb
  unfold frs at hb
  rw[List.filterMap_cons,hf] at hb
  exact hb
theorem Inv.stkFree(I:Inv X pins σ H s):∀b∈frs X.stack,H b=none:=fun b hb=>by
 rcases List.mem_cons.mp (I.stkSub b hb) with e | hb
 ·rw[e];exact I.free
 ·obtain⟨_,o,ho,_⟩:=I.ok.funs.mem hb
  exact I.base.free b o ho (I.ok.frf b hb) fun z=>I.ok.exfs b z hb
theorem Inv.step{g':Array GenState}{t':Nat}{d':Drawn}{ch:List Addr}(I:Inv X pins σ H s)
  (hch:∀b∈ch,(b∈X.ex∨X.s₀.heap.objs.size<=b)/\b≠X.env.locals/\(∀x c,X.env.cells.lookup x=some c->c≠b)/\∀p∈X.pn++pins,p.1≠b)
  (keep:∀b o,b≠X.env.locals->b∉X.fs->b∉ch->s.heap.get? b=some o->H b=none->h'.get? b=some o)
  (slot:∀b o,b≠X.env.locals->b∈X.fs->b∉ch->s.heap.get? b=some o->H b=none->∃sl,h'.get? b=some {o with slots:=sl}) (free:∀b o,b∉ch->s.heap.get? b=some o->H b=none->H' b=none)
  (there:∀b o,b∉ch->s.heap.get? b=some o->∃o',h'.get? b=some o')
  (tups:∀b xs,H b=some (.tup xs)->H' b=some (.tup xs)) (frzs:∀b o u,H b=some (.frz o u)->H' b=some (.frz o u)) (tbls:∀b ps,H b=some (.tbl ps)->∃more,H' b=some (.tbl (ps++more)))
  (ns:∀m,s.heap.Ns X.env.locals m->h'.Ns X.env.locals m) (hok:HOk X.prog X.w H' h') (hg:AllBare g'):
  Inv X pins σ H' {s with heap:=h',gens:=g',drawn:=d',toks:=t'}:=by
 have neL:∀b o,X.s₀.heap.get? b=some o->b≠X.env.locals:=fun b o e=>Nat.ne_of_lt (Nat.lt_of_lt_of_le (Heap.lt_size e) I.ok.above)
 have neC:∀b o,X.s₀.heap.get? b=some o->b∉X.ex->b∉ch:=fun b o e hx hb=>by
  rcases (hch b hb).1 with z | z
  ·exact hx z
  ·exact absurd (Nat.lt_of_lt_of_le (Heap.lt_size e) z) (Nat.lt_irrefl _)
 have cellK:∀x c,X.env.cells.lookup x=some c->∀v,s.heap.IsCell c v->h'.IsCell c v:=fun x c e v ⟨o,ho,hd⟩=>by
  have nch:c∉ch:=fun z=>(hch c z).2.2.1 x c e rfl
  by_cases hc:c∈X.fs
  ·obtain⟨sl,q⟩:=slot c o (I.cne x c e) hc nch ho (I.freeC x c e)
   exact⟨_,q,hd⟩
  ·exact⟨o,keep c o (I.cne x c e) hc nch ho (I.freeC x c e),hd⟩
 refine⟨I.ok,I.os,hg,⟨fun b o e n hb hx=>?_,fun b o e n hb hx=>?_,fun b o e n hx=>?_,fun b o e hx=>?_,fun b xs e=>tups b xs (I.base.tups b xs e),fun b o xs e=>frzs b o xs (I.base.frzs b o xs e),fun b ps e=>?_⟩,?_,fun x c e=>?_,?_,fun x c e=>?_,fun p hp=>?_,hok,I.len⟩
 ·exact keep b o (neL b o e) hb (neC b o e hx) (I.base.keep b o e n hb hx) (I.base.free b o e n hx)
 ·obtain⟨sl,e1⟩:=I.base.slot b o e n hb hx
  obtain⟨sl',e2⟩:=slot b _ (neL b o e) hb (neC b o e hx) e1 (I.base.free b o e n hx)
  exact⟨sl',e2⟩
 ·obtain⟨o',e1⟩:=I.base.there b o e hx
  exact free b o' (neC b o e hx) e1 (I.base.free b o e n hx)
 ·obtain⟨o',e1⟩:=I.base.there b o e hx
  exact there b o' (neC b o e hx) e1
 ·obtain⟨m1,e1⟩:=I.base.tbls b ps e
  obtain⟨m2,e2⟩:=tbls b _ e1
  exact⟨m1++m2,by rw[e2,Array.append_assoc]⟩
 ·obtain⟨m,hn,hl⟩:=I.loc
  refine⟨m,ns m hn,fun i x v e1 e2 e3=>?_⟩
  obtain⟨u,r,l⟩:=hl i x v e1 e2 e3
  refine⟨u,r,?_⟩
  rcases l with l | ⟨k,c,e,z⟩
  ·exact .inl l
  ·exact .inr ⟨k,c,e,cellK x c e _ z⟩
 ·obtain⟨v,z⟩:=I.cell x c e
  exact⟨v,cellK x c e v z⟩
 ·obtain⟨m,⟨o,_,_,ho,_⟩,_⟩:=I.loc
  exact free _ o (fun z=>(hch _ z).2.1 rfl) ho I.free
 ·obtain⟨v,o,ho,hd⟩:=I.cell x c e
  exact free c o (fun z=>(hch c z).2.2.1 x c e rfl) ho (I.freeC x c e)
 ·obtain⟨e,n,ne,nf,d⟩:=I.pin p hp
  have nch:p.1∉ch:=fun z=>(hch p.1 z).2.2.2 p hp rfl
  exact⟨keep p.1 p.2 ne nf nch e n,free p.1 p.2 nch e n,ne,nf,d⟩
theorem Inv.un{t':Nat}(I:Inv X pins σ H s)(u:Un X.fs [] H H' s.heap h')(hok:HOk X.prog X.w H' h'):Inv X pins σ H' {s with heap:=h',toks:=t'}:=by
 obtain⟨m,⟨o,es,ep,ho,r⟩,_⟩:=id I.loc
 obtain⟨sl,hL⟩:=u.any ho I.free (by simp)
 exact I.step (g':=s.gens) (d':=s.drawn) (ch:=[]) (fun _ z=>nomatch z) (fun b o _ hb _ e n=>u.keep b o e n hb (by simp)) (fun b o _ hb _ e n=>u.slot b o e n hb (by simp)) (fun b o _ e n=>u.free b o e n (by simp)) (fun b o _ e=>u.there b o e (by simp)) u.tups u.frzs u.tbls (fun m' hm=>by
  obtain⟨o',es',ep',ho',r'⟩:=hm
  rw[ho] at ho';cases ho'
  exact⟨_,es',ep',hL,r'⟩) hok I.bare
theorem Inv.call{g':Array GenState}{t':Nat}{d':Drawn}{ch:List Addr}(I:Inv X pins σ H s)(u:Un (frs X.stack) ch H H' s.heap h')(hok:HOk X.prog X.w H' h')(hg:AllBare g')
  (hch:∀b∈ch,(b∈X.ex∨X.s₀.heap.objs.size<=b)/\b≠X.env.locals/\(∀x c,X.env.cells.lookup x=some c->c≠b)/\∀p∈X.pn++pins,p.1≠b):
  Inv X pins σ H' {s with heap:=h',gens:=g',drawn:=d',toks:=t'}:=by
 obtain⟨m,⟨o,es,ep,ho,r⟩,_⟩:=id I.loc
 obtain⟨sl,hL⟩:=u.any ho I.free fun z=>(hch _ z).2.1 rfl
 exact I.step (ch:=ch) hch (fun b o hL hb hc e n=>u.keep b o e n (fun z=>(List.mem_cons.mp (I.stkSub b z)).elim hL hb) hc) (fun b o _ _ hc e n=>u.any e n hc) (fun b o hc e n=>u.free b o e n hc) (fun b o hc e=>u.there b o e hc) u.tups u.frzs u.tbls (fun m' hm=>by
  obtain⟨o',es',ep',ho',r'⟩:=hm
  rw[ho] at ho';cases ho'
  exact⟨_,es',ep',hL,r'⟩) hok hg
theorem Inv.turned{t':Nat}{it:Addr}(I:Inv X pins σ H s)(k:∀b o,b≠it->s.heap.get? b=some o->h'.get? b=some o)(hn:H it=none)(hL:it≠X.env.locals)
  (h1:it∈X.ex∨X.s₀.heap.objs.size<=it) (h2:∀x c,X.env.cells.lookup x=some c->c≠it) (h3:∀p∈X.pn++pins,p.1≠it):Inv X pins σ H {s with heap:=h',toks:=t'}:=by
 have nit:∀b u,H b=some u->b≠it:=fun b u e z=>by rw[z,hn] at e;cases e
 refine I.step (g':=s.gens) (d':=s.drawn) (ch:=[it]) (fun b hb=>?_) (fun b o _ _ hc e _=>k b o (fun z=>hc (by simp[z])) e) (fun b o _ _ hc e _=>⟨o.slots,k b o (fun z=>hc (by simp[z])) e⟩) (fun _ _ _ _ n=>n)
  (fun b o hc e=>⟨o,k b o (fun z=>hc (by simp[z])) e⟩) (fun _ _ e=>e) (fun _ _ _ e=>e) (fun b ps e=>⟨#[],by rw[e];simp⟩) (fun m hm=>?_) (fun b u e=>?_) I.bare
 ·have e:b=it:=by simpa using hb
  subst e
  exact⟨h1,hL,h2,h3⟩
 ·obtain⟨o,es,ep,ho,r⟩:=hm
  exact⟨o,es,ep,k _ o (Ne.symm hL) ho,r⟩
 ·refine (I.hok b u e).stay (fun c v hc q=>k c v ?_ q) (fun _ q=>q) fun _ _ q=>q
  rcases hc with z | z
  ·rw[z];exact nit b u e
  ·exact nit c _ z
theorem Inv.tok(I:Inv X pins σ H s)(t:Nat):Inv X pins σ H {s with toks:=t}:=I.un (h':=s.heap) (t':=t) Un.refl I.hok
theorem Inv.kept{t':Nat}(I:Inv X pins σ H s)(k:∀b u,s.heap.get? b=some u->h'.get? b=some u):Inv X pins σ H {s with heap:=h',toks:=t'}:=I.un (Un.kept k) (I.hok.kept k)
theorem Inv.laid{a:Addr}{o:HO}{t':Nat}(I:Inv X pins σ H s)(k:∀b u,s.heap.get? b=some u->h'.get? b=some u)(hp:s.heap.objs.size<=a)(new:ObjOk X.prog X.w (upd H a o) h' a o):
  Inv X pins σ (upd H a o) {s with heap:=h',toks:=t'}:=I.un (Un.laid k hp (I.hok.fresh hp)) (I.hok.laid k hp new)
theorem Inv.write{x e:Addr}{o:HO}{t':Nat}(I:Inv X pins σ H s)(mu:Mut (H x))(he:e=x∨H e=some (.own x))(k:∀b u,b≠e->s.heap.get? b=some u->h'.get? b=some u)(heo:∃u,h'.get? e=some u)
  (new:ObjOk X.prog X.w (upd H x o) h' x o):Inv X pins σ (upd H x o) {s with heap:=h',toks:=t'}:=I.un (Un.write mu he k heo) (I.hok.write mu he k heo new)
theorem Inv.pins_of{pins':List (Addr×Obj)}(I:Inv X pins σ H s)(h:∀p∈pins',s.heap.get? p.1=some p.2/\H p.1=none/\p.1≠X.env.locals/\p.1∉X.fs/\∀v,p.2.data≠ .cell v):Inv X pins' σ H s:=
 ⟨I.ok,I.os,I.bare,I.base,I.loc,I.cell,I.free,I.freeC,fun p hp=>(List.mem_append.mp hp).elim (fun z=>I.pin p (List.mem_append_left _ z)) (h p),I.hok,I.len⟩
theorem amA{N:List Str}(hN:N.Nodup){i j:Nat}{x:Str}(a:N[i]? =some x)(b:N[j]? =some x):i=j:=by
 obtain⟨h1,e1⟩:=List.getElem?_eq_some_iff.mp a
 obtain⟨h2,e2⟩:=List.getElem?_eq_some_iff.mp b
 exact (List.getElem_inj hN).mp (e1.trans e2.symm)
theorem ajG{M:Model}{A:Around}{E:Value->Shared->Prop}{i:Nat}{x:Str}{v:V}{u:Value}{Q:Unit->Shared->Prop}(I:Inv X pins σ H s)(hN:X.N.Nodup)(hi:X.N[i]? =some x)(hx:Loc X.env.scope x)(r:RelV v u)
  (h:∀s',Inv X pins (σ.set i (some v)) H s'->(∃a,Heap.SameBut a s.heap s'.heap/\(a=X.env.locals∨X.env.cells.lookup x=some a))->Q () s') (hf:X.fn x=true∨X.env.scope.names.lookup x=some .local:=by first | exact .inl rfl | exact .inr rfl | assumption):wpAny M A (storeName X.env x u) Q E s:=by
 obtain⟨m,hn,hl⟩:=id I.loc
 have hcls:(X.env.scope.kind== .class||(X.env.scope.kind== .module&&X.env.locals !=X.env.globals))=false:=by rw[I.ok.kind];rfl
 have hiσ:i<σ.length:=by rw[I.len];exact (List.getElem?_eq_some_iff.mp hi).1
 have cne:=I.cne
 have tracked:∀{a:Addr} {h':Heap},(∃o,s.heap.get? a=some o/\H a=none)->Heap.SameBut a s.heap h'->HOk X.prog X.w H h':=fun {a h'} ha hs b ob e=>by
  obtain⟨_,_,hfree⟩:=ha
  refine (I.hok b ob e).stay (fun c w' hc q=>(hs.2 c ?_).trans q) (fun _ q=>q) fun _ _ q=>q
  rintro rfl
  rcases hc with rfl | hc
  ·rw[hfree] at e;cases e
  ·rw[hfree] at hc;cases hc
 rcases hx with hk | hk
 ·refine wpAny_storeName_local hk hn (fun h' hn' hs=>?_) hcls
  obtain⟨oL,_,_,hoL,_⟩:=id hn
  refine h _ ⟨I.ok,I.os,I.bare,⟨fun b o e n hb hx=>?_,fun b o e n hb hx=>?_,I.base.free,fun b o e hx=>?_,I.base.tups,I.base.frzs,I.base.tbls⟩,⟨_,hn',fun j y v' e1 e2 e3=>?_⟩,fun y c e=>?_,I.free,I.freeC,fun p hp=>?_,tracked ⟨oL,hoL,I.free⟩ hs,by simpa using I.len⟩ ⟨_,hs,.inl rfl⟩
  ·exact (hs.2 b (Nat.ne_of_lt (Nat.lt_of_lt_of_le (Heap.lt_size e) I.ok.above))).trans (I.base.keep b o e n hb hx)
  ·obtain⟨sl,e1⟩:=I.base.slot b o e n hb hx
   exact⟨sl,(hs.2 b (Nat.ne_of_lt (Nat.lt_of_lt_of_le (Heap.lt_size e) I.ok.above))).trans e1⟩
  ·obtain⟨o',e1⟩:=I.base.there b o e hx
   exact⟨o',(hs.2 b (Nat.ne_of_lt (Nat.lt_of_lt_of_le (Heap.lt_size e) I.ok.above))).trans e1⟩
  ·by_cases hj:j=i
   ·subst hj
    rw[hi] at e1;cases e1
    rw[List.getElem?_set_self hiσ] at e2
    cases e2
    exact⟨u,r,.inl ⟨hk,by simp⟩⟩
   ·rw[List.getElem?_set_ne (Ne.symm hj)] at e2
    obtain⟨u',r',q⟩:=hl j y v' e1 e2 e3
    refine⟨u',r',?_⟩
    rcases q with ⟨k,e⟩ | ⟨k,c,e,z⟩
    ·refine .inl ⟨k,?_⟩
     have:y≠x:=fun e=>hj (amA hN e1 (e▸hi))
     simp[this,e]
    ·exact .inr ⟨k,c,e,z.sameBut hs (cne y c e)⟩
  ·obtain⟨w',z⟩:=I.cell y c e
   exact⟨w',z.sameBut hs (cne y c e)⟩
  ·obtain⟨e,n,ne,nf,d⟩:=I.pin p hp
   exact⟨(hs.2 p.1 ne).trans e,n,ne,nf,d⟩
 ·have hfn:X.fn x=true:=by
   rcases hf with z | z
   ·exact z
   ·rw[z] at hk;cases hk
  obtain⟨c,hc⟩:=I.ok.has x (.inl hk)
  obtain⟨w',z⟩:=I.cell x c hc
  refine wpAny_storeName_cell I.ok.kind hk hc z (fun h' hc' hs=>?_)
  obtain⟨oc,hoc,hocd⟩:=id z
  refine h {s with heap:=h'} ⟨I.ok,I.os,I.bare,⟨fun b o e n hb hx=>?_,fun b o e n hb hx=>?_,I.base.free,fun b o e hx=>?_,I.base.tups,I.base.frzs,I.base.tbls⟩,⟨m,hn.sameBut hs (Ne.symm (cne x c hc)),fun j y v' e1 e2 e3=>?_⟩,fun y c' e=>?_,I.free,I.freeC,fun p hp=>?_,tracked ⟨oc,hoc,I.freeC x c hc⟩ hs,by simpa using I.len⟩ ⟨c,hs,.inr hc⟩
  ·exact (hs.2 b (Nat.ne_of_lt (Nat.lt_of_lt_of_le (Heap.lt_size e) (I.ok.cab x c hfn hc)))).trans (I.base.keep b o e n hb hx)
  ·obtain⟨sl,e1⟩:=I.base.slot b o e n hb hx
   exact⟨sl,(hs.2 b (Nat.ne_of_lt (Nat.lt_of_lt_of_le (Heap.lt_size e) (I.ok.cab x c hfn hc)))).trans e1⟩
  ·obtain⟨o',e1⟩:=I.base.there b o e hx
   exact⟨o',(hs.2 b (Nat.ne_of_lt (Nat.lt_of_lt_of_le (Heap.lt_size e) (I.ok.cab x c hfn hc)))).trans e1⟩
  ·by_cases hj:j=i
   ·subst hj
    rw[hi] at e1;cases e1
    rw[List.getElem?_set_self hiσ] at e2
    cases e2
    exact⟨u,r,.inr ⟨.inl hk,c,hc,hc'⟩⟩
   ·rw[List.getElem?_set_ne (Ne.symm hj)] at e2
    obtain⟨u',r',q⟩:=hl j y v' e1 e2 e3
    refine⟨u',r',?_⟩
    rcases q with q | ⟨k,c',e,z'⟩
    ·exact .inl q
    ·refine .inr ⟨k,c',e,z'.sameBut hs ?_⟩
     rintro rfl
     exact hj (amA hN e1 (I.ok.inj _ _ _ e hc▸hi))
  ·by_cases hcc:c'=c
   ·subst hcc;exact⟨_,hc'⟩
   ·obtain⟨w2,z2⟩:=I.cell y c' e
    exact⟨w2,z2.sameBut hs hcc⟩
  ·obtain⟨e,n,ne,nf,d⟩:=I.pin p hp
   refine⟨(hs.2 p.1 ?_).trans e,n,ne,nf,d⟩
   intro q
   rw[q,hoc] at e
   have q':oc=p.2:=Option.some.inj e
   exact d w' (by rw[←q'];exact hocd)
theorem acD{M:Model}{A:Around}{E:Value->Shared->Prop}{i:Nat}{x:Str}{v:V}{u:Value}{Q:Unit->Shared->Prop}(I:Inv X pins σ H s)(hN:X.N.Nodup)(hi:X.N[i]? =some x)(hx:Loc X.env.scope x)(r:RelV v u)
  (h:∀s',Inv X pins (σ.set i (some v)) H s'->Q () s') (hf:X.fn x=true∨X.env.scope.names.lookup x=some .local:=by first | exact .inl rfl | exact .inr rfl | assumption):wpAny M A (storeName X.env x u) Q E s:=
 ajG I hN hi hx r (fun s' I' _=>h s' I') hf
theorem Inv.call'{s':Shared}{ch:List Addr}(I:Inv X pins σ H s)(ho:s'.os=s.os)(u:Un (frs X.stack) ch H H' s.heap s'.heap)(hok:HOk X.prog X.w H' s'.heap)(hg:AllBare s'.gens)
  (hch:∀b∈ch,(b∈X.ex∨X.s₀.heap.objs.size<=b)/\b≠X.env.locals/\(∀x c,X.env.cells.lookup x=some c->c≠b)/\∀p∈X.pn++pins,p.1≠b):Inv X pins σ H' s':=by
 obtain⟨h',g',d',t',o'⟩:=s'
 have e:o'=s.os:=ho
 subst e
 exact I.call (g':=g') (t':=t') (d':=d') u hok hg hch
end
abbrev XK:=Value->Option Addr->Hp->Prop
abbrev St:=List (Option V)
abbrev VK:=V->Hp->Prop
abbrev TE:=St->Hp->VK->Prop
abbrev TT:=St->Hp->(Bool->Hp->Prop)->Prop
abbrev TA:=St->Hp->(List V->Hp->Prop)->Prop
structure Ends where
 nx:St->Hp->Prop
 rt:VK
 bk:St->Hp->Prop:=fun _ _=>False
 ct:St->Hp->Prop:=fun _ _=>False
abbrev TS:=Ends->St->Hp->Prop
def EP(X:Cx)(pins:List (Addr×Obj))(σ:St)(Q:VK)(u:Value)(s':Shared):Prop:=∃v H',Inv X pins σ H' s'/\RelV v u/\Q v H'
def TP(X:Cx)(pins:List (Addr×Obj))(σ:St)(Q:Bool->Hp->Prop)(b:Bool)(s':Shared):Prop:=∃H',Inv X pins σ H' s'/\Q b H'
def AP(X:Cx)(pins:List (Addr×Obj))(σ:St)(Q:List V->Hp->Prop)(us:List Value)(s':Shared):Prop:=∃vs H',Inv X pins σ H' s'/\Vals vs us/\Q vs H'
def SP(X:Cx)(pins:List (Addr×Obj))(D:Ends)(f:Flow)(s':Shared):Prop:=
 match f with
 |.next=>∃σ' H',Inv X pins σ' H' s'/\D.nx σ' H'
 |.brk=>∃σ' H',Inv X pins σ' H' s'/\D.bk σ' H'
 |.cont=>∃σ' H',Inv X pins σ' H' s'/\D.ct σ' H'
 |.ret u=>∃v σ' H',Inv X pins σ' H' s'/\RelV v u/\D.rt v H'
def PE(X:Cx)(e:Expr)(t:TE):Prop:=
 ∀(pins:List (Addr×Obj)) (s:Shared) (σ:St) (H:Hp) (Q:VK),Inv X pins σ H s->t σ H Q->wpAny (model X.prog X.w) X.A (eval e X.env) (EP X pins σ Q) X.xe s
def PT(X:Cx)(e:Expr)(t:TT):Prop:=
 ∀(pins:List (Addr×Obj)) (s:Shared) (σ:St) (H:Hp) (Q:Bool->Hp->Prop),Inv X pins σ H s->t σ H Q->wpAny (model X.prog X.w) X.A (isTrue e X.env (eval e X.env)) (TP X pins σ Q) X.xe s
def PW(X:Cx)(e:Expr)(t:TT):Prop:=
 ∀(whole:Sem Value) (pins:List (Addr×Obj)) (s:Shared) (σ:St) (H:Hp) (Q:Bool->Hp->Prop),Inv X pins σ H s->t σ H Q->wpAny (model X.prog X.w) X.A (isTrue e X.env whole) (TP X pins σ Q) X.xe s
theorem PW.pt{X:Cx}{e:Expr}{t:TT}(h:PW X e t):PT X e t:=h _
def PA(X:Cx)(es:List Expr)(t:TA):Prop:=
 ∀(pos:Pos) (pins:List (Addr×Obj)) (s:Shared) (σ:St) (H:Hp) (Q:List V->Hp->Prop),Inv X pins σ H s->t σ H Q->wpAny (model X.prog X.w) X.A (spliced (backTo pos (starEach es X.env))) (AP X pins σ Q) X.xe s
def PS(X:Cx)(st:Stmt)(t:TS):Prop:=
 ∀(pins:List (Addr×Obj)) (s:Shared) (σ:St) (H:Hp) (D:Ends),Inv X pins σ H s->t D σ H->wpAny (model X.prog X.w) X.A (exec st X.env) (SP X pins D) X.xe s
def PSs(X:Cx)(st:List Stmt)(t:TS):Prop:=
 ∀(pins:List (Addr×Obj)) (s:Shared) (σ:St) (H:Hp) (D:Ends),Inv X pins σ H s->t D σ H->wpAny (model X.prog X.w) X.A (execs st X.env) (SP X pins D) X.xe s
theorem thn{α:Type}{t:Sem α}{Q Q':α->Shared->Prop}{M:Model}{A:Around}{E:Value->Shared->Prop}{s:Shared}(h:wpAny M A t Q E s)(hQ:∀a s,Q a s->Q' a s):wpAny M A t Q' E s:=wpAny_mono h hQ fun _ _ x=>x
section
variable{X:Cx}
def az5(i:Nat):TE:=fun σ H Q=>∃v,σ[i]? =some (some v)/\Q v H
def tC(v:V):TE:=fun _ H Q=>Q v H
theorem aK6{i:Nat}{x:Str}{pos:Pos}(hN:X.N[i]? =some x)(hv:Vis X.env.scope x)(hd:(x==("__debug__":Str))=false:=by decide)(hcd:(x==("__classdict__":Str))=false:=by decide):PE X (.Name x pos) (az5 i):=by
 intro pins s σ H Q I h
 obtain⟨v,e,h⟩:=h
 obtain⟨m,hn,hl⟩:=I.loc
 obtain⟨u,r,l⟩:=hl i x v hN e hv
 have fin:EP X pins σ Q u s:=⟨v,H,I,r,h⟩
 rcases l with ⟨hk,hm⟩ | ⟨hk,c,hc,hcell⟩
 ·exact wpAny_Name (wpAny_loadName_local I.ok.kind hk hn hm fin) hd
 ·rcases hk with hk | hk
  ·exact wpAny_Name (wpAny_loadName_cell I.ok.kind hk hc hcell fin) hd
  ·exact wpAny_Name (wpAny_loadName_free I.ok.kind hk hc hcell fin hcd) hd
theorem axE{i j pos}:PE X (.Constant (.int i) j pos) (tC (.int i)):=fun _ _ _ H _ I h=>wpAny_Constant_int ⟨.int i,H,I.tok _,⟨_,rfl⟩,h⟩
theorem aO0{b j pos}:PE X (.Constant (.bool b) j pos) (tC (.bl b)):=fun _ _ _ H _ I h=>Constant_bool ⟨.bl b,H,I,rfl,h⟩
theorem aHH{j pos}:PE X (.Constant .none j pos) (tC .non):=fun _ _ _ H _ I h=>Constant_none ⟨.non,H,I,rfl,h⟩
theorem aF0{x j pos}:PE X (.Constant (.str x) j pos) (tC (.str x)):=fun _ _ _ H _ I h=>Calls.Constant_str ⟨.str x,H,I.tok _,⟨_,rfl⟩,h⟩
def Gl(X:Cx)(x:Str):Prop:=X.env.kindOf x=some .globalImplicit
theorem abY{E:Value->Shared->Prop}{pins:List (Addr×Obj)}{s:Shared}{σ:St}{H:Hp}{x:Str}{u:Value}{pos:Pos}{Q:Value->Shared->Prop}(I:Inv X pins σ H s)(hg:Gl X x)(hm:X.mg x=some u)(h:Q u s)
  (hd:(x==("__debug__":Str))=false:=by decide):wpAny (model X.prog X.w) X.A (eval (.Name x pos) X.env) Q E s:=
 Calls.Name_function_global I.ok.kind hg (Calls.loadGlobal_global (by rw[I.ok.glob];exact I.mod.glob.keeps I.bk) hm h) hd
theorem af0{E:Value->Shared->Prop}{pins:List (Addr×Obj)}{s:Shared}{σ:St}{H:Hp}{x:Str}{u:Value}{pos:Pos}{Q:Value->Shared->Prop}(I:Inv X pins σ H s)(hg:Gl X x)(hm:X.mg x=none)(hv:bootBuiltins x=some u)(h:Q u s)
  (hn:x≠"__name__":=by decide) (hd:(x==("__debug__":Str))=false:=by decide):wpAny (model X.prog X.w) X.A (eval (.Name x pos) X.env) Q E s:=by
 obtain⟨mb,h1,h2⟩:=I.mod.blt
 exact Calls.Name_function_global I.ok.kind hg (Calls.loadGlobal_builtin (by rw[I.ok.glob];exact I.mod.glob.keeps I.bk) hm (by rw[I.ok.blt];exact h1.keeps I.bk) ((h2 x hn).trans hv) h) hd
theorem aA2{x:Str}{v:V}{u:Value}{pos:Pos}(hg:Gl X x)(hm:X.mg x=some u)(r:RelV v u)(hd:(x==("__debug__":Str))=false:=by decide):PE X (.Name x pos) (tC v):=
 fun _ _ _ H _ I h=>abY I hg hm ⟨v,H,I,r,h⟩ hd
theorem aB6{x:Str}{v:V}{u:Value}{pos:Pos}(hg:Gl X x)(hm:X.mg x=none)(hv:bootBuiltins x=some u)(r:RelV v u)(hn:x≠"__name__":=by decide)(hd:(x==("__debug__":Str))=false:=by decide):PE X (.Name x pos) (tC v):=
 fun _ _ _ H _ I h=>af0 I hg hm hv ⟨v,H,I,r,h⟩ hn hd
variable{a b:Expr}{ta tb:TE}{pos:Pos}
def tB(t:TE):TT:=fun σ H Q=>t σ H fun x H1=>∃c,x=.bl c/\Q c H1
theorem aK1{e:Expr}{t:TE}(h:PE X e t)(he:∀whole,isTrue e X.env whole=(do let v ←whole;standAt e.pos;holding [v] (truthy v)):=by intro _;rfl):PT X e (tB t):=by
 intro pins s σ H Q I hw
 refine isTrue_plain (thn (h pins s σ H _ I hw) fun v s1 ⟨x,H1,I1,r1,q1⟩=>?_) (he _)
 obtain⟨d,rfl,q⟩:=q1
 cases r1
 exact wpAny_truthy_bool ⟨H1,I1,q⟩
variable{tA tB':TT}{rest:List Expr}
def aOZ(t u:TT):TT:=fun σ H Q=>t σ H fun c H1=>if c=true then u σ H1 Q else Q false H1
def tOr(t u:TT):TT:=fun σ H Q=>t σ H fun c H1=>if c=true then Q true H1 else u σ H1 Q
def aN5(t:TT):TT:=fun σ H Q=>t σ H fun c H1=>Q (!c) H1
theorem aA8(ha:PT X a tA):PW X (.BoolOp .And [a] pos) tA:=by
 intro wh pins s σ H Q I h
 refine isTrue_and (thn (ha pins s σ H Q I h) fun c s1 e=>?_)
 cases c with
 |true=>exact isTrue_and_nil e
 |false=>exact e
theorem aKP(ha:PT X a tA):PW X (.BoolOp .Or [a] pos) tA:=by
 intro wh pins s σ H Q I h
 refine isTrue_or (thn (ha pins s σ H Q I h) fun c s1 e=>?_)
 cases c with
 |false=>exact isTrue_or_nil e
 |true=>exact e
theorem aGO(ha:PT X a tA)(hb:PW X (.BoolOp .And (b::rest) pos) tB'):PW X (.BoolOp .And (a::b::rest) pos) (aOZ tA tB'):=by
 intro wh pins s σ H Q I h
 refine isTrue_and (thn (ha pins s σ H _ I h) fun c s1 ⟨H1,I1,q1⟩=>?_)
 cases c with
 |true=>exact hb wh pins s1 σ H1 Q I1 q1
 |false=>exact⟨H1,I1,q1⟩
theorem aOA(ha:PT X a tA)(hb:PW X (.BoolOp .Or (b::rest) pos) tB'):PW X (.BoolOp .Or (a::b::rest) pos) (tOr tA tB'):=by
 intro wh pins s σ H Q I h
 refine isTrue_or (thn (ha pins s σ H _ I h) fun c s1 ⟨H1,I1,q1⟩=>?_)
 cases c with
 |true=>exact⟨H1,I1,q1⟩
 |false=>exact hb wh pins s1 σ H1 Q I1 q1
theorem aIO(ha:PT X a tA):PT X (.UnaryOp .Not a pos) (aN5 tA):=by
 intro pins s σ H Q I h
 exact isTrue_not (ha pins s σ H (fun c H1=>Q (!c) H1) I h)
def aE0(ta tb:TE):TE:=fun σ H Q=>ta σ H fun x H1=>∃c,x=.bl c/\if c=true then tb σ H1 Q else Q (.bl false) H1
def aOS(ta tb:TE):TE:=fun σ H Q=>ta σ H fun x H1=>∃c,x=.bl c/\if c=true then Q (.bl true) H1 else tb σ H1 Q
def aE6(ta:TE):TE:=fun σ H Q=>ta σ H fun x H1=>∃c,x=.bl c/\Q (.bl (!c)) H1
theorem aIV{op}{t:TE}(h:PE X a t):PE X (.BoolOp op [a] pos) t:=fun pins s σ H Q I hw=>BoolOp_one (h pins s σ H Q I hw)
theorem aLN(ha:PE X a ta)(hb:PE X (.BoolOp .And (b::rest) pos) tb):PE X (.BoolOp .And (a::b::rest) pos) (aE0 ta tb):=by
 intro pins s σ H Q I h
 refine BoolOp_and (thn (ha pins s σ H _ I h) fun v s1 ⟨x,H1,I1,r1,q1⟩=>?_)
 obtain⟨c,rfl,q1⟩:=q1
 cases r1
 refine wpAny_truthy_bool ?_
 cases c with
 |true=>exact hb pins s1 σ H1 Q I1 q1
 |false=>exact⟨.bl false,H1,I1,rfl,q1⟩
theorem aOG(ha:PE X a ta)(hb:PE X (.BoolOp .Or (b::rest) pos) tb):PE X (.BoolOp .Or (a::b::rest) pos) (aOS ta tb):=by
 intro pins s σ H Q I h
 refine BoolOp_or (thn (ha pins s σ H _ I h) fun v s1 ⟨x,H1,I1,r1,q1⟩=>?_)
 obtain⟨c,rfl,q1⟩:=q1
 cases r1
 refine wpAny_truthy_bool ?_
 cases c with
 |false=>exact hb pins s1 σ H1 Q I1 q1
 |true=>exact⟨.bl true,H1,I1,rfl,q1⟩
theorem aF2(ha:PE X a ta):PE X (.UnaryOp .Not a pos) (aE6 ta):=by
 intro pins s σ H Q I h
 refine UnaryOp_ (thn (ha pins s σ H _ I h) fun v s1 ⟨x,H1,I1,r1,q1⟩=>?_)
 obtain⟨c,rfl,q1⟩:=q1
 cases r1
 exact not_of (wpAny_truthy_bool ⟨.bl (!c),H1,I1,rfl,q1⟩)
def tIf(t:TT)(ta tb:TE):TE:=fun σ H Q=>t σ H fun c H1=>if c=true then ta σ H1 Q else tb σ H1 Q
theorem aw9{c:Expr}(hc:PT X c tA)(ha:PE X a ta)(hb:PE X b tb):PE X (.IfExp c a b pos) (tIf tA ta tb):=by
 intro pins s σ H Q I h
 refine wpAny_IfExp (thn (hc pins s σ H _ I h) fun d s1 ⟨H1,I1,q1⟩=>?_)
 cases d with
 |true=>exact ha pins s1 σ H1 Q I1 q1
 |false=>exact hb pins s1 σ H1 Q I1 q1
end
def SqL(K:PySem.W.Frag)(H:Hp)(a:Addr)(xs:List V):Prop:=
 Rd H a (.lst xs)∨
  ∃(o:Obj) (its:Array Value) (n:Nat),K.lookup a=some o/\o.cls=.type "list"/\o.dict=none/\o.data=.seq its n/\its.size<=sizeLine/\Vals xs its.toList
def SqT(K:PySem.W.Frag)(H:Hp)(a:Addr)(xs:List V):Prop:=
 Rd H a (.tup xs)∨
  ∃(o:Obj) (its:Array Value) (n:Nat),K.lookup a=some o/\o.cls=.type "tuple"/\o.data=.seq its n/\its.size<=sizeLine/\Vals xs its.toList
def absV:Value->Option V
 |.none=>some .non
 |.bool b=>some (.bl b)
 |.int i _=>some (.int i)
 |.str x _=>some (.str x)
 |.bytes b _=>some (.byt b)
 |.float b _=>some (.flt b)
 |.ref a=>some (.ref a)
 |.type n=>some (.ty n)
 |_=>none
theorem RelV.abs{x:V}{u:Value}(r:RelV x u):absV u=some x:=by
 cases x with
 |non=>cases r;rfl
 |bl _=>cases r;rfl
 |int _=>obtain⟨t,rfl⟩:=r;rfl
 |str _=>obtain⟨t,rfl⟩:=r;rfl
 |byt _=>obtain⟨t,rfl⟩:=r;rfl
 |flt _=>obtain⟨t,rfl⟩:=r;rfl
 |ref _=>cases r;rfl
 |ty _=>cases r;rfl
theorem RelV.inj{x y:V}{u:Value}(r:RelV x u)(q:RelV y u):x=y:=Option.some.inj (r.abs.symm.trans q.abs)
theorem Vals.inj:∀{xs ys:List V} {us:List Value},Vals xs us->Vals ys us->xs=ys
 |_,_,_,.nil,.nil=>rfl
 |_,_,_,.cons r t,.cons r' t'=>by rw[r.inj r',Vals.inj t t']
section
variable{X:Cx}{pins:List (Addr×Obj)}{σ:St}{H:Hp}{s:Shared}{a:Addr}{xs ys:List V}
theorem SqL.of{K:PySem.W.Frag}(h:H a=some (.lst xs)):SqL K H a xs:=.inl (.inl h)
theorem SqT.of{K:PySem.W.Frag}(h:H a=some (.tup xs)):SqT K H a xs:=.inl (.inl h)
theorem Inv.list(I:Inv X pins σ H s)(h:SqL X.K H a xs):∃its:List Value,Vals xs its/\PlainL s.heap a its.toArray/\xs.length<=sizeLine:=by
 rcases h with h | ⟨o,its,n,hk,hc,hd,hs,hz,r⟩
 ·obtain⟨z,its,n,r,e⟩:=h.ok I.hok
  exact⟨its,r,⟨_,n,e,rfl,rfl,rfl⟩,z⟩
 ·refine⟨its.toList,r,⟨o,n,I.kIn a o hk,hc,hd,by simpa using hs⟩,?_⟩
  have e:=r.length
  simp only[Array.length_toList] at e
  omega
theorem Inv.tuple(I:Inv X pins σ H s)(h:SqT X.K H a xs):∃its:List Value,Vals xs its/\IsTup s.heap a its.toArray/\xs.length<=sizeLine:=by
 rcases h with h | ⟨o,its,n,hk,hc,hs,hz,r⟩
 ·obtain⟨z,its,r,p⟩:=h.ok I.hok
  exact⟨its,r,p,z⟩
 ·refine⟨its.toList,r,⟨o,I.kIn a o hk,hc,n,by simpa using hs⟩,?_⟩
  have e:=r.length
  simp only[Array.length_toList] at e
  omega
theorem Inv.list_inj(I:Inv X pins σ H s)(h:SqL X.K H a xs)(h':SqL X.K H a ys):xs=ys:=by
 obtain⟨its,r,⟨o,n,e,_,_,d⟩,_⟩:=I.list h
 obtain⟨its',r',⟨o',n',e',_,_,d'⟩,_⟩:=I.list h'
 rw[e] at e';cases e'
 rw[d] at d'
 injection d' with d1 _
 have:its=its':=by simpa using congrArg Array.toList d1
 subst this
 exact r.inj r'
theorem Inv.tuple_inj(I:Inv X pins σ H s)(h:SqT X.K H a xs)(h':SqT X.K H a ys):xs=ys:=by
 obtain⟨its,r,⟨o,e,_,n,d⟩,_⟩:=I.tuple h
 obtain⟨its',r',⟨o',e',_,n',d'⟩,_⟩:=I.tuple h'
 rw[e] at e';cases e'
 rw[d] at d'
 injection d' with d1 _
 have:its=its':=by simpa using congrArg Array.toList d1
 subst this
 exact r.inj r'
end
abbrev Cx.wish(X:Cx)(E:Value->Shared->Prop):Cx:={X with xe:=E}
abbrev Cx.nox(X:Cx):Cx:=X.wish fun _ _=>False
theorem Cx.Ok.wish{X:Cx}(ok:X.Ok)(E:Value->Shared->Prop):(X.wish E).Ok:=
 ⟨ok.mod,ok.kind,ok.glob,ok.blt,ok.above,ok.inj,ok.has,ok.cab,ok.hd,ok.frames,ok.stk,ok.exf,ok.bs,ok.bsz,ok.noex,ok.exfs,ok.funs,ok.frf⟩
theorem Cx.Ok.unwish{X:Cx}{E:Value->Shared->Prop}(ok:(X.wish E).Ok):X.Ok:=
 ⟨ok.mod,ok.kind,ok.glob,ok.blt,ok.above,ok.inj,ok.has,ok.cab,ok.hd,ok.frames,ok.stk,ok.exf,ok.bs,ok.bsz,ok.noex,ok.exfs,ok.funs,ok.frf⟩
section
variable{X:Cx}{pins:List (Addr×Obj)}{σ:St}{H:Hp}{s:Shared}{E:Value->Shared->Prop}
theorem Inv.wish(I:Inv X pins σ H s)(E:Value->Shared->Prop):Inv (X.wish E) pins σ H s:=⟨I.ok.wish E,I.os,I.bare,I.base,I.loc,I.cell,I.free,I.freeC,I.pin,I.hok,I.len⟩
theorem Inv.unwish(I:Inv (X.wish E) pins σ H s):Inv X pins σ H s:=⟨I.ok.unwish,I.os,I.bare,I.base,I.loc,I.cell,I.free,I.freeC,I.pin,I.hok,I.len⟩
theorem SP.unwish{D:Ends}{f:Flow}{s':Shared}(h:SP (X.wish E) pins D f s'):SP X pins D f s':=by
 cases f with
 |next=>obtain⟨σ',H',I,q⟩:=h;exact⟨σ',H',I.unwish,q⟩
 |brk=>obtain⟨σ',H',I,q⟩:=h;exact⟨σ',H',I.unwish,q⟩
 |cont=>obtain⟨σ',H',I,q⟩:=h;exact⟨σ',H',I.unwish,q⟩
 |ret u=>obtain⟨v,σ',H',I,r,q⟩:=h;exact⟨v,σ',H',I.unwish,r,q⟩
theorem PSs.nox{st:List Stmt}{t:TS}(h:PSs X.nox st t):PSs X st t:=fun pins s σ H D I hw=>
 wpAny_mono (h pins s σ H D (I.wish _) hw) (fun _ _ q=>q.unwish) fun _ _ z=>False.elim z
end
section
variable{X:Cx}{st:Stmt}{rest:List Stmt}{t u:TS}{e:Expr}{te:TE}{pos:Pos}
def aE9:TS:=fun D σ H=>D.nx σ H
def aNC(t u:TS):TS:=fun D σ H=>t {D with nx:=u D} σ H
theorem aEL:PSs X [] aE9:=fun _ _ σ H _ I h=>wpAny_execs_nil ⟨σ,H,I,h⟩
theorem av2(h1:PS X st t)(h2:PSs X rest u):PSs X (st::rest) (aNC t u):=by
 intro pins s σ H D I h
 refine wpAny_execs_cons (thn (h1 pins s σ H {D with nx:=u D} I h) fun f s1 q=>?_)
 cases f with
 |next=>
  obtain⟨σ',H',I',q⟩:=q
  exact h2 pins s1 σ' H' D I' q
 |ret v=>exact q
 |brk=>exact q
 |cont=>exact q
theorem aBR(h1:PS X st t):PSs X [st] t:=by
 intro pins s σ H D I h
 refine wpAny_execs_cons (thn (h1 pins s σ H D I h) fun f s1 q=>?_)
 cases f with
 |next=>exact wpAny_execs_nil q
 |ret v=>exact q
 |brk=>exact q
 |cont=>exact q
theorem Inv.quiet{pins:List (Addr×Obj)}{σ:St}{H:Hp}{s:Shared}(I:Inv X pins σ H s):interactive X.env=false:=by simp[interactive,I.ok.kind]
def aE1(te:TE):TS:=fun D σ H=>te σ H fun _ H1=>D.nx σ H1
theorem aA6(he:PE X e te)(hs:swapsWith e none pos.line X.env=pure false:=by rfl):PS X (.Expr e pos) (aE1 te):=by
 intro pins s σ H D I h
 exact wpAny_Expr_any (thn (he pins s σ H _ I h) fun v s1 ⟨x,H1,I1,r1,q1⟩=>⟨σ,H1,I1,q1⟩) I.quiet hs
def aL9(te:TE):TS:=fun D σ H=>te σ H D.rt
theorem aJI(he:PE X e te):PS X (.Return (some e) pos) (aL9 te):=by
 intro pins s σ H D I h
 exact wpAny_Return_some (thn (he pins s σ H _ I h) fun v s1 ⟨x,H1,I1,r1,q1⟩=>⟨x,σ,H1,I1,r1,q1⟩)
def aNH(c:TT)(t u:TS):TS:=fun D σ H=>c σ H fun b H1=>if b=true then t D σ H1 else u D σ H1
theorem aMB{c:Expr}{a b:List Stmt}{tc:TT}(hc:PT X c tc)(ha:PSs X a t)(hb:PSs X b u):PS X (.If c a b pos) (aNH tc t u):=by
 intro pins s σ H D I h
 refine wpAny_If (thn (hc pins s σ H _ I h) fun d s1 ⟨H1,I1,q1⟩=>?_)
 cases d with
 |true=>exact ha pins s1 σ H1 D I1 q1
 |false=>exact hb pins s1 σ H1 D I1 q1
def avP:TS:=fun _ _ _=>False
theorem at3:PS X st avP:=fun _ _ _ _ _ _ h=>h.elim
end
abbrev TG:=V->St->Hp->(St->Hp->Prop)->Prop
abbrev TGs:=List V->St->Hp->(St->Hp->Prop)->Prop
def PG(X:Cx)(target:Expr)(t:TG):Prop:=
 ∀(pins:List (Addr×Obj)) (s:Shared) (σ:St) (H:Hp) (v:V) (u:Value) (Q:St->Hp->Prop),Inv X pins σ H s->RelV v u->t v σ H Q->
  wpAny (model X.prog X.w) X.A (assign target X.env u) (fun _ s'=>∃σ' H',Inv X pins σ' H' s'/\Q σ' H') X.xe s
def PGs(X:Cx)(ts:List Expr)(t:TGs):Prop:=
 ∀(pins:List (Addr×Obj)) (s:Shared) (σ:St) (H:Hp) (vs:List V) (us:List Value) (Q:St->Hp->Prop),Inv X pins σ H s->Vals vs us->t vs σ H Q->
  wpAny (model X.prog X.w) X.A (assignInOrder ((assignEach ts X.env).map (·.2)) us) (fun _ s'=>∃σ' H',Inv X pins σ' H' s'/\Q σ' H') X.xe s
section
variable{X:Cx}{pos:Pos}
def afK(i:Nat):TG:=fun v σ H Q=>Q (σ.set i (some v)) H
theorem aAO{i:Nat}{x:Str}(hN:X.N.Nodup)(hi:X.N[i]? =some x)(hx:Loc X.env.scope x)(hf:X.fn x=true∨X.env.scope.names.lookup x=some .local:=by first | exact .inl rfl | exact .inr rfl | assumption):PG X (.Name x pos) (afK i):=by
 intro pins s σ H v u Q I r h
 exact wpAny_assign_Name (acD I hN hi hx r (fun s' I'=>⟨_,H,I',h⟩) hf)
def aLU:TGs:=fun vs σ H Q=>vs=[]/\Q σ H
def an0(t:TG)(u:TGs):TGs:=fun vs σ H Q=>∃v r,vs=v::r/\t v σ H fun σ' H'=>u r σ' H' Q
theorem azL:PGs X [] aLU:=by
 intro pins s σ H vs us Q I r h
 obtain⟨e,h⟩:=h
 subst e
 cases r
 exact assignInOrder_nil ⟨σ,H,I,h⟩
theorem awU{e:Expr}{es:List Expr}{t:TG}{u:TGs}(h1:PG X e t)(h2:PGs X es u)
  (hs:(assignEach (e::es) X.env).map (·.2)=assign e X.env::(assignEach es X.env).map (·.2):=by rfl):PGs X (e::es) (an0 t u):=by
 intro pins s σ H vs us Q I r h
 obtain⟨v,vr,e1,h⟩:=h
 subst e1
 cases r with
 |cons r rr=>
  rw[hs]
  refine assignInOrder_cons (thn (h1 pins s σ H _ _ _ I r h) fun _ s1 ⟨σ1,H1,I1,q1⟩=>?_)
  exact h2 pins s1 σ1 H1 _ _ Q I1 rr q1
def aBW(K:PySem.W.Frag)(n:Nat)(t:TGs):TG:=fun v σ H Q=>∃a xs,v=.ref a/\SqT K H a xs/\xs.length=n/\t xs σ H Q
theorem aKB{es:List Expr}{k:Nat}{t:TGs}{n:Nat}(hc:X.calm=true)(h:PGs X es t)
  (hn:(assignEach es X.env).length=n:=by rfl) (hst:(assignEach es X.env).findIdx? (·.1)=none:=by rfl):PG X (.Tuple es k pos) (aBW X.K n t):=by
 intro pins s σ H v u Q I r hw
 obtain⟨a,xs,e1,hq,hl,hw⟩:=hw
 subst e1
 cases r
 obtain⟨its,rv,ht,hz⟩:=I.tuple hq
 refine assign_Tuple_tuple (I.ok.hd hc) ht (by simp[hn,←hl,rv.length]) hst fun h' hx=>?_
 have I1:Inv X pins σ H {s with heap:=h'}:=I.kept (t':=s.toks) fun b o e=>hx b o (Nat.ne_of_lt (Heap.lt_size e)) e
 exact h pins _ σ H xs _ Q I1 (by simpa using rv) hw
def aL0(te:TE)(g:TG):TS:=fun D σ H=>te σ H fun x H1=>g x σ H1 D.nx
theorem aLL{i:Nat}{x:Str}{e:Expr}{te:TE}{pos':Pos}(hN:X.N.Nodup)(hi:X.N[i]? =some x)(hx:Loc X.env.scope x)(he:PE X e te)(hs:swapsWith e (some (.Name x pos')) pos.line X.env=pure false:=by rfl)(hf:X.fn x=true∨X.env.scope.names.lookup x=some .local:=by first | exact .inl rfl | exact .inr rfl | assumption):
  PS X (.Assign [.Name x pos'] e pos) (aL0 te (afK i)):=by
 intro pins s σ H D I h
 refine wpAny_Assign_Name (thn (he pins s σ H _ I h) fun v s1 ⟨y,H1,I1,r1,q1⟩=>?_) hs
 exact acD I1 hN hi hx r1 (fun s2 I2=>⟨_,H1,I2,q1⟩) hf
def aNX(i j:Nat)(ta:TA):TS:=fun D σ H=>ta σ H fun vs H1=>∃v w,vs=[v,w]/\D.nx ((σ.set i (some v)).set j (some w)) H1
theorem aLO{i j:Nat}{x y:Str}{a b:Expr}{ta:TA}{px py pt:Pos}{kt k2 pt2}(hc:X.calm=true)(hN:X.N.Nodup)(hi:X.N[i]? =some x)(hj:X.N[j]? =some y)(hij:i≠j)
  (hx:X.env.scope.names.lookup x=some .local) (hy:X.env.scope.names.lookup y=some .local) (ha:PA X [a,b] ta)
  (hw:swappedStores [.Tuple [.Name x px,.Name y py] kt pt] (.Tuple [a,b] k2 pt2) X.env=pure (some [x,y]))
  (hs:swapsWithSole [.Tuple [.Name x px,.Name y py] kt pt] (.Tuple [a,b] k2 pt2) pos.line X.env=pure false:=by rfl):
  PS X (.Assign [.Tuple [.Name x px,.Name y py] kt pt] (.Tuple [a,b] k2 pt2) pos) (aNX i j ta):=by
 intro pins s σ H D I h
 rw[exec_Assign_arm]
 refine wpAny_bind (wpAny_standAt ?_)
 rw[hs]
 refine wpAny_bind (wpAny_pure ?_)
 rw[if_neg (by decide)]
 refine wpAny_bind (Tuple_ (thn (ha _ pins s σ H _ I h) fun us s1 ⟨vs,H1,I1,r1,q1⟩=>?_))
 obtain⟨v,w,e1,q1⟩:=q1
 subst e1
 obtain⟨u1,u2,rfl,rv,rw'⟩:∃u1 u2,us=[u1,u2]/\RelV v u1/\RelV w u2:=by
  cases r1 with
  |cons p q=>
   cases q with
   |cons p' q'=>
    cases q'
    exact⟨_,_,rfl,p,p'⟩
 refine wpAny_newObj_type ?_ (by show 2<=sizeLine;decide)
 have I2:Inv X pins σ H1 {s1 with heap:=s1.heap.push {cls:=.type "tuple",data:=.seq [u1,u2].toArray} }:=I1.kept (t':=s1.toks) fun b o e=>Heap.get?_push_of_some _ e
 rw[hw]
 refine wpAny_bind (wpAny_pure ?_)
 show wpAny (model X.prog X.w) X.A (do rule "assign.swapped-stores";let items ←unpackItems (.ref s1.heap.objs.size) 2 none;assignInOrder [fun v=>bindName X.env y v,fun v=>bindName X.env x v] items.reverse;pure Flow.next) _ _ _
 refine wpAny_bind (wpAny_rule (wpAny_bind (unpackItems_tuple (items:= #[u1,u2]) (I.ok.hd hc) (IsTup.new s1.heap _) fun h' hx'=>?_)))
 have I3:=I2.kept (h':=h') (t':=s1.toks) fun b o e=>hx' b o (Nat.ne_of_lt (Heap.lt_size e)) e
 show wpAny _ _ (assignInOrder [fun v=>bindName X.env y v,fun v=>bindName X.env x v] [u2,u1] >>=fun _=>pure Flow.next) _ _ _
 refine wpAny_bind (assignInOrder_cons (wpAny_bindName (acD I3 hN hj (.inl hy) rw' (fun s2 I4=>?_) (.inr hy))))
 refine assignInOrder_cons (wpAny_bindName (acD I4 hN hi (.inl hx) rv (fun s3 I5=>assignInOrder_nil (wpAny_pure ?_)) (.inr hx)))
 rw[List.set_comm _ _ (Ne.symm hij)] at I5
 exact⟨_,H1,I5,q1⟩
end
section
variable{X:Cx}{pos:Pos}
def amU(c:TT)(tb:TS):TS:=fun D σ H=>∃W:Nat->St->Hp->Prop,(∃m,W m σ H)/\∀m σ H,W m σ H->
 c σ H fun b H1=>if b=true then ∃N:St->Hp->Prop,(∀σ' H',N σ' H'->∃m',m'<m/\W m' σ' H')/\tb {D with nx:=N,ct:=N,bk:=D.nx} σ H1 else D.nx σ H1
theorem ayE{c:Expr}{body:List Stmt}{tc:TT}{tb:TS}(hp:PassesOwn (model X.prog X.w) X.A X.env X.xe)(hc:PT X c tc)(hb:PSs X body tb):PS X (.While c body [] pos) (amU tc tb):=by
 intro pins s σ H D I h
 obtain⟨W,⟨m0,w0⟩,turn⟩:=h
 refine wpAny_While (codeAny_whileLoop (fun n s'=>∃σ' H',Inv X pins σ' H' s'/\W n σ' H') ?_ m0 ⟨σ,H,I,w0⟩)
 rintro n s1 ⟨σ1,H1,I1,w1⟩
 refine wpAny_passesOwn hp (thn (hc pins s1 σ1 H1 _ I1 (turn n σ1 H1 w1)) fun b s2 ⟨H2,I2,q2⟩=>?_)
 cases b with
 |true=>
  obtain⟨N,hN,q2⟩:=q2
  rw[if_pos rfl]
  refine wpAny_passesOwn hp (thn (hb pins s2 σ1 H2 _ I2 q2) fun f s3 q3=>?_)
  cases f with
  |next=>
   obtain⟨σ3,H3,I3,n3⟩:=q3
   obtain⟨m',hm,w3⟩:=hN σ3 H3 n3
   exact⟨m',hm,σ3,H3,I3,w3⟩
  |cont=>
   obtain⟨σ3,H3,I3,n3⟩:=q3
   obtain⟨m',hm,w3⟩:=hN σ3 H3 n3
   exact⟨m',hm,σ3,H3,I3,w3⟩
  |brk=>exact q3
  |ret v=>exact q3
 |false=>
  rw[if_neg Bool.false_ne_true]
  exact wpAny_execs_nil ⟨σ1,H2,I2,q2⟩
end
structure It where
 go:Nat->Hp->Prop
 yld:Nat->Hp->V->Hp->Prop
 stop:Nat->Hp->Prop
def acP(X:Cx)(pins:List (Addr×Obj))(H:Hp)(b:Addr):Prop:=
 H b=none/\b≠X.env.locals/\b∉X.fs/\(b∈X.ex∨X.s₀.heap.objs.size<=b)/\(∀x c,X.env.cells.lookup x=some c->c≠b)/\∀p∈X.pn++pins,p.1≠b
theorem Inv.fpOk{X:Cx}{pins:List (Addr×Obj)}{σ:St}{H H':Hp}{s:Shared}{b:Addr}(I:Inv X pins σ H s)(hb:s.heap.objs.size<=b)(hn:H' b=none):acP X pins H' b:=by
 refine⟨hn,Nat.ne_of_gt (Nat.lt_of_lt_of_le I.lt hb),I.nofs hb,.inr (Nat.le_trans I.sz hb),fun x c e z=>?_,fun p hp z=>?_⟩
 ·obtain⟨v,q⟩:=I.cell x c e
  exact absurd (Nat.lt_of_lt_of_le q.lt (by rw[z];exact hb)) (Nat.lt_irrefl _)
 ·exact absurd (Nat.lt_of_lt_of_le (Heap.lt_size (I.pin p hp).1) (by rw[z];exact hb)) (Nat.lt_irrefl _)
structure Turn(P:Program)(w:World)(K:PySem.W.Frag)(tg:Expr)(J:It)(fp:List Addr)(it:Addr)(tn:Nat->Heap->Prop):Prop where
 mem:it∈fp
 obj:∀i h,tn i h->∀b∈fp,∃o,h.get? b=some o/\∀v,o.data≠ .cell v
 keep:∀i h h',tn i h->(∀b∈fp,∀o,h.get? b=some o->h'.get? b=some o)->tn i h'
 item:∀(X:Cx),X.prog=P->X.w=w->X.K=K->X.calm=true->∀(i:Nat) (pins:List (Addr×Obj)) (s:Shared) (σ:St) (H:Hp) (E:Value->Shared->Prop),Inv X pins σ H s->(∀b∈fp,acP X pins H b)->tn i s.heap->J.go i H->
  wpAny (model P w) X.A (pyNext (.ref it)) (fun r s1=>∃u,r=some u/\
   wpAny (model P w) X.A (letOwnedTupleGo tg (.ref it) u) (fun _ s2=>∃x H',Inv X pins σ H' s2/\RelV x u/\J.yld i H x H'/\tn (i+1) s2.heap/\∀b∈fp,H' b=none) E s1) E s
 done:∀(X:Cx),X.prog=P->X.w=w->X.K=K->X.calm=true->∀(i:Nat) (pins:List (Addr×Obj)) (s:Shared) (σ:St) (H:Hp) (E:Value->Shared->Prop),Inv X pins σ H s->(∀b∈fp,acP X pins H b)->tn i s.heap->J.stop i H->
  wpAny (model P w) X.A (pyNext (.ref it)) (fun r s1=>r=none/\Inv X pins σ H s1) E s
 self:∀(A:Around) (i:Nat) (s:Shared) (Q:Value->Shared->Prop) (E:Value->Shared->Prop),tn i s.heap->Q (.ref it) s->wpAny (model P w) A (pyIter (.ref it)) Q E s
abbrev TI:=St->Hp->(It->Hp->Prop)->Prop
def PIE(X:Cx)(pins:List (Addr×Obj))(σ:St)(tg:Expr)(R:It->Hp->Prop)(itv:Value)(s2:Shared):Prop:=
 ∃(it:Addr) (fp:List Addr) (tn:Nat->Heap->Prop) (J:It) (H':Hp),itv=.ref it/\Inv X pins σ H' s2/\Turn X.prog X.w X.K tg J fp it tn/\tn 0 s2.heap/\(∀b∈fp,acP X pins H' b)/\R J H'
def PI(X:Cx)(tg iter:Expr)(wi:TI):Prop:=
 ∀(pins:List (Addr×Obj)) (s:Shared) (σ:St) (H:Hp) (R:It->Hp->Prop),Inv X pins σ H s->wi σ H R->
  wpAny (model X.prog X.w) X.A (eval iter X.env) (fun v s1=>wpAny (model X.prog X.w) X.A (pyIter v) (PIE X pins σ tg R) X.xe s1) X.xe s
theorem amK{M:Model}{A:Around}{E:Value->Shared->Prop}{s:Shared}{tg:Expr}{it:Addr}{u:Value}{o:Obj}{n:String}{vs:Array Value}{Q:Unit->Shared->Prop}(ho:s.heap.get? it=some o)(hc:o.cls=.type n)(hd:o.data=.fields vs)
  (hn:["enumerate","zip","dict_itemiterator","dict_reverseitemiterator","odict_iterator","itertools.zip_longest","itertools.pairwise"].contains n=false) (hQ:Q () s):wpAny M A (letOwnedTupleGo tg (.ref it) u) Q E s:=by
 unfold letOwnedTupleGo
 cases tg<;>first
  |exact wpAny_pure hQ
  |(cases u<;>first
    |exact wpAny_pure hQ
    |(refine wpAny_bind (wpAny_load ho ?_)
      rw[hc,hd]
      show wpAny M A (if (["enumerate","zip","dict_itemiterator","dict_reverseitemiterator","odict_iterator","itertools.zip_longest","itertools.pairwise"].contains n&&vs[0]? ==some (rawInt _))=true then _ else _) Q E s
      rw[if_neg (by intro h;rw[hn,Bool.false_and] at h;cases h)]
      exact wpAny_pure hQ))
def Itl(K:PySem.W.Frag)(a:Addr):It:=
 ⟨fun i H=>∃xs x,SqL K H a xs/\xs[i]? =some x,fun i H x H'=>H'=H/\∀xs,SqL K H a xs->xs[i]? =some x,fun i H=>∃xs,SqL K H a xs/\xs.length<=i⟩
def Itt(K:PySem.W.Frag)(a:Addr):It:=
 ⟨fun i H=>∃xs x,SqT K H a xs/\xs[i]? =some x,fun i H x H'=>H'=H/\∀xs,SqT K H a xs->xs[i]? =some x,fun i H=>∃xs,SqT K H a xs/\xs.length<=i⟩
def Itr(lo:Int)(n:Nat):It:=⟨fun i _=>i<n,fun i H x H'=>H'=H/\x=.int (lo+i),fun i _=>n<=i⟩
theorem arV{P:Program}{w:World}{K:PySem.W.Frag}{tg:Expr}(a it:Addr):Turn P w K tg (Itl K a) [it] it (fun i h=>h.IsListIter it a i) where
 mem:=by simp
 obj:=fun i h st b hb=>by
  have e:b=it:=by simpa using hb
  subst e
  obtain⟨o,e,c,d⟩:=st
  exact⟨o,e,fun v z=>by rw[d] at z;cases z⟩
 keep:=fun i h h' st k=>st.at fun o e=>k it (by simp) o e
 item:=by
  intro X hP hw hK hc i pins s σ H E I hf st hg
  subst hP hw hK
  obtain⟨xs,x,hq,hx⟩:=hg
  obtain⟨its,rv,p,hz⟩:=I.list hq
  obtain⟨u,hu,ru⟩:=rv.get hx
  obtain⟨f0,f1,f2,f3,f4,f5⟩:=hf it (by simp)
  refine wpAny_pyNext_list_item st p.isList (x:=u) (by simpa using hu) fun h' st' sb=>?_
  have I1:Inv X pins σ H {s with heap:=h'}:=I.turned (t':=s.toks) (fun b o hb e=>(sb.2 b hb).trans e) f0 f1 f3 f4 f5
  obtain⟨o,e,c,d⟩:=id st'
  exact⟨u,rfl,amK (s:={s with heap:=h'}) e c d (by decide) ⟨x,H,I1,ru,⟨rfl,fun ys hy=>by rw[I.list_inj hy hq];exact hx⟩,st',fun b hb=>(hf b hb).1⟩⟩
 done:=by
  intro X hP hw hK hc i pins s σ H E I hf st hg
  subst hP hw hK
  obtain⟨xs,hq,hx⟩:=hg
  obtain⟨its,rv,p,hz⟩:=I.list hq
  obtain⟨f0,f1,f2,f3,f4,f5⟩:=hf it (by simp)
  have hl:=rv.length
  exact wpAny_pyNext_list_end (I.ok.hd hc) st p.isList (by simp;omega) fun h' eb=>⟨rfl,I.turned (t':=s.toks) (fun b o hb e=>eb b o hb e) f0 f1 f3 f4 f5⟩
 self:=fun _ _ _ _ _ st h=>wpAny_pyIter_listiter st h
theorem amN{P:Program}{w:World}{K:PySem.W.Frag}{tg:Expr}(a it:Addr):Turn P w K tg (Itt K a) [it] it (fun i h=>h.IsTupleIter it a i) where
 mem:=by simp
 obj:=fun i h st b hb=>by
  have e:b=it:=by simpa using hb
  subst e
  obtain⟨o,e,c,d⟩:=st
  exact⟨o,e,fun v z=>by rw[d] at z;cases z⟩
 keep:=fun i h h' st k=>st.at fun o e=>k it (by simp) o e
 item:=by
  intro X hP hw hK hc i pins s σ H E I hf st hg
  subst hP hw hK
  obtain⟨xs,x,hq,hx⟩:=hg
  obtain⟨its,rv,p,hz⟩:=I.tuple hq
  obtain⟨u,hu,ru⟩:=rv.get hx
  obtain⟨f0,f1,f2,f3,f4,f5⟩:=hf it (by simp)
  refine wpAny_pyNext_tuple_item st (show s.heap.IsTuple a its.toArray from p) (x:=u) (by simpa using hu) fun h' st' sb=>?_
  have I1:Inv X pins σ H {s with heap:=h'}:=I.turned (t':=s.toks) (fun b o hb e=>(sb.2 b hb).trans e) f0 f1 f3 f4 f5
  obtain⟨o,e,c,d⟩:=id st'
  exact⟨u,rfl,amK (s:={s with heap:=h'}) e c d (by decide) ⟨x,H,I1,ru,⟨rfl,fun ys hy=>by rw[I.tuple_inj hy hq];exact hx⟩,st',fun b hb=>(hf b hb).1⟩⟩
 done:=by
  intro X hP hw hK hc i pins s σ H E I hf st hg
  subst hP hw hK
  obtain⟨xs,hq,hx⟩:=hg
  obtain⟨its,rv,p,hz⟩:=I.tuple hq
  obtain⟨f0,f1,f2,f3,f4,f5⟩:=hf it (by simp)
  have hl:=rv.length
  exact wpAny_pyNext_tuple_end (I.ok.hd hc) st (show s.heap.IsTuple a its.toArray from p) (by simp;omega) fun h' eb=>⟨rfl,I.turned (t':=s.toks) (fun b o hb e=>eb b o hb e) f0 f1 f3 f4 f5⟩
 self:=fun _ _ _ _ _ st h=>wpAny_pyIter_tupleiter st h
theorem amW{P:Program}{w:World}{K:PySem.W.Frag}{tg:Expr}(it:Addr)(lo:Int)(n:Nat):Turn P w K tg (Itr lo n) [it] it (fun i h=>IsRangeIter h it (lo+(i:Nat)*1) ((n:Int)-(i:Nat)) 1) where
 mem:=by simp
 obj:=fun i h st b hb=>by
  have e:b=it:=by simpa using hb
  subst e
  exact⟨_,st,fun v z=>by
   have z':Data.fields _=Data.cell v:=z
   cases z'⟩
 keep:=fun i h h' st k=>k it (by simp) _ st
 item:=by
  intro X hP hw hK hc i pins s σ H E I hf st hg
  subst hP hw hK
  obtain⟨f0,f1,f2,f3,f4,f5⟩:=hf it (by simp)
  have W:=Walks.range (prog:=X.prog) (w:=X.w) (I.ok.hd hc) it lo 1 n
  refine W.item i s _ _ hg st fun v h' tk hv st' kk=>?_
  obtain⟨t,rfl⟩:=hv
  have I1:Inv X pins σ H {s with heap:=h',toks:=tk}:=I.turned (fun b o hb e=>kk b o (by simpa using hb) e) f0 f1 f3 f4 f5
  refine⟨_,rfl,amK (s:={s with heap:=h',toks:=tk}) (n:="range_iterator") st' rfl rfl (by decide) ⟨.int (lo+i),H,I1,⟨t,?_⟩,⟨rfl,rfl⟩,st',fun b hb=>(hf b hb).1⟩⟩
  rw[Int.mul_one]
 done:=by
  intro X hP hw hK hc i pins s σ H E I hf st hg
  subst hP hw hK
  obtain⟨f0,f1,f2,f3,f4,f5⟩:=hf it (by simp)
  exact wpAny_pyNext_range_end (I.ok.hd hc) st (by have:n<=i:=hg;omega) fun h' eb=>⟨rfl,I.turned (t':=s.toks) (fun b o hb e=>eb b o hb e) f0 f1 f3 f4 f5⟩
 self:=fun _ _ _ _ _ st h=>wpAny_pyIter_rangeiter st h
section
variable{X:Cx}{tg:Expr}
def aEU(K:PySem.W.Frag)(tl:TE):TI:=fun σ H R=>tl σ H fun x H1=>∃a,x=.ref a/\(∃xs,SqL K H1 a xs)/\R (Itl K a) H1
def aOF(K:PySem.W.Frag)(tl:TE):TI:=fun σ H R=>tl σ H fun x H1=>∃a,x=.ref a/\(∃xs,SqT K H1 a xs)/\R (Itt K a) H1
theorem aAG{l:Expr}{tl:TE}(hl:PE X l tl):PI X tg l (aEU X.K tl):=by
 intro pins s σ H R I h
 refine thn (hl pins s σ H _ I h) fun v s1 ⟨x,H1,I1,r1,q1⟩=>?_
 obtain⟨a,e,⟨xs,hq⟩,q⟩:=q1
 subst e
 cases r1
 obtain⟨its,rv,p,hz⟩:=I1.list hq
 refine wpAny_pyIter_list p.isList ?_
 refine⟨s1.heap.objs.size,[s1.heap.objs.size],_,_,H1,rfl,I1.kept (t':=s1.toks) fun b o e=>Heap.get?_push_of_some _ e,arV a _,⟨_,Heap.get?_push_size _ rfl,rfl,rfl⟩,fun b hb=>?_,q⟩
 have e:b=s1.heap.objs.size:=by simpa using hb
 subst e
 exact I1.fpOk (Nat.le_refl _) (I1.hok.fresh (Nat.le_refl _))
theorem aJN{l:Expr}{tl:TE}(hl:PE X l tl):PI X tg l (aOF X.K tl):=by
 intro pins s σ H R I h
 refine thn (hl pins s σ H _ I h) fun v s1 ⟨x,H1,I1,r1,q1⟩=>?_
 obtain⟨a,e,⟨xs,hq⟩,q⟩:=q1
 subst e
 cases r1
 obtain⟨its,rv,p,hz⟩:=I1.tuple hq
 refine wpAny_pyIter_tuple (show s1.heap.IsTuple a its.toArray from p) ?_
 refine⟨s1.heap.objs.size,[s1.heap.objs.size],_,_,H1,rfl,I1.kept (t':=s1.toks) fun b o e=>Heap.get?_push_of_some _ e,amN a _,⟨_,Heap.get?_push_size _ rfl,rfl,rfl⟩,fun b hb=>?_,q⟩
 have e:b=s1.heap.objs.size:=by simpa using hb
 subst e
 exact I1.fpOk (Nat.le_refl _) (I1.hok.fresh (Nat.le_refl _))
theorem al2{pins:List (Addr×Obj)}{σ:St}{H:Hp}{s:Shared}{R:It->Hp->Prop}{E:Value->Shared->Prop}{lo hi:Int}{t u v:Tok}{tk:Nat}(I:Inv X pins σ H s)(h1: -(2^62)<=lo)(h2:lo<2^62)(h3: -(2^62)<=hi)(h4:hi<2^62)
  (q:R (Itr lo (hi-lo).toNat) H):wpAny (model X.prog X.w) X.A (pyIter (.ref s.heap.objs.size)) (PIE X pins σ tg R) E {s with heap:=s.heap.push {cls:=.type "range",data:=.fields #[.int lo t,.int hi u,.int 1 v]},toks:=tk}:=by
 refine wpAny_pyIter_range (IsRange.new ..) (small_one h1 h2 h3 h4) ?_
 have I1:Inv X pins σ H {s with heap:=s.heap.push {cls:=.type "range",data:=.fields #[.int lo t,.int hi u,.int 1 v]},toks:=tk}:=I.kept fun b o e=>Heap.get?_push_of_some _ e
 refine⟨(s.heap.push {cls:=.type "range",data:=.fields #[.int lo t,.int hi u,.int 1 v]}).objs.size,[(s.heap.push {cls:=.type "range",data:=.fields #[.int lo t,.int hi u,.int 1 v]}).objs.size],_,_,H,rfl,
  I1.kept (t':=tk) fun b o e=>Heap.get?_push_of_some _ e,amW _ lo (hi-lo).toNat,?_,fun b hb=>?_,q⟩
 ·have e1:lo+((0:Nat):Int)*1=lo:=by simp
  have e2:(((hi-lo).toNat:Nat):Int)-((0:Nat):Int)=Builtin.Range.rangeSize lo hi 1:=by rw[rangeSize_one];split<;>omega
  show IsRangeIter _ _ (lo+((0:Nat):Int)*1) ((((hi-lo).toNat:Nat):Int)-((0:Nat):Int)) 1
  rw[e1,e2]
  exact Heap.get?_push_size _ rfl
 ·have e:b=(s.heap.push {cls:=.type "range",data:=.fields #[.int lo t,.int hi u,.int 1 v]}).objs.size:=by simpa using hb
  subst e
  exact I1.fpOk (Nat.le_refl _) (I1.hok.fresh (Nat.le_refl _))
def aEV(ta:TA):TI:=fun σ H R=>ta σ H fun vs H1=>∃j:Int,vs=[.int j]/\ -(2^62)<=j/\j<2^62/\R (Itr 0 j.toNat) H1
def aET(ta:TA):TI:=fun σ H R=>ta σ H fun vs H1=>∃i j:Int,vs=[.int i,.int j]/\(-(2^62)<=i/\i<2^62/\ -(2^62)<=j/\j<2^62)/\R (Itr i (j-i).toNat) H1
theorem ao2{a:Expr}{ta:TA}{p pos:Pos}(hg:Gl X "range")(hm:X.mg "range"=none)(ha:PA X [a] ta)(hs:starEach [a] X.env=[(false,eval a X.env)]:=by rfl):PI X tg (.Call (.Name "range" p) [a] [] pos) (aEV ta):=by
 intro pins s σ H R I h
 refine Call_ (af0 I hg hm boot_range (PyProof.Rows.callWith_type1 (thn (ha pos pins s σ H _ I h) fun us s1 ⟨vs,H1,I1,r1,q1⟩=>?_) hs rfl))
 obtain⟨j,e,q1,q2,q⟩:=q1
 subst e
 cases r1 with
 |cons r rr=>
  cases rr
  obtain⟨t,rfl⟩:=r
  exact call_range_1 (al2 I1 (by omega) (by omega) q1 q2 (by simpa using q))
theorem arD{a b:Expr}{ta:TA}{p pos:Pos}(hg:Gl X "range")(hm:X.mg "range"=none)(ha:PA X [a,b] ta)(hs:starEach [a,b] X.env=[(false,eval a X.env),(false,eval b X.env)]:=by rfl)(hs2:starEach [b] X.env=[(false,eval b X.env)]:=by rfl):
  PI X tg (.Call (.Name "range" p) [a,b] [] pos) (aET ta):=by
 intro pins s σ H R I h
 refine Call_ (af0 I hg hm boot_range (PyProof.Rows.callWith_type1 (thn (ha pos pins s σ H _ I h) fun us s1 ⟨vs,H1,I1,r1,q1⟩=>?_) (by rw[hs,hs2]) (by rw[hs2];rfl)))
 obtain⟨i,j,e,⟨q1,q2,q3,q4⟩,q⟩:=q1
 subst e
 cases r1 with
 |cons r rr=>
  cases rr with
  |cons r' rr=>
   cases rr
   obtain⟨t,rfl⟩:=r
   obtain⟨t',rfl⟩:=r'
   exact call_range_2 (al2 I1 q1 q2 q3 q4 q)
def aON(wi:TI)(g:TG)(tb:TS):TS:=fun D σ H=>wi σ H fun J H1=>∃W:Nat->Nat->St->Hp->Prop,(∃m,W 0 m σ H1)/\∀i m σ H,W i m σ H->
 (J.stop i H/\D.nx σ H)∨(J.go i H/\∃N:St->Hp->Prop,(∀σ' H',N σ' H'->∃m',m'<m/\W (i+1) m' σ' H')/\∀x H',J.yld i H x H'->g x σ H' fun σ2 H2=>tb {D with nx:=N,ct:=N,bk:=D.nx} σ2 H2)
def ae1(fp:List Addr)(h:Heap):List (Addr×Obj):=fp.filterMap fun b=>(h.get? b).map fun o=>(b,o)
theorem abP{fp:List Addr}{h:Heap}{b:Addr}{o:Obj}(hb:b∈fp)(e:h.get? b=some o):(b,o)∈ae1 fp h:=List.mem_filterMap.mpr ⟨b,hb,by rw[e];rfl⟩
theorem aoK{fp:List Addr}{h:Heap}{p:Addr×Obj}(hp:p∈ae1 fp h):p.1∈fp/\h.get? p.1=some p.2:=by
 obtain⟨b,hb,e⟩:=List.mem_filterMap.mp hp
 cases q:h.get? b with
 |none=>rw[q] at e;cases e
 |some o=>
  rw[q] at e
  have e':(b,o)=p:=Option.some.inj e
  subst e'
  exact⟨hb,q⟩
theorem Inv.pinned{pins:List (Addr×Obj)}{σ:St}{H:Hp}{s:Shared}{fp:List Addr}(I:Inv X pins σ H s)(hf:∀b∈fp,acP X pins H b)(ho:∀b∈fp,∃o,s.heap.get? b=some o/\∀v,o.data≠ .cell v):Inv X (pins++ae1 fp s.heap) σ H s:=
 I.pins_of fun p hp=>(List.mem_append.mp hp).elim (fun z=>I.pin p (List.mem_append_right _ z)) fun z=>by
  obtain⟨hb,e⟩:=aoK z
  obtain⟨f0,f1,f2,_⟩:=hf p.1 hb
  obtain⟨o,e',d⟩:=ho p.1 hb
  rw[e] at e';cases e'
  exact⟨e,f0,f1,f2,d⟩
theorem Inv.unpinned{pins pl:List (Addr×Obj)}{σ:St}{H:Hp}{s:Shared}(I:Inv X (pins++pl) σ H s):Inv X pins σ H s:=I.pins_of fun p hp=>I.pin p (List.mem_append_right _ (List.mem_append_left _ hp))
theorem aFL{iter:Expr}{body:List Stmt}{wi:TI}{g:TG}{tb:TS}{pos:Pos}(hp:PassesOwn (model X.prog X.w) X.A X.env X.xe)(hc:X.calm=true)(hi:PI X tg iter wi)(hg:PG X tg g)(hb:PSs X body tb)
  (hs:∀x,foldedSetIterable iter X.env x=pure x:=by intro _;rfl):PS X (.For tg iter body [] pos) (aON wi g tb):=by
 intro pins s σ H D I h
 refine wpAny_For (thn (hi pins s σ H _ I h) fun v s1 h1=>thn h1 fun itv s2 h2=>?_) hs
 obtain⟨it,fp,tn,J,H2,e,I2,T,st2,f2,W,⟨m0,w0⟩,turn⟩:=h2
 subst e
 -- what stays true of the iterator's objects through the loop
 have stat:∀{H':Hp},(∀b∈fp,H' b=none)->∀b∈fp,acP X pins H' b:=fun hn b hb=>⟨hn b hb,(f2 b hb).2⟩
 refine codeAny_forLoop_any (fun n s'=>∃i σ' H',Inv X pins σ' H' s'/\tn i s'.heap/\(∀b∈fp,H' b=none)/\W i n σ' H') ?_ m0 ⟨0,σ,H2,I2,st2,fun b hb=>(f2 b hb).1,w0⟩
 rintro n s3 ⟨i,σ3,H3,I3,st3,fr3,w3⟩
 rcases turn i n σ3 H3 w3 with ⟨stop,qn⟩ | ⟨go,N,hN,step⟩
 ·refine wpAny_passesOwn hp (thn (T.done X rfl rfl rfl hc i pins s3 σ3 H3 X.xe I3 (stat fr3) st3 stop) fun r s4 ⟨hr,I4⟩=>?_)
  subst hr
  exact wpAny_execs_nil ⟨σ3,H3,I4,qn⟩
 ·refine wpAny_passesOwn hp (thn (T.item X rfl rfl rfl hc i pins s3 σ3 H3 X.xe I3 (stat fr3) st3 go) fun r s4 ⟨u,hr,h4⟩=>?_)
  subst hr
  refine wpAny_passesOwn hp (thn h4 fun _ s5 ⟨x,H5,I5,r5,y5,st5,fr5⟩=>?_)
  have I5':=I5.pinned (stat fr5) (T.obj _ _ st5)
  refine wpAny_passesOwn hp (thn (hg _ s5 σ3 H5 x u _ I5' r5 (step x H5 y5)) fun _ s6 ⟨σ6,H6,I6,q6⟩=>?_)
  refine wpAny_passesOwn hp (thn (hb _ s6 σ6 H6 _ I6 q6) fun f s7 q7=>?_)
  have again:∀{σ7:St} {H7:Hp},Inv X (pins++ae1 fp s5.heap) σ7 H7 s7->N σ7 H7->∃m,m<n/\∃i σ' H',Inv X pins σ' H' s7/\tn i s7.heap/\(∀b∈fp,H' b=none)/\W i m σ' H':=fun {σ7 H7} I7 n7=>by
   obtain⟨m',hm,w7⟩:=hN σ7 H7 n7
   refine⟨m',hm,i+1,σ7,H7,I7.unpinned,T.keep _ _ _ st5 fun b hb o e=>(I7.pin (b,o) (List.mem_append_right _ (List.mem_append_right _ (abP hb e)))).1,fun b hb=>?_,w7⟩
   obtain⟨o,e,d⟩:=T.obj _ _ st5 b hb
   exact (I7.pin (b,o) (List.mem_append_right _ (List.mem_append_right _ (abP hb e)))).2.1
  cases f with
  |next=>obtain⟨σ7,H7,I7,n7⟩:=q7;exact again I7 n7
  |cont=>obtain⟨σ7,H7,I7,n7⟩:=q7;exact again I7 n7
  |brk=>obtain⟨σ7,H7,I7,q7⟩:=q7;exact⟨σ7,H7,I7.unpinned,q7⟩
  |ret v=>obtain⟨x7,σ7,H7,I7,r7,q7⟩:=q7;exact⟨x7,σ7,H7,I7.unpinned,r7,q7⟩
end
theorem afO{K:PySem.W.Frag}{a:Addr}{xs:List V}{g:TG}{tb:TS}{D:Ends}{σ:St}{H:Hp}(Pv:Nat->St->Hp->Prop)(h0:Pv 0 σ H)(hl:∀i σ H,i<=xs.length->Pv i σ H->SqL K H a xs)
  (hs:∀i x σ H,xs[i]? =some x->Pv i σ H->g x σ H fun σ2 H2=>tb {D with nx:=Pv (i+1),ct:=Pv (i+1),bk:=D.nx} σ2 H2) (hd:∀σ H,Pv xs.length σ H->D.nx σ H):
  ∃W:Nat->Nat->St->Hp->Prop,(∃m,W 0 m σ H)/\∀i m σ H,W i m σ H->
   ((Itl K a).stop i H/\D.nx σ H)∨((Itl K a).go i H/\∃N:St->Hp->Prop,(∀σ' H',N σ' H'->∃m',m'<m/\W (i+1) m' σ' H')/\∀x H',(Itl K a).yld i H x H'->g x σ H' fun σ2 H2=>tb {D with nx:=N,ct:=N,bk:=D.nx} σ2 H2):=by
 refine⟨fun i m σ H=>m=xs.length-i/\i<=xs.length/\Pv i σ H,⟨xs.length,by simp,Nat.zero_le _,h0⟩,?_⟩
 rintro i m σ H ⟨rfl,hi,p⟩
 have q:=hl i σ H hi p
 by_cases hlt:i<xs.length
 ·refine .inr ⟨⟨xs,xs[i],q,by simp[hlt]⟩,Pv (i+1),fun σ' H' p'=>⟨xs.length-(i+1),by omega,rfl,hlt,p'⟩,fun x H' y=>?_⟩
  obtain⟨e,y⟩:=y
  subst e
  exact hs i x σ _ (y xs q) p
 ·have e:i=xs.length:=by omega
  subst e
  exact .inl ⟨⟨xs,q,Nat.le_refl _⟩,hd σ H p⟩
theorem aDZ{K:PySem.W.Frag}{a:Addr}{xs:List V}{g:TG}{tb:TS}{D:Ends}{σ:St}{H:Hp}(Pv:Nat->St->Hp->Prop)(h0:Pv 0 σ H)(hl:∀i σ H,i<=xs.length->Pv i σ H->SqT K H a xs)
  (hs:∀i x σ H,xs[i]? =some x->Pv i σ H->g x σ H fun σ2 H2=>tb {D with nx:=Pv (i+1),ct:=Pv (i+1),bk:=D.nx} σ2 H2) (hd:∀σ H,Pv xs.length σ H->D.nx σ H):
  ∃W:Nat->Nat->St->Hp->Prop,(∃m,W 0 m σ H)/\∀i m σ H,W i m σ H->
   ((Itt K a).stop i H/\D.nx σ H)∨((Itt K a).go i H/\∃N:St->Hp->Prop,(∀σ' H',N σ' H'->∃m',m'<m/\W (i+1) m' σ' H')/\∀x H',(Itt K a).yld i H x H'->g x σ H' fun σ2 H2=>tb {D with nx:=N,ct:=N,bk:=D.nx} σ2 H2):=by
 refine⟨fun i m σ H=>m=xs.length-i/\i<=xs.length/\Pv i σ H,⟨xs.length,by simp,Nat.zero_le _,h0⟩,?_⟩
 rintro i m σ H ⟨rfl,hi,p⟩
 have q:=hl i σ H hi p
 by_cases hlt:i<xs.length
 ·refine .inr ⟨⟨xs,xs[i],q,by simp[hlt]⟩,Pv (i+1),fun σ' H' p'=>⟨xs.length-(i+1),by omega,rfl,hlt,p'⟩,fun x H' y=>?_⟩
  obtain⟨e,y⟩:=y
  subst e
  exact hs i x σ _ (y xs q) p
 ·have e:i=xs.length:=by omega
  subst e
  exact .inl ⟨⟨xs,q,Nat.le_refl _⟩,hd σ H p⟩
theorem asZ{lo:Int}{n:Nat}{g:TG}{tb:TS}{D:Ends}{σ:St}{H:Hp}(Pv:Nat->St->Hp->Prop)(h0:Pv 0 σ H)
  (hs:∀i σ H,i<n->Pv i σ H->g (.int (lo+i)) σ H fun σ2 H2=>tb {D with nx:=Pv (i+1),ct:=Pv (i+1),bk:=D.nx} σ2 H2) (hd:∀σ H,Pv n σ H->D.nx σ H):
  ∃W:Nat->Nat->St->Hp->Prop,(∃m,W 0 m σ H)/\∀i m σ H,W i m σ H->
   ((Itr lo n).stop i H/\D.nx σ H)∨((Itr lo n).go i H/\∃N:St->Hp->Prop,(∀σ' H',N σ' H'->∃m',m'<m/\W (i+1) m' σ' H')/\∀x H',(Itr lo n).yld i H x H'->g x σ H' fun σ2 H2=>tb {D with nx:=N,ct:=N,bk:=D.nx} σ2 H2):=by
 refine⟨fun i m σ H=>m=n-i/\i<=n/\Pv i σ H,⟨n,by simp,Nat.zero_le _,h0⟩,?_⟩
 rintro i m σ H ⟨rfl,hi,p⟩
 by_cases hlt:i<n
 ·refine .inr ⟨hlt,Pv (i+1),fun σ' H' p'=>⟨n-(i+1),by omega,rfl,hlt,p'⟩,fun x H' y=>?_⟩
  obtain⟨e,y⟩:=y
  subst e y
  exact hs i σ _ hlt p
 ·have e:i=n:=by omega
  subst e
  exact .inl ⟨Nat.le_refl _,hd σ H p⟩
abbrev R2:=V->V->Hp->VK->Prop
def OpR(X:Cx)(f:Value->Value->Sem Value)(r:R2):Prop:=
 ∀(pins:List (Addr×Obj)) (s:Shared) (σ:St) (H:Hp) (x y:V) (v u:Value) (Q:VK),Inv X pins σ H s->RelV x v->RelV y u->r x y H Q->
  wpAny (model X.prog X.w) X.A (f v u) (EP X pins σ Q) X.xe s
def UnR(X:Cx)(f:Value->Sem Value)(r:V->Hp->VK->Prop):Prop:=
 ∀(pins:List (Addr×Obj)) (s:Shared) (σ:St) (H:Hp) (x:V) (v:Value) (Q:VK),Inv X pins σ H s->RelV x v->r x H Q->
  wpAny (model X.prog X.w) X.A (f v) (EP X pins σ Q) X.xe s
def adW(X:Cx)(f:Value)(r:List V->Hp->VK->Prop):Prop:=
 ∀(pins:List (Addr×Obj)) (s:Shared) (σ:St) (H:Hp) (xs:List V) (us:List Value) (Q:VK),Inv X pins σ H s->Vals xs us->r xs H Q->
  wpAny (model X.prog X.w) X.A (call f us) (EP X pins σ Q) X.xe s
def tOp(r:R2)(ta tb:TE):TE:=fun σ H Q=>ta σ H fun x H1=>tb σ H1 fun y H2=>r x y H2 Q
def tUn(r:V->Hp->VK->Prop)(ta:TE):TE:=fun σ H Q=>ta σ H fun x H1=>r x H1 Q
def rI(C:Int->Int->Prop)(g:Int->Int->V):R2:=fun x y H Q=>∃i j,x=.int i/\y=.int j/\C i j/\Q (g i j) H
def rI0(g:Int->Int->V):R2:=fun x y H Q=>∃i j,x=.int i/\y=.int j/\Q (g i j) H
def rU(g:Int->V):V->Hp->VK->Prop:=fun x H Q=>∃i,x=.int i/\Q (g i) H
section
variable{X:Cx}{a b c:Expr}{ta tb tc:TE}{pos:Pos}
theorem aGH(ha:PE X a ta)(hb:PE X b tb){pins:List (Addr×Obj)}{s:Shared}{σ:St}{H:Hp}{R:V->V->Hp->Prop}(I:Inv X pins σ H s)
  (h:ta σ H fun x H1=>tb σ H1 fun y H2=>R x y H2) {Q:Value->Shared->Prop} {f:Value->Value->Sem Value}
  (hf:∀v u s2 x y H2,Inv X pins σ H2 s2->RelV x v->RelV y u->R x y H2->wpAny (model X.prog X.w) X.A (f v u) Q X.xe s2):
  wpAny (model X.prog X.w) X.A (eval a X.env) (fun v s₁=>wpAny (model X.prog X.w) X.A (eval b X.env) (fun u s₂=>wpAny (model X.prog X.w) X.A (f v u) Q X.xe s₂) X.xe s₁) X.xe s:=by
 refine thn (ha pins s σ H _ I h) fun v s1 ⟨x,H1,I1,r1,q1⟩=>?_
 refine thn (hb pins s1 σ H1 _ I1 q1) fun u s2 ⟨y,H2,I2,r2,q2⟩=>?_
 exact hf v u s2 x y H2 I2 r1 r2 q2
theorem aOD{op:Operator}{r:R2}(ho:OpR X (binaryOp op) r)(ha:PE X a ta)(hb:PE X b tb):PE X (.BinOp a op b pos) (tOp r ta tb):=by
 intro pins s σ H Q I h
 exact wpAny_BinOp (aGH ha hb I h fun v u s2 x y H2 I2 rx ry q=>ho pins s2 σ H2 x y v u Q I2 rx ry q)
theorem aO3{op:UnaryOp}{r:V->Hp->VK->Prop}(ho:UnR X (unaryOp op) r)(ha:PE X a ta):PE X (.UnaryOp op a pos) (tUn r ta):=by
 intro pins s σ H Q I h
 exact UnaryOp_ (thn (ha pins s σ H _ I h) fun v s1 ⟨x,H1,I1,r1,q1⟩=>ho pins s1 σ H1 x v Q I1 r1 q1)
theorem opI{f:Value->Value->Sem Value}{C:Int->Int->Prop}{g:Int->Int->Int}
  (rule:∀(i j:Int) (t u:Tok) (s:Shared) (Q:Value->Shared->Prop) (E:Value->Shared->Prop),C i j->Q (.int (g i j) s.toks) {s with toks:=s.toks+1}->wpAny (model X.prog X.w) X.A (f (.int i t) (.int j u)) Q E s):
  OpR X f (rI C fun i j=>.int (g i j)):=by
 intro pins s σ H x y v u Q I rx ry h
 obtain⟨i,j,rfl,rfl,hc,q⟩:=h
 obtain⟨t,rfl⟩:=rx
 obtain⟨t',rfl⟩:=ry
 exact rule i j t t' s _ _ hc ⟨.int (g i j),H,I.tok _,⟨_,rfl⟩,q⟩
theorem azN{f:Value->Value->Sem Value}{g:Int->Int->Int}
  (rule:∀(i j:Int) (t u:Tok) (s:Shared) (Q:Value->Shared->Prop) (E:Value->Shared->Prop),Q (.int (g i j) s.toks) {s with toks:=s.toks+1}->wpAny (model X.prog X.w) X.A (f (.int i t) (.int j u)) Q E s):
  OpR X f (rI0 fun i j=>.int (g i j)):=by
 intro pins s σ H x y v u Q I rx ry h
 obtain⟨i,j,rfl,rfl,q⟩:=h
 obtain⟨t,rfl⟩:=rx
 obtain⟨t',rfl⟩:=ry
 exact rule i j t t' s _ _ ⟨.int (g i j),H,I.tok _,⟨_,rfl⟩,q⟩
theorem aIZ{f:Value->Value->Sem Value}{g:Int->Int->Bool}
  (rule:∀(i j:Int) (t u:Tok) (s:Shared) (Q:Value->Shared->Prop) (E:Value->Shared->Prop),Q (.bool (g i j)) s->wpAny (model X.prog X.w) X.A (f (.int i t) (.int j u)) Q E s):
  OpR X f (rI0 fun i j=>.bl (g i j)):=by
 intro pins s σ H x y v u Q I rx ry h
 obtain⟨i,j,rfl,rfl,q⟩:=h
 obtain⟨t,rfl⟩:=rx
 obtain⟨t',rfl⟩:=ry
 exact rule i j t t' s _ _ ⟨.bl (g i j),H,I,rfl,q⟩
def aMZ(i j:Int):Prop:=0<j/\j<1073741824
def aC3(i j:Int):Prop:=0<=j/\j<=1000000/\i.natAbs<2^64
def CMul(i j:Int):Prop:=(-(2^64)<i/\i<2^64)∨(-(2^64)<j/\j<2^64)
theorem CMul.ok{i j:Int}(h:CMul i j):IntMulOk i j:=by
 rcases h with ⟨h1,h2⟩ | ⟨h1,h2⟩
 ·exact .of_left (intBits_le_64 h1 h2)
 ·exact .of_right (intBits_le_64 h1 h2)
theorem amP(k:Nat):(0:Int)<=2^k:=by
 rw[two_pow_cast]
 exact Int.natCast_nonneg _
theorem aK5:OpR X (binaryOp .Add) (rI0 fun i j=>.int (i+j)):=azN fun _ _ _ _ _ _ _ q=>add_int q
theorem aIS:OpR X (binaryOp .Sub) (rI0 fun i j=>.int (i-j)):=azN fun _ _ _ _ _ _ _ q=>sub_int q
theorem aKW:OpR X (binaryOp .Mult) (rI CMul fun i j=>.int (i*j)):=opI fun _ _ _ _ _ _ _ hc q=>mul_int q hc.ok
theorem aDN:OpR X (binaryOp .FloorDiv) (rI aMZ fun i j=>.int (i / j)):=opI fun i j _ _ _ _ _ hc q=>by
 have h1:(0:Int)<j:=hc.1
 have h2:j<1073741824:=hc.2
 exact floordiv_int (by omega) (by rw[Int.fdiv_eq_ediv_of_nonneg i (by omega)];exact q) (.inl (PyProof.noPylong_small (by omega)))
theorem aLH:OpR X (binaryOp .Mod) (rI (fun _ j=>0<j) fun i j=>.int (i%j)):=opI fun i j _ _ _ _ _ hc q=>by
 have h1:(0:Int)<j:=hc
 exact mod_int' (by omega) (by rw[Int.fmod_eq_emod_of_nonneg i (by omega)];exact q)
theorem aJ7:OpR X (binaryOp .Pow) (rI aC3 fun i j=>.int (i^j.toNat)):=opI fun _ _ _ _ _ _ _ hc q=>pow_int_small hc.1 hc.2.1 hc.2.2 q
theorem aK2:OpR X (binaryOp .LShift) (rI aC3 fun i j=>.int (i*2^j.toNat)):=opI fun _ _ _ _ _ _ _ hc q=>lshift_int_small hc.1 hc.2.1 hc.2.2 q
theorem aHX:OpR X (binaryOp .RShift) (rI (fun _ j=>0<=j) fun i j=>.int (i / 2^j.toNat)):=opI fun i j _ _ _ _ _ hc q=>
 rshift_int hc (by rw[Int.fdiv_eq_ediv_of_nonneg i (amP _)];exact q)
theorem aFF:OpR X (binaryOp .BitAnd) (rI0 fun i j=>.int (Builtin.bitAnd i j)):=azN fun _ _ _ _ _ _ _ q=>and_int q
theorem aOY:OpR X (binaryOp .BitOr) (rI0 fun i j=>.int (Builtin.bitOr i j)):=azN fun _ _ _ _ _ _ _ q=>or_int q
theorem unI{f:Value->Sem Value}{g:Int->Int}
  (rule:∀(i:Int) (t:Tok) (s:Shared) (Q:Value->Shared->Prop) (E:Value->Shared->Prop),Q (.int (g i) s.toks) {s with toks:=s.toks+1}->wpAny (model X.prog X.w) X.A (f (.int i t)) Q E s):
  UnR X f (rU fun i=>.int (g i)):=by
 intro pins s σ H x v Q I rx h
 obtain⟨i,rfl,q⟩:=h
 obtain⟨t,rfl⟩:=rx
 exact rule i t s _ _ ⟨.int (g i),H,I.tok _,⟨_,rfl⟩,q⟩
theorem aI9:UnR X (unaryOp .USub) (rU fun i=>.int (-i)):=unI fun _ _ _ _ _ q=>neg_int q
end
def aM7:V->V->Bool
 |.non,.non=>true | .non,.int _=>true | .int _,.non=>true | .non,.bl _=>true | .bl _,.non=>true | .non,.str _=>true | .str _,.non=>true
 |.int _,.int _=>true | .bl _,.bl _=>true | .str _,.str _=>true | .byt _,.byt _=>true
 |.int _,.str _=>true | .str _,.int _=>true | .bl _,.str _=>true | .str _,.bl _=>true
 |_,_=>false
def rEq:R2:=fun x y H Q=>aM7 x y=true/\Q (.bl (decide (x=y))) H
def rNe:R2:=fun x y H Q=>aM7 x y=true/\Q (.bl (!decide (x=y))) H
theorem anX{i j:Int}:decide (V.int i=V.int j)=(i==j):=by
 rw[Bool.eq_iff_iff]
 simp
theorem awH{i j:Bool}:decide (V.bl i=V.bl j)=(i==j):=by
 rw[Bool.eq_iff_iff]
 simp
theorem an5{i j:Str}:decide (V.str i=V.str j)=(i==j):=by
 rw[Bool.eq_iff_iff]
 simp
theorem anW{i j:Array UInt8}:decide (V.byt i=V.byt j)=(i.toList==j.toList):=by
 rw[Bool.eq_iff_iff]
 cases i
 cases j
 simp
section
variable{X:Cx}{a b c:Expr}{ta tb tc:TE}{pos:Pos}
theorem aaO{pins:List (Addr×Obj)}{σ:St}{H:Hp}{s:Shared}{Q:VK}{k k':Bool}(I:Inv X pins σ H s)(q:Q (.bl k) H)(e:k=k'):EP X pins σ Q (.bool k') s:=by
 subst e
 exact⟨.bl k,H,I,rfl,q⟩
theorem aN7:OpR X (compareOp .Eq) rEq:=by
 intro pins s σ H x y v u Q I rx ry h
 obtain⟨hs,q⟩:=h
 cases x with
 |non=>
  cases rx
  cases y with
  |non=>cases ry;exact PySem.EqNone.eq_none_none (aaO I q (by simp))
  |bl j=>cases ry;exact PySem.EqNone.eq_none_bool (aaO I q (by simp))
  |int j=>obtain⟨t',rfl⟩:=ry;exact PySem.EqNone.eq_none_int (aaO I q (by simp))
  |str j=>obtain⟨t',rfl⟩:=ry;exact PySem.EqNone.eq_none_str (aaO I q (by simp))
  |_=>exact absurd (show false=true from hs) Bool.false_ne_true
 |bl i=>
  cases rx
  cases y with
  |non=>cases ry;exact PySem.EqNone.eq_bool_none (aaO I q (by simp))
  |bl j=>cases ry;exact eq_bool (aaO I q awH)
  |str j=>obtain⟨t',rfl⟩:=ry;exact PySem.EqMixed.eq_bool_str (aaO I q (by simp))
  |_=>exact absurd (show false=true from hs) Bool.false_ne_true
 |int i=>
  obtain⟨t,rfl⟩:=rx
  cases y with
  |non=>cases ry;exact PySem.EqNone.eq_int_none (aaO I q (by simp))
  |int j=>obtain⟨t',rfl⟩:=ry;exact eq_int (aaO I q anX)
  |str j=>obtain⟨t',rfl⟩:=ry;exact PySem.EqMixed.eq_int_str (aaO I q (by simp))
  |_=>exact absurd (show false=true from hs) Bool.false_ne_true
 |str i=>
  obtain⟨t,rfl⟩:=rx
  cases y with
  |non=>cases ry;exact PySem.EqNone.eq_str_none (aaO I q (by simp))
  |bl j=>cases ry;exact PySem.EqMixed.eq_str_bool (aaO I q (by simp))
  |int j=>obtain⟨t',rfl⟩:=ry;exact PySem.EqMixed.eq_str_int (aaO I q (by simp))
  |str j=>obtain⟨t',rfl⟩:=ry;exact eq_str (aaO I q an5)
  |_=>exact absurd (show false=true from hs) Bool.false_ne_true
 |byt i=>
  obtain⟨t,rfl⟩:=rx
  cases y with
  |byt j=>obtain⟨t',rfl⟩:=ry;exact PySem.W.eq_bytes (aaO I q anW)
  |_=>exact absurd (show false=true from hs) Bool.false_ne_true
 |_=>cases y<;>exact absurd (show false=true from hs) Bool.false_ne_true
theorem aNF:OpR X (compareOp .NotEq) rNe:=by
 intro pins s σ H x y v u Q I rx ry h
 obtain⟨hs,q⟩:=h
 cases x with
 |non=>
  cases rx
  cases y with
  |non=>cases ry;exact PySem.EqNone.ne_none_none (aaO I q (by simp))
  |bl j=>cases ry;exact PySem.EqNone.ne_none_bool (aaO I q (by simp))
  |int j=>obtain⟨t',rfl⟩:=ry;exact PySem.EqNone.ne_none_int (aaO I q (by simp))
  |str j=>obtain⟨t',rfl⟩:=ry;exact PySem.EqNone.ne_none_str (aaO I q (by simp))
  |_=>exact absurd (show false=true from hs) Bool.false_ne_true
 |bl i=>
  cases rx
  cases y with
  |non=>cases ry;exact PySem.EqNone.ne_bool_none (aaO I q (by simp))
  |bl j=>cases ry;exact ne_bool (aaO I q (congrArg not awH))
  |str j=>obtain⟨t',rfl⟩:=ry;exact PySem.EqMixed.ne_bool_str (aaO I q (by simp))
  |_=>exact absurd (show false=true from hs) Bool.false_ne_true
 |int i=>
  obtain⟨t,rfl⟩:=rx
  cases y with
  |non=>cases ry;exact PySem.EqNone.ne_int_none (aaO I q (by simp))
  |int j=>obtain⟨t',rfl⟩:=ry;exact ne_int (aaO I q (congrArg not anX))
  |str j=>obtain⟨t',rfl⟩:=ry;exact PySem.EqMixed.ne_int_str (aaO I q (by simp))
  |_=>exact absurd (show false=true from hs) Bool.false_ne_true
 |str i=>
  obtain⟨t,rfl⟩:=rx
  cases y with
  |non=>cases ry;exact PySem.EqNone.ne_str_none (aaO I q (by simp))
  |bl j=>cases ry;exact PySem.EqMixed.ne_str_bool (aaO I q (by simp))
  |int j=>obtain⟨t',rfl⟩:=ry;exact PySem.EqMixed.ne_str_int (aaO I q (by simp))
  |str j=>obtain⟨t',rfl⟩:=ry;exact ne_str (aaO I q (congrArg not an5))
  |_=>exact absurd (show false=true from hs) Bool.false_ne_true
 |byt i=>
  obtain⟨t,rfl⟩:=rx
  cases y with
  |byt j=>obtain⟨t',rfl⟩:=ry;exact PySem.W.ne_bytes (aaO I q (congrArg not anW))
  |_=>exact absurd (show false=true from hs) Bool.false_ne_true
 |_=>cases y<;>exact absurd (show false=true from hs) Bool.false_ne_true
theorem aM1:OpR X (compareOp .Lt) (rI0 fun i j=>.bl (decide (i<j))):=aIZ fun _ _ _ _ _ _ _ q=>lt_int q
theorem aNU:OpR X (compareOp .LtE) (rI0 fun i j=>.bl (decide (i<=j))):=aIZ fun _ _ _ _ _ _ _ q=>le_int q
theorem aOT:OpR X (compareOp .Gt) (rI0 fun i j=>.bl (decide (j<i))):=aIZ fun _ _ _ _ _ _ _ q=>gt_int q
theorem aqZ:OpR X (compareOp .In) (fun x y H Q=>∃i j,x=.str i/\y=.str j/\Q (.bl (!(Builtin.Str.occurrences j i 0 j.length 1).isEmpty)) H):=by
 intro pins s σ H x y v u Q I rx ry h
 obtain⟨i,j,rfl,rfl,q⟩:=h
 obtain⟨t,rfl⟩:=rx
 obtain⟨t',rfl⟩:=ry
 exact in_str (aaO I q rfl)
theorem aH9:OpR X (compareOp .Is) (fun x y H Q=>y=.non/\Q (.bl (decide (x=.non))) H):=by
 intro pins s σ H x y v u Q I rx ry h
 obtain⟨rfl,q⟩:=h
 cases ry
 refine is_none_gen (aaO I q ?_)
 cases x<;>first
  |(cases rx;rfl)
  |(obtain⟨t,rfl⟩:=rx;rfl)
theorem axR(b:Expr){op:CmpOp}(h:op≠ .In:=by decide)(h2:op≠ .NotIn:=by decide):behindInMarks op b=false:=by
 have e1:(op==CmpOp.In)=false:=by cases op<;>first | rfl | exact absurd rfl h
 have e2:(op==CmpOp.NotIn)=false:=by cases op<;>first | rfl | exact absurd rfl h2
 cases b<;>simp[behindInMarks,e1,e2]
theorem aC0{op:CmpOp}{r:R2}(ho:OpR X (compareOp op) r)(ha:PE X a ta)(hb:PE X b tb)(hm:behindInMarks op b=false):PE X (.Compare a [op] [b] pos) (tOp r ta tb):=by
 intro pins s σ H Q I h
 exact wpAny_Compare1 (aGH ha hb I h fun v u s2 x y H2 I2 rx ry q=>ho pins s2 σ H2 x y v u Q I2 rx ry q) hm
def anQ(t:TE):TT:=fun σ H Q=>t σ H fun x H'=>∃k,x=.bl k/\Q k H'
theorem aD4{op:CmpOp}{r:R2}(ho:OpR X (compareOp op) r)(ha:PE X a ta)(hb:PE X b tb)(hm:behindInMarks op b=false):PT X (.Compare a [op] [b] pos) (anQ (tOp r ta tb)):=by
 intro pins s σ H Q I h
 refine wpAny_isTrue_Compare1 (thn (ha pins s σ H _ I h) fun v s1 ⟨x,H1,I1,r1,q1⟩=>thn (hb pins s1 σ H1 _ I1 q1) fun u s2 ⟨y,H2,I2,r2,q2⟩=>
  thn (ho pins s2 σ H2 x y v u _ I2 r1 r2 q2) fun c s3 ⟨z,H3,I3,r3,k,e,q3⟩=>?_) hm
 subst e
 cases r3
 exact wpAny_truthy_bool ⟨H3,I3,q3⟩
def avY(r r':R2)(ta tb tc:TE):TE:=fun σ H Q=>ta σ H fun x H1=>tb σ H1 fun y H2=>r x y H2 fun z H3=>∃k,z=.bl k/\
 (if k=true then tc σ H3 fun w' H4=>r' y w' H4 Q else Q (.bl false) H3)
theorem ayF{op op':CmpOp}{r r':R2}(ho:OpR X (compareOp op) r)(ho':OpR X (compareOp op') r')(ha:PE X a ta)(hb:PE X b tb)(hc:PE X c tc)
  (hm:lastMarks [op,op'] [b,c]=false:=by with_unfolding_all rfl):PT X (.Compare a [op,op'] [b,c] pos) (anQ (avY r r' ta tb tc)):=by
 intro pins s σ H Q I h
 refine isTrue_chain (thn (ha pins s σ H _ I h) fun v s1 ⟨x,H1,I1,r1,q1⟩=>test_link (thn (hb pins s1 σ H1 _ I1 q1) fun u s2 ⟨y,H2,I2,r2,q2⟩=>
  thn (ho pins s2 σ H2 x y v u _ I2 r1 r2 q2) fun d s3 ⟨z,H3,I3,r3,k,e,q3⟩=>?_)) hm
 subst e
 cases r3
 refine wpAny_truthy_bool ?_
 cases k with
 |false=>
  obtain⟨k',e',q'⟩:=q3
  cases e'
  exact ite_ff ⟨H3,I3,q'⟩
 |true=>
  refine ite_tt (test_last (thn (hc pins s3 σ H3 _ I3 q3) fun w' s4 ⟨z',H4,I4,r4,q4⟩=>thn (ho' pins s4 σ H4 y z' u w' _ I4 r2 r4 q4) fun d' s5 ⟨z2,H5,I5,r5,k2,e2,q5⟩=>?_))
  subst e2
  cases r5
  exact wpAny_truthy_bool ⟨H5,I5,q5⟩
theorem aiL:(sizeLine:Nat)<2^63:=by rw[sizeLine_eq];decide
theorem ab8{x:V}{us:List Value}(r:Vals [x] us):∃u,us=[u]/\RelV x u:=by
 cases r with
 |cons r1 r2=>cases r2;exact⟨_,rfl,r1⟩
theorem aiJ{x y:V}{us:List Value}(r:Vals [x,y] us):∃u w',us=[u,w']/\RelV x u/\RelV y w':=by
 cases r with
 |cons r1 r2=>
  cases r2 with
  |cons r3 r4=>cases r4;exact⟨_,_,rfl,r1,r3⟩
theorem axL:adW X (.builtin "abs") (fun xs H Q=>∃i,xs=[.int i]/\Q (.int (if i<0 then -i else i)) H):=by
 intro pins s σ H xs us Q I r h
 obtain⟨i,rfl,q⟩:=h
 obtain⟨u,rfl,t,rfl⟩:=ab8 r
 exact call_abs_int fun u tk=>⟨.int (if i<0 then -i else i),H,I.tok _,⟨_,rfl⟩,q⟩
theorem ap6(hc:X.calm=true):adW X (.builtin "max") (fun xs H Q=>∃i j,xs=[.int i,.int j]/\Q (.int (if j>i then j else i)) H):=by
 intro pins s σ H xs us Q I r h
 obtain⟨i,j,rfl,q⟩:=h
 obtain⟨u,w',rfl,⟨t,rfl⟩,⟨t',rfl⟩⟩:=aiJ r
 refine max_two_ints (I.ok.hd hc) fun h' tk k=>⟨_,H,I.kept k,?_,q⟩
 by_cases hj:j>i
 ·rw[if_pos hj,if_pos hj];exact⟨_,rfl⟩
 ·rw[if_neg hj,if_neg hj];exact⟨_,rfl⟩
theorem aoU(hc:X.calm=true):adW X (.builtin "min") (fun xs H Q=>∃i j,xs=[.int i,.int j]/\Q (.int (if j<i then j else i)) H):=by
 intro pins s σ H xs us Q I r h
 obtain⟨i,j,rfl,q⟩:=h
 obtain⟨u,w',rfl,⟨t,rfl⟩,⟨t',rfl⟩⟩:=aiJ r
 refine min_two_ints (I.ok.hd hc) fun h' tk k=>⟨_,H,I.kept k,?_,q⟩
 by_cases hj:j<i
 ·rw[if_pos hj,if_pos hj];exact⟨_,rfl⟩
 ·rw[if_neg hj,if_neg hj];exact⟨_,rfl⟩
end
structure ObjM(h:Heap)(x dx C:Addr)(mA:Str->Option Value):Prop where
 obj:h.get? x=some (PySem.W.instObj C dx)
 ns:h.Ns1 dx mA
 ne:dx≠x
theorem ao6{h:Heap}{dx:Addr}{mA:Str->Option Value}(n:h.Ns1 dx mA):∃od,h.get? dx=some od/\∀name,PySem.W.lookIn name od=some (mA name):=by
 obtain⟨o,es,ep,ho,hd,hk,_,hm⟩:=n
 refine⟨o,ho,fun name=>?_⟩
 have e:=hm name
 unfold nsFind findBy at e
 rw[←Array.find?_toList] at e
 unfold PySem.W.lookIn
 rw[hd]
 dsimp only
 split
 ·rename_i y q
  rw[q] at e
  exact congrArg some e
 ·rename_i q
  rw[q] at e
  have a:es.toList.any (·.refKey)=false:=by
   rw[List.any_eq_false]
   intro y hy
   obtain⟨z,t,hkey⟩:=hk y (Array.mem_toList_iff.mp hy)
   simp[DictEntry.refKey,hkey]
  have a':¬es.toList.any (·.refKey)=true:=by rw[a];exact Bool.false_ne_true
  rw[if_neg a']
  exact congrArg some e
theorem ObjM.look{h:Heap}{x dx C:Addr}{mA:Str->Option Value}(I:ObjM h x dx C mA):∃od,PySem.W.InstAt h x (PySem.W.instObj C dx) C (some od)/\∀name,PySem.W.lookIn name od=some (mA name):=
 let ⟨od,ho,hl⟩:=ao6 I.ns
 ⟨od,⟨I.obj,rfl,rfl,ho⟩,hl⟩
section
variable{prog:Program}{w:World}{A:Around}{E:Value->Shared->Prop}{s:Shared}{K:PySem.W.Frag}{x dx C f:Addr}{mA:Str->Option Value}{name:Str}{v:Value}
theorem aAC{expr:Bool}{Q:Value->Shared->Prop}(X:K.In s.heap)(I:ObjM s.heap x dx C mA)(hg:PySem.W.plainGet K C name=true)(hh:PySem.W.hasDictIn K C=true)
  (ha:PySem.W.findIn K (.ref C) name=some none) (hv:mA name=some v) (hv':PySem.W.handedIn v=true) (h:Q v {s with toks:=s.toks+1}):
  wpAny (model prog w) A (getAttr (.ref x) name expr) Q E s:=by
 obtain⟨od,J,hl⟩:=I.look
 exact PySem.W.get_value X J (PySem.W.plainGet_of hg).1 (PySem.W.findObj_own hh ha rfl (by rw[hl,hv])) hv' h
theorem awF{pl:Sem Bool}{Q:Value×List Value->Shared->Prop}(X:K.In s.heap)(I:ObjM s.heap x dx C mA)(hg:PySem.W.plainGet K C name=true)
  (hf:PySem.W.findIn K (.ref C) name=some (some (.ref f))) (ht:PySem.W.isFn K (.ref f)=true) (hv:mA name=none) (h:Q (.ref f,[.ref x]) s):
  wpAny (model prog w) A (getMethod (.ref x) name pl) Q E s:=by
 obtain⟨od,J,hl⟩:=I.look
 exact PySem.W.method_fn X J (PySem.W.plainGet_of hg).1 (PySem.W.plainGet_of hg).2 hf (beq_iff_eq.mp ht) (by show (PySem.W.lookIn name od).map (·.isSome)=some false;rw[hl,hv];rfl) h
theorem az1{ns:List Str}{Q:Unit->Shared->Prop}(X:K.In s.heap)(I:ObjM s.heap x dx C mA)
  (hs:PySem.W.findIn K (.ref C) "__setattr__"=some (some (.builtin "object.__setattr__"))) (hp:PySem.W.plainOver K C=true) (ht:PySem.W.takerIn K C name=some none) (hh:PySem.W.hasDictIn K C=true)
  (hw:PySem.Within mA ns) (hsz:ns.length<=sizeLine)
  (h:∀h',ObjM h' x dx C (fun y=>if y=name then some v else mA y)->Heap.SameBut dx s.heap h'->Q () {s with heap:=h',toks:=s.toks+2}):
  wpAny (model prog w) A (setAttr (.ref x) name v) Q E s:=by
 obtain⟨od,J,hl⟩:=I.look
 refine PySem.W.set_plain X J hs (PySem.W.osa_open (s:={s with toks:=s.toks+1}) (r:=none) X J hp ht fun b=>?_)
 obtain⟨cd,hc,hd'⟩:=PySem.W.any_some hh
 have hx:s.heap.get? x=some ⟨.ref C,some dx,.plain,#[]⟩:=I.obj
 refine wpAny_bind (wpAny_pure (wpAny_bind (wpAny_bind (wpAny_loadPart hx (wpAny_bind (PySem.W.Looks.here (s:={s with toks:=s.toks+1}) (PySem.W.looks_clsIn X hc) ?_))))))
 rw[hd']
 refine wpAny_pure (a:=some dx) (wpAny_bind (wpAny_pure (wpAny_bind ?_)))
 refine wpAny_nsSet1 (s:={s with toks:=s.toks+1}) I.ns fun h' hn2 hs2=>?_
 obtain⟨oD,esD,epD,hoD,hdD,hcD⟩:=hn2.count (PySem.Within.cons name v hw)
 refine wpAny_bind (wpAny_lookBehind hoD (by rw[hdD];exact pastItsLine_dict (Nat.le_trans hcD (by rw[List.length_cons];omega))) ?_)
 exact wpAny_pure (h _ ⟨(hs2.2 _ (Ne.symm I.ne)).trans I.obj,hn2,I.ne⟩ hs2)
theorem awG{R:Result->Shared->Prop}{vs:List Value}{kw:List (Str×Value)}(X:K.In s.heap)(hm:PySem.W.makesIn K C=true)
  (hi:PySem.W.findIn K (.ref C) "__init__"=some (some (.ref f))) (hf:PySem.W.typeIn K (.ref f)=some (.type "function"))
  (h:codeAny (model prog w) (A.under (.builtin "type.__call__" ⟨.ref C::vs,kw⟩)) (.call (.ref f) ⟨.ref (s.heap.objs.size+1)::vs,kw⟩) (PySem.W.InitBack (s.heap.objs.size+1) R)
   {s with heap:=(s.heap.push PySem.W.emptyDict).push (PySem.W.instObj C s.heap.objs.size)}):
  codeAny (model prog w) A (.call (.ref C) ⟨vs,kw⟩) R s:=by
 obtain⟨hh,g,d,t,os⟩:=s
 exact PySem.W.make_core (PySem.W.makes_of X hm) (PySem.W.looks_findIn X hi) (fun self=>PySem.W.bind_fn X self hf) (.inl rfl) h
theorem as0{R:Result->Shared->Prop}(X:K.In s.heap)(hm:PySem.W.makesIn K C=true)
  (hi:PySem.W.findIn K (.ref C) "__init__"=some (some (.builtin "object.__init__")))
  (hb:∀self,PySem.W.Looks (model prog w) s.heap (bindSpecial (.builtin "object.__init__") self) (.builtin "object.__init__",[self]))
  (h:codeAny (model prog w) (A.under (.builtin "type.__call__" ⟨[.ref C],[]⟩)) (.call (.builtin "object.__init__") ⟨[.ref (s.heap.objs.size+1)],[]⟩) (PySem.W.InitBack (s.heap.objs.size+1) R)
   {s with heap:=(s.heap.push PySem.W.emptyDict).push (PySem.W.instObj C s.heap.objs.size)}):
  codeAny (model prog w) A (.call (.ref C) ⟨[],[]⟩) R s:=by
 obtain⟨hh,g,d,t,os⟩:=s
 exact PySem.W.make_core (PySem.W.makes_of X hm) (PySem.W.looks_findIn X hi) hb (.inr ⟨rfl,rfl⟩) h
end
def aaP(f:Str)(v:V):List (Str×V)->List (Str×V)
 |[]=>[(f,v)]
 |(g,x)::r=>if g=f then (g,v)::r else (g,x)::aaP f v r
theorem aaM(f g:Str)(v:V):∀fs:List (Str×V),(aaP f v fs).lookup g=if g=f then some v else fs.lookup g
 |[]=>by
  show List.lookup g [(f,v)]=_
  by_cases h:g=f
  ·have hb:(g==f)=true:=beq_iff_eq.mpr h
   simp only[List.lookup,hb,if_pos h]
  ·have hb:(g==f)=false:=beq_eq_false_iff_ne.mpr h
   simp only[List.lookup,hb,if_neg h]
 |(k,x)::r=>by
  have ih:=aaM f g v r
  rw[show aaP f v ((k,x)::r)=(if k=f then (k,v)::r else (k,x)::aaP f v r) from rfl]
  by_cases hk:k=f
  ·rw[if_pos hk]
   by_cases h:g=k
   ·have hb:(g==k)=true:=beq_iff_eq.mpr h
    simp only[List.lookup,hb,if_pos (h.trans hk)]
   ·have hb:(g==k)=false:=beq_eq_false_iff_ne.mpr h
    simp only[List.lookup,hb,if_neg (fun e:g=f=>h (e.trans hk.symm))]
  ·rw[if_neg hk]
   by_cases h:g=k
   ·have hb:(g==k)=true:=beq_iff_eq.mpr h
    simp only[List.lookup,hb,if_neg (fun e:g=f=>hk (h.symm.trans e))]
   ·have hb:(g==k)=false:=beq_eq_false_iff_ne.mpr h
    simp only[List.lookup,hb]
    exact ih
theorem agB(f:Str)(v:V):∀fs:List (Str×V),f∈(aaP f v fs).map (·.1)/\∀g,g∈fs.map (·.1)->g∈(aaP f v fs).map (·.1)
 |[]=>⟨by simp[aaP],fun g h=>by simp at h⟩
 |(k,x)::r=>by
  obtain⟨i1,i2⟩:=agB f v r
  rw[show aaP f v ((k,x)::r)=(if k=f then (k,v)::r else (k,x)::aaP f v r) from rfl]
  by_cases hk:k=f
  ·rw[if_pos hk]
   subst hk
   exact⟨by simp,fun g h=>by simpa using h⟩
  ·rw[if_neg hk]
   refine⟨?_,fun g h=>?_⟩
   ·rw[List.map_cons]
    exact List.mem_cons_of_mem _ i1
   ·rw[List.map_cons] at h ⊢
    rcases List.mem_cons.mp h with e | e
    ·exact List.mem_cons.mpr (.inl e)
    ·exact List.mem_cons_of_mem _ (i2 g e)
theorem agK(f:Str)(v:V):∀fs:List (Str×V),(aaP f v fs).length<=fs.length+1
 |[]=>by simp[aaP]
 |(k,x)::r=>by
  have ih:=agK f v r
  rw[show aaP f v ((k,x)::r)=(if k=f then (k,v)::r else (k,x)::aaP f v r) from rfl]
  by_cases hk:k=f
  ·rw[if_pos hk,List.length_cons,List.length_cons];omega
  ·rw[if_neg hk,List.length_cons,List.length_cons];omega
theorem RelO.some_of{v:V}{o:Option Value}(r:RelO (some v) o):∃u,o=some u/\RelV v u:=by
 cases o with
 |none=>exact (show False from r).elim
 |some u=>exact⟨u,rfl,r⟩
theorem RelO.none_of{o:Option Value}(r:RelO none o):o=none:=by
 cases o with
 |none=>rfl
 |some u=>exact (show False from r).elim
theorem ao8{v:V}{u:Value}(r:RelV v u):PySem.W.handedIn u=true:=by
 cases v with
 |non=>cases (show u=Value.none from r);rfl
 |bl b=>cases (show u=Value.bool b from r);rfl
 |int i=>obtain⟨t,e⟩:=(show ∃t,u=Value.int i t from r);cases e;rfl
 |str x=>obtain⟨t,e⟩:=(show ∃t,u=Value.str x t from r);cases e;rfl
 |byt b=>obtain⟨t,e⟩:=(show ∃t,u=Value.bytes b t from r);cases e;rfl
 |flt b=>obtain⟨t,e⟩:=(show ∃t,u=Value.float b t from r);cases e;rfl
 |ref a=>cases (show u=Value.ref a from r);rfl
 |ty n=>cases (show u=Value.type n from r);rfl
section
variable{P:Program}{w:World}{H H':Hp}{h h':Heap}{a C dx:Addr}{fs fs':List (Str×V)}
theorem ahO(hok:HOk P w H h)(e:H a=some (.ins C dx fs)):∃mA,ObjM h a dx C mA/\(∀f,RelO (fs.lookup f) (mA f))/\PySem.Within mA (fs.map (·.1))/\fs.length<=1000/\H dx=some (.own a):=by
 obtain⟨d,z,ne,ob,mA,n,r,q⟩:=(show ObjOk P w H h a (.ins C dx fs) from hok a _ e)
 exact⟨mA,⟨ob,n,ne⟩,r,q,z,d⟩
end
structure Cls(K:PySem.W.Frag)(C:Addr):Prop where
 pg:PySem.W.plainGet K C Str.empty=true
 hd:PySem.W.hasDictIn K C=true
 po:PySem.W.plainOver K C=true
 sa:PySem.W.findIn K (.ref C) "__setattr__"=some (some (.builtin "object.__setattr__"))
theorem Cls.get{K:PySem.W.Frag}{C:Addr}(c:Cls K C)(f:Str):PySem.W.plainGet K C f=true:=c.pg
def NoAttr(K:PySem.W.Frag)(C:Addr)(f:Str):Prop:=PySem.W.findIn K (.ref C) f=some none
theorem NoAttr.taker{K:PySem.W.Frag}{C:Addr}{f:Str}(n:NoAttr K C f):PySem.W.takerIn K C f=some none:=by
 unfold PySem.W.takerIn
 rw[show PySem.W.findIn K (.ref C) f=some none from n]
 rfl
structure Meth(K:PySem.W.Frag)(C:Addr)(m:Str)(f:Addr):Prop where
 at_:PySem.W.findIn K (.ref C) m=some (some (.ref f))
 fn:PySem.W.isFn K (.ref f)=true
 kp:PySem.W.keepIn K (.ref f)=true
section
variable{X:Cx}{pins:List (Addr×Obj)}{σ:St}{H:Hp}{s:Shared}{a C dx:Addr}{fs:List (Str×V)}{f:Str}{v:V}{A:Around}{E:Value->Shared->Prop}
theorem am5{b:Bool}{Q:Value->Shared->Prop}(I:Inv X pins σ H s)(e:H a=some (.ins C dx fs))(c:Cls X.K C)(n:NoAttr X.K C f)(l:fs.lookup f=some v)
  (h:∀u s',Inv X pins σ H s'->RelV v u->Q u s'):wpAny (model X.prog X.w) A (getAttr (.ref a) f b) Q E s:=by
 obtain⟨mA,O,r,_,_,_⟩:=ahO I.hok e
 obtain⟨u,hu,ru⟩:=RelO.some_of (v:=v) (o:=mA f) (by rw[←l];exact r f)
 exact aAC I.kIn O (c.get f) c.hd n hu (ao8 ru) (h u _ (I.tok _) ru)
theorem amT{m:Str}{g:Addr}{pl:Sem Bool}{Q:Value×List Value->Shared->Prop}(I:Inv X pins σ H s)(e:H a=some (.ins C dx fs))(c:Cls X.K C)(k:Meth X.K C m g)(l:fs.lookup m=none)
  (h:Q (.ref g,[.ref a]) s):wpAny (model X.prog X.w) A (getMethod (.ref a) m pl) Q E s:=by
 obtain⟨mA,O,r,_,_,_⟩:=ahO I.hok e
 have hn:mA m=none:=RelO.none_of (by rw[←l];exact r m)
 exact awF I.kIn O (c.get m) k.at_ k.fn hn h
theorem am8{y:V}{u:Value}{Q:Unit->Shared->Prop}(I:Inv X pins σ H s)(e:H a=some (.ins C dx fs))(c:Cls X.K C)(n:NoAttr X.K C f)(hl:fs.length<1000)(ry:RelV y u)
  (h:∀s',Inv X pins σ (upd H a (.ins C dx (aaP f y fs))) s'->Q () s'):wpAny (model X.prog X.w) A (setAttr (.ref a) f u) Q E s:=by
 obtain⟨mA,O,r,wi,_,ho⟩:=ahO I.hok e
 have hz:(fs.map (·.1)).length<=sizeLine:=by rw[List.length_map,sizeLine_eq];omega
 refine az1 I.kIn O c.sa c.po n.taker c.hd wi hz fun h' O' sb=>h _ ?_
 have hd:∃o,h'.get? dx=some o:=let ⟨o,_,_,e',_⟩:=O'.ns;⟨o,e'⟩
 refine I.write (x:=a) (e:=dx) (by rw[e];exact True.intro) (.inr ho) (fun b q hb z=>(sb.2 b hb).trans z) hd ?_
 refine⟨by rw[aaE O.ne];exact ho,?_,O.ne,O'.obj,_,O'.ns,fun g=>?_,fun g hg=>?_⟩
 ·have:=agK f y fs;omega
 ·show RelO ((aaP f y fs).lookup g) (if g=f then some u else mA g)
  rw[aaM]
  by_cases q:g=f
  ·rw[if_pos q,if_pos q];exact ry
  ·rw[if_neg q,if_neg q];exact r g
 ·by_cases q:g=f
  ·rw[q];exact (agB f y fs).1
  ·refine (agB f y fs).2 g (wi g fun z=>hg ?_)
   show (if g=f then some u else mA g)=none
   rw[if_neg q];exact z
theorem Inv.made(I:Inv X pins σ H s):Inv X pins σ (upd (upd H s.heap.objs.size (.own (s.heap.objs.size+1))) (s.heap.objs.size+1) (.ins C s.heap.objs.size []))
  {s with heap:=(s.heap.push PySem.W.emptyDict).push (PySem.W.instObj C s.heap.objs.size)}:=by
 have e1:(s.heap.push PySem.W.emptyDict).get? s.heap.objs.size=some PySem.W.emptyDict:=Heap.get?_push_size s.heap rfl
 have e2:((s.heap.push PySem.W.emptyDict).push (PySem.W.instObj C s.heap.objs.size)).get? (s.heap.objs.size+1)=some (PySem.W.instObj C s.heap.objs.size):=by
  have:=Heap.get?_push_size (s.heap.push PySem.W.emptyDict) (o:=PySem.W.instObj C s.heap.objs.size) rfl
  rwa [Heap.size_push] at this
 have e3:(s.heap.push PySem.W.emptyDict).Ns s.heap.objs.size (fun _=>none):=⟨PySem.W.emptyDict,#[],_,e1,rfl,(fun e he=>absurd he (by simp)),fun _=>rfl⟩
 have I1:=I.laid (a:=s.heap.objs.size) (o:=.own (s.heap.objs.size+1)) (h':=s.heap.push PySem.W.emptyDict) (t':=s.toks) (fun b u q=>Heap.get?_push_of_some _ q) (Nat.le_refl _) ⟨_,e1⟩
 refine I1.laid (a:=s.heap.objs.size+1) (o:=.ins C s.heap.objs.size []) (t':=s.toks) (fun b u q=>Heap.get?_push_of_some _ q) (Nat.le_of_eq (Heap.size_push _ _)) ?_
 have ne:s.heap.objs.size≠s.heap.objs.size+1:=Nat.ne_of_lt (Nat.lt_succ_self _)
 refine⟨by rw[aaE ne,aaA],Nat.zero_le _,ne,e2,fun _=>none,(Heap.Ns1.of_empty e3).at fun o q=>Heap.get?_push_of_some _ q,fun _=>True.intro,fun y hy=>absurd rfl hy⟩
theorem aB3{prog:Program}{w:World}{env:Env}{e:Expr}{f:Str}{pos:Pos}{s:Shared}{Q:Value->Shared->Prop}(hb:attributeBase e f env (eval e env)=eval e env)
  (h:wpAny (model prog w) A (eval e env) (fun o s₁=>wpAny (model prog w) A (getAttr o f true) Q E s₁) E s):wpAny (model prog w) A (eval (.Attribute e f pos) env) Q E s:=
 Attribute_any_ h (by rw[arm_eval_Attribute,hb])
end
def aNP(K:PySem.W.Frag)(ta:TE)(f:Str):TE:=fun σ H Q=>ta σ H fun x H1=>∃a C dx fs v,x=.ref a/\H1 a=some (.ins C dx fs)/\Cls K C/\NoAttr K C f/\fs.lookup f=some v/\Q v H1
def aNI(K:PySem.W.Frag)(ta tv:TE)(f:Str):TS:=fun D σ H=>tv σ H fun y H1=>ta σ H1 fun x H2=>∃a C dx fs,x=.ref a/\H2 a=some (.ins C dx fs)/\Cls K C/\NoAttr K C f/\fs.length<1000/\
 D.nx σ (upd H2 a (.ins C dx (aaP f y fs)))
section
variable{X:Cx}{o e value:Expr}{f:Str}{pos pos' tpos:Pos}{ta tv:TE}
theorem aHB(he:PE X e ta)(hb:attributeBase e f X.env (eval e X.env)=eval e X.env):PE X (.Attribute e f pos) (aNP X.K ta f):=by
 intro pins s σ H Q I h
 refine aB3 hb (thn (he pins s σ H _ I h) fun u s1 ⟨x,H1,I1,rx,a,C,dx,fs,v,ex,ea,c,n,l,q⟩=>?_)
 subst ex
 obtain rfl:u=Value.ref a:=rx
 exact am5 I1 ea c n l fun u' s2 I2 ru=>⟨v,H1,I2,ru,q⟩
theorem aJZ(ha:PE X o ta)(hv:PE X value tv)(hs:swapsWith value (some (.Attribute o f pos')) pos.line X.env=pure false):PS X (.Assign [.Attribute o f pos'] value pos) (aNI X.K ta tv f):=by
 intro pins s σ H D I h
 refine plainObj_wpAny_Assign_Attribute (thn (hv pins s σ H _ I h) fun u s1 ⟨y,H1,I1,ry,q⟩=>thn (ha pins s1 σ H1 _ I1 q) fun ov s2 ⟨x,H2,I2,rx,a,C,dx,fs,ex,ea,c,n,l,q2⟩=>?_) hs
 subst ex
 obtain rfl:ov=Value.ref a:=rx
 exact am8 I2 ea c n l ry fun s3 I3=>⟨σ,_,I3,q2⟩
end
section
variable{X:Cx}{pins:List (Addr×Obj)}{σ:St}{H:Hp}{s:Shared}{A:Around}{E:Value->Shared->Prop}{Q:Value->Shared->Prop}{c:Value}{b:Bool}
inductive TyOf (K:PySem.W.Frag) (H:Hp):V->Value->Prop where
 |non:TyOf K H .non (.type "NoneType")
 |bl (x:Bool):TyOf K H (.bl x) (.type "bool")
 |int (i:Int):TyOf K H (.int i) (.type "int")
 |str (x:Str):TyOf K H (.str x) (.type "str")
 |flt (x:UInt64):TyOf K H (.flt x) (.type "float")
 |lst {a:Addr} {xs:List V} (e:H a=some (.lst xs)):TyOf K H (.ref a) (.type "list")
 |frz {a:Addr} {o:Obj} {xs:List V} (e:H a=some (.frz o (.lst xs))):TyOf K H (.ref a) (.type "list")
 |tup {a:Addr} {xs:List V} (e:H a=some (.tup xs)):TyOf K H (.ref a) (.type "tuple")
 |dK {a:Addr} {kvs:List (Key×V)} (e:H a=some (.dK kvs)):TyOf K H (.ref a) (.type "dict")
 |dT {a:Addr} {kvs:List (List Key×V)} (e:H a=some (.dT kvs)):TyOf K H (.ref a) (.type "dict")
 |ins {a C dx:Addr} {fs:List (Str×V)} (e:H a=some (.ins C dx fs)) (cl:Cls K C) (ha:PySem.W.findIn K (.ref C) "__class__"=some (some (.builtin "object.__class__")))
   (hn:PySem.W.specialIn K (.builtin "object.__class__") "__get__"=some (some (.builtin "getset_descriptor.__get__"))) (htk:PySem.W.takesIn K (.builtin "object.__class__")=some true)
   (hm:PySem.W.mroIn K C (.type "object")=some true):TyOf K H (.ref a) (.ref C)
theorem aqK{x:V}{u t:Value}(I:Inv X pins σ H s)(rx:RelV x u)(ty:TyOf X.K H x t)(e:PySem.W.kitOne X.K t c=some b)(h:∀tk,Q (.bool b) {s with toks:=tk}):
  wpAny (model X.prog X.w) A (call (.builtin "isinstance") [u,c]) Q E s:=by
 cases ty with
 |non=>cases (show u=Value.none from rx);exact PySem.W.kia_one PySem.W.kitx_none I.kIn True.intro e (fun z=>nomatch z) h
 |bl y=>cases (show u=Value.bool y from rx);exact PySem.W.kia_one PySem.W.kitx_bool I.kIn True.intro e (fun z=>nomatch z) h
 |int i=>obtain⟨t,q⟩:=(show ∃t,u=Value.int i t from rx);cases q;exact PySem.W.kia_one PySem.W.kitx_int I.kIn True.intro e (fun z=>nomatch z) h
 |str y=>obtain⟨t,q⟩:=(show ∃t,u=Value.str y t from rx);cases q;exact PySem.W.kia_one PySem.W.kitx_str I.kIn True.intro e (fun z=>nomatch z) h
 |flt y=>obtain⟨t,q⟩:=(show ∃t,u=Value.float y t from rx);cases q;exact PySem.W.kia_one PySem.W.kitx_float I.kIn True.intro e (fun z=>nomatch z) h
 |@lst a xs ea=>
  cases (show u=Value.ref a from rx)
  obtain⟨_,_,n,_,h1⟩:=(show ObjOk X.prog X.w H s.heap a (.lst xs) from I.hok a _ ea)
  exact PySem.W.kia_one PySem.W.kitx_list I.kIn ⟨_,h1,rfl⟩ e (fun z=>nomatch z) h
 |@frz a ob xs ea=>
  cases (show u=Value.ref a from rx)
  obtain⟨_,_,_,n,_,h1⟩:=(show ObjOk X.prog X.w H s.heap a (.frz ob (.lst xs)) from I.hok a _ ea)
  exact PySem.W.kia_one PySem.W.kitx_list I.kIn ⟨_,h1,rfl⟩ e (fun z=>nomatch z) h
 |@tup a xs ea=>
  cases (show u=Value.ref a from rx)
  obtain⟨_,_,_,p⟩:=(show ObjOk X.prog X.w H s.heap a (.tup xs) from I.hok a _ ea)
  obtain⟨o,h1,h2,_⟩:=p
  exact PySem.W.kia_one PySem.W.kitx_tuple I.kIn ⟨o,h1,h2⟩ e (fun z=>nomatch z) h
 |@dK a kvs ea=>
  cases (show u=Value.ref a from rx)
  obtain⟨_,_,vs,_,p⟩:=(show ObjOk X.prog X.w H s.heap a (.dK kvs) from I.hok a _ ea)
  obtain⟨o,es,ep,h1,h2,_⟩:=p
  exact PySem.W.kia_one PySem.W.kitx_dict I.kIn ⟨o,h1,h2.1⟩ e (fun z=>nomatch z) h
 |@dT a kvs ea=>
  cases (show u=Value.ref a from rx)
  obtain⟨_,_,xs,_,o,es,ep,h1,h2,_⟩:=(show ObjOk X.prog X.w H s.heap a (.dT kvs) from I.hok a _ ea)
  exact PySem.W.kia_one PySem.W.kitx_dict I.kIn ⟨o,h1,h2.1⟩ e (fun z=>nomatch z) h
 |@ins a C dx fs ea cl ha hn htk hm=>
  cases (show u=Value.ref a from rx)
  obtain⟨mA,O,_⟩:=ahO I.hok ea
  obtain⟨od,J,_⟩:=O.look
  exact PySem.W.kia_one (PySem.W.kitx_own (cl.get _) cl.hd ha hn htk hm) I.kIn J e (fun z=>nomatch z) h
end
structure Room(k:Nat)(A:Around):Prop where
 hd:A.handled=none
 dp:A.depth+3*k+5<recursionLimit
 un:A.units+16*k+200<cLine
theorem Room.mono{j k:Nat}{A:Around}(r:Room k A)(h:j<=k):Room j A:=⟨r.hd,by have:=r.dp;omega,by have:=r.un;omega⟩
theorem Room.deeper{k:Nat}{A:Around}(r:Room (k+1) A)(env:Env):Room k (A.deeper env):=
 ⟨r.hd,by have:=r.dp;show A.depth+1+3*k+5<_;omega,by have:=r.un;show A.units+3+16*k+200<_;omega⟩
theorem am3{A:Around}{C:Addr}{us:List Value}{kw:List (Str×Value)}:(A.under (.builtin "type.__call__" ⟨.ref C::us,kw⟩)).depth=A.depth+1:=by
 first | rfl | simp[Around.under,Code.weight,Code.isCreation,Code.isGuard,Code.isCaller,Code.frames,Code.isFrame,guardIds]
theorem anF{A:Around}{C:Addr}{us:List Value}{kw:List (Str×Value)}:(A.under (.builtin "type.__call__" ⟨.ref C::us,kw⟩)).units=A.units+1:=by
 first | rfl | simp[Around.under,Code.cUnits,Code.frames,Code.isFrame]
theorem Room.make{k:Nat}{A:Around}(r:Room (k+1) A)(C:Addr)(us:List Value)(kw:List (Str×Value)):Room k (A.under (.builtin "type.__call__" ⟨.ref C::us,kw⟩)):=
 ⟨r.hd,by have:=r.dp;rw[am3];omega,by have:=r.un;rw[anF];omega⟩
theorem Room.depth{k:Nat}{A:Around}(r:Room k A):A.depth<recursionLimit:=by have:=r.dp;omega
theorem Room.units{k:Nat}{A:Around}(r:Room k A):A.units+64<cLine:=by have:=r.un;omega
def ae4:TA:=fun _ H Q=>Q [] H
def aiH(ta:TE)(tr:TA):TA:=fun σ H Q=>ta σ H fun x H1=>tr σ H1 fun xs H2=>Q (x::xs) H2
section
variable{X:Cx}{e:Expr}{es:List Expr}{te:TE}{t:TA}{pos:Pos}
theorem aeT:PA X [] ae4:=fun _ _ _ _ H Q I h=>Calls.spliced_nil ⟨[],H,I,.nil,h⟩
theorem acR(ha:PE X e te)(hr:PA X es t)(hs:starEach (e::es) X.env=(false,eval e X.env)::starEach es X.env:=by rfl):PA X (e::es) (aiH te t):=by
 intro pos pins s σ H Q I h
 rw[hs]
 show wpAny _ _ (spliced ((false,eval e X.env)::backTo pos (starEach es X.env))) _ _ s
 refine Calls.spliced_cons (thn (ha pins s σ H _ I h) fun u s1 ⟨x,H1,I1,r1,q1⟩=>?_)
 exact thn (hr pos pins s1 σ H1 _ I1 q1) fun us s2 ⟨xs,H2,I2,r2,q2⟩=>⟨x::xs,H2,I2,.cons r1 r2,q2⟩
def aOQ(t:TA):TE:=fun σ H Q=>t σ H fun xs H1=>xs.length<=sizeLine/\∀p,H1 p=none->Q (.ref p) (upd H1 p (.tup xs))
def aML(t:TA):TE:=fun σ H Q=>t σ H fun xs H1=>xs.length<=sizeLine/\∀p,H1 p=none->Q (.ref p) (upd H1 p (.lst xs))
theorem aGD{x1}(h:PA X es t):PE X (.Tuple es x1 pos) (aOQ t):=by
 intro pins s σ H Q I hq
 refine wpAny_Tuple_spliced (thn (h pos pins s σ H _ I hq) fun us s1 ⟨xs,H1,I1,r,z,q⟩=>⟨by rw[←r.length];exact z,?_⟩)
 have hf:H1 s1.heap.objs.size=none:=I1.hok.fresh (Nat.le_refl _)
 refine⟨.ref s1.heap.objs.size,upd H1 s1.heap.objs.size (.tup xs),I1.laid (t':=s1.toks) (fun b u e=>Heap.get?_push_of_some _ e) (Nat.le_refl _) ?_,rfl,q _ hf⟩
 exact⟨z,us,r,⟨_,Heap.get?_push_size _ rfl,rfl,_,rfl⟩⟩
theorem aKN(h:PA X es t):PE X (.List es pos) (aML t):=by
 intro pins s σ H Q I hq
 refine wpAny_List_spliced (thn (h pos pins s σ H _ I hq) fun us s1 ⟨xs,H1,I1,r,z,q⟩=>⟨by rw[←r.length];exact z,?_⟩)
 have hf:H1 s1.heap.objs.size=none:=I1.hok.fresh (Nat.le_refl _)
 refine⟨.ref s1.heap.objs.size,upd H1 s1.heap.objs.size (.lst xs),I1.laid (t':=s1.toks) (fun b u e=>Heap.get?_push_of_some _ e) (Nat.le_refl _) ?_,rfl,q _ hf⟩
 exact⟨z,us,0,r,Heap.get?_push_size _ rfl⟩
end
abbrev Sp:=List V->Hp->VK->XK->Prop
abbrev CXT:=List Env->Hp->Shared->XK->Value->Shared->Prop
structure Env0(P:Program)(w:World)(K:PySem.W.Frag)(mg:Str->Option Value)(base:Heap)(A:Around)(outer:List Env)(s:Shared)(H:Hp):Prop where
 frames:A.frames=some outer
 mod:Mod K mg base
 bs:∀b o,base.get? b=some o->s.heap.get? b=some o/\H b=none
 bsz:base.objs.size<=s.heap.objs.size
 funs:s.heap.FunFrames base outer
 frf:∀b∈frs outer,H b=none
 hok:HOk P w H s.heap
 bare:AllBare s.gens
def CE(outer:List Env)(P:Program)(w:World)(H:Hp)(s:Shared)(Q:VK)(u:Value)(s':Shared):Prop:=
 ∃v H',s'.os=s.os/\AllBare s'.gens/\Un (frs outer) [] H H' s.heap s'.heap/\HOk P w H' s'.heap/\RelV v u/\Q v H'
def CR(CX:CXT)(outer:List Env)(P:Program)(w:World)(H:Hp)(s:Shared)(Q:VK)(E:XK)(r:Result)(s':Shared):Prop:=
 match r with
 |.ok (.ret u)=>CE outer P w H s Q u s'
 |.ok _=>False
 |.error e=>CX outer H s E e s'
structure FnOk(P:Program)(w:World)(K:PySem.W.Frag)(mg:Str->Option Value)(base:Heap)(CX:CXT)(k:Nat)(f:Addr)(fd:FuncData)(ps:List Str)(sp:Sp):Prop where
 len:∀vs H Q E,sp vs H Q E->vs.length=ps.length
 run:∀(A:Around) (outer:List Env) (s:Shared) (H:Hp) (args:Args) (us:List Value) (vs:List V) (Q:VK) (E:XK),Room k A->Env0 P w K mg base A outer s H->BindsTo s fd args (ps.zip us)->Vals vs us->sp vs H Q E->
  codeAny (model P w) A (.call (.ref f) args) (CR CX outer P w H s Q E) s
theorem Env0.make{P:Program}{w:World}{K:PySem.W.Frag}{mg:Str->Option Value}{base:Heap}{A:Around}{outer:List Env}{s:Shared}{H:Hp}(e:Env0 P w K mg base A outer s H)(C:Addr)(us:List Value)(kw:List (Str×Value)):
  Env0 P w K mg base (A.under (.builtin "type.__call__" ⟨.ref C::us,kw⟩)) outer s H:=⟨by first | exact e.frames | (simpa [Around.under,Code.envs,Code.isFrame,pushEnvs] using e.frames),e.mod,e.bs,e.bsz,e.funs,e.frf,e.hok,e.bare⟩
section
variable{X:Cx}{pins:List (Addr×Obj)}{σ:St}{H:Hp}{s s':Shared}
theorem Inv.env0(I:Inv X pins σ H s):Env0 X.prog X.w X.K X.mg X.base X.A X.stack s H:=
 ⟨I.ok.frames,I.ok.mod,I.bs,Nat.le_trans I.ok.bsz I.sz,I.stack,I.stkFree,I.hok,I.bare⟩
theorem Inv.after{Q:VK}{u:Value}(I:Inv X pins σ H s)(h:CE X.stack X.prog X.w H s Q u s'):EP X pins σ Q u s':=by
 obtain⟨v,H',os,bare,un,hok,r,q⟩:=h
 obtain⟨hh,g,d,t,os'⟩:=s'
 obtain rfl:os'=s.os:=os
 exact⟨v,H',I.call (h':=hh) (g':=g) (d':=d) (t':=t) (ch:=[]) un hok bare (fun b z=>absurd z (by simp)),r,q⟩
end
def agN(sp:Sp)(dvs:List V)(E:XK)(t:TA):TE:=fun σ H Q=>t σ H fun vs H1=>sp (vs++dvs) H1 Q E
def au3(C:Addr)(m:Str)(sp:Sp)(dvs:List V)(E:XK)(ta:TE)(t:TA):TE:=fun σ H Q=>ta σ H fun x H1=>∃a dx fs,x=.ref a/\H1 a=some (.ins C dx fs)/\fs.lookup m=none/\
 t σ H1 fun vs H2=>sp (x::(vs++dvs)) H2 Q E
def ak6(C:Addr)(sp:Sp)(dvs:List V)(E:XK)(t:TA):TE:=fun σ H Q=>t σ H fun vs H1=>∀x dx,H1 x=none->H1 dx=none->dx≠x->
 sp (.ref x::(vs++dvs)) (upd (upd H1 dx (.own x)) x (.ins C dx [])) (fun v H2=>v=.non/\Q (.ref x) H2) E
def Binds(K:PySem.W.Frag)(fd:FuncData)(ps:List Str)(ds:List Value):Prop:=
 ∀(s:Shared) (us:List Value),K.In s.heap->(us++ds).length=ps.length->BindsTo s fd ⟨us,[]⟩ (ps.zip (us++ds))
theorem Binds.all{K:PySem.W.Frag}{fd:FuncData}{ps:List Str}(h:∀us:List Value,us.length=ps.length->bindArgs fd ⟨us,[]⟩=pure (ps.zip us)):Binds K fd ps []:=fun s us _ hl=>by
 rw[List.append_nil] at hl ⊢
 exact .of_eq (h us hl)
def abT(CX:CXT)(X:Cx)(E:XK):Prop:=∀(pins:List (Addr×Obj)) (σ:St) (H:Hp) (s:Shared) (e:Value) (s':Shared),Inv X pins σ H s->CX X.stack H s E e s'->X.xe e s'
section
variable{X:Cx}{CX:CXT}{k:Nat}{f C:Addr}{fd:FuncData}{ps:List Str}{sp:Sp}{dvs:List V}{ds:List Value}{E:XK}{x m:Str}{p pos apos:Pos}{e o:Expr}{es:List Expr}{ta:TE}{t:TA}
theorem akO{pins:List (Addr×Obj)}{σ:St}{H:Hp}{s:Shared}{Q:VK}{us:List Value}{vs:List V}(F:FnOk X.prog X.w X.K X.mg X.base CX k f fd ps sp)(hr:Room k X.A)(hb:Binds X.K fd ps ds)(hd:Vals dvs ds)(hx:abT CX X E)
  (I:Inv X pins σ H s) (r:Vals vs us) (h:sp (vs++dvs) H Q E):wpAny (model X.prog X.w) X.A (call (.ref f) us) (EP X pins σ Q) X.xe s:=by
 have r2:Vals (vs++dvs) (us++ds):=r.append hd
 have hl:(us++ds).length=ps.length:=by rw[←r2.length];exact F.len _ _ _ _ h
 refine wpAny_call (codeAny_mono (F.run X.A X.stack s H ⟨us,[]⟩ (us++ds) (vs++dvs) Q E hr I.env0 (hb s us I.kIn hl) r2 h) fun r s' hq=>?_)
 cases r with
 |error e=>exact hx pins σ H s e s' I hq
 |ok fl=>
  cases fl with
  |ret u=>exact I.after hq
  |next=>exact False.elim hq
  |brk=>exact False.elim hq
  |cont=>exact False.elim hq
theorem anJ(F:FnOk X.prog X.w X.K X.mg X.base CX k f fd ps sp)(hr:Room k X.A)(hg:Gl X x)(hm:X.mg x=some (.ref f))(hk:PySem.W.keepIn X.K (.ref f)=true)(hb:Binds X.K fd ps ds)(hd:Vals dvs ds)(hx:abT CX X E)
  (ha:PA X (e::es) t) (hdb:(x==("__debug__":Str))=false:=by decide) (he:starEach (e::es) X.env=(false,eval e X.env)::starEach es X.env:=by rfl) (hpl:(backTo pos (starEach es X.env)).any (·.1)=false:=by rfl):
  PE X (.Call (.Name x p) (e::es) [] pos) (agN sp dvs E t):=by
 intro pins s σ H Q I h
 refine wpAny_Call_Name_kw (abY I hg hm ?_ hdb)
 refine PySem.W.callWith_K (h₀:=X.base) I.ok.mod.kin hk (thn (ha pos pins s σ H _ I h) fun us s1 ⟨vs,H1,I1,r,q⟩=>⟨I1.kIn,?_⟩) he hpl
 exact akO F hr hb hd hx I1 r q
theorem avN(F:FnOk X.prog X.w X.K X.mg X.base CX k f fd ps sp)(hr:Room k X.A)(hg:Gl X x)(hm:X.mg x=some (.ref f))(hk:PySem.W.keepIn X.K (.ref f)=true)(hb:Binds X.K fd ps ds)(hd:Vals dvs ds)(hx:abT CX X E)
  (hdb:(x==("__debug__":Str))=false:=by decide):PE X (.Call (.Name x p) [] [] pos) (agN sp dvs E ae4):=by
 intro pins s σ H Q I h
 refine wpAny_Call_Name_kw (abY I hg hm ?_ hdb)
 exact PySem.W.callWith_K0 I.kIn hk (akO (us:=[]) F hr hb hd hx I .nil h)
theorem au1{pl:Sem Bool}(he:PE X o ta)(c:Cls X.K C)(hm:Meth X.K C m f)(F:FnOk X.prog X.w X.K X.mg X.base CX k f fd ps sp)(hr:Room k X.A)(hb:Binds X.K fd ps ds)(hd:Vals dvs ds)(hx:abT CX X E)
  (ht:eval (.Call (.Attribute o m apos) [] [] pos) X.env=(do
   let ov ←eval o X.env
   standAt apos.atName
   let (f,first) ←holding [ov] (getMethod ov m pl)
   callWith pos f first (backTo pos (starEach [] X.env)) (backToKw pos (keywordEach [] X.env))):=by rfl):
  PE X (.Call (.Attribute o m apos) [] [] pos) (au3 C m sp dvs E ta ae4):=by
 intro pins s σ H Q I h
 refine PySem.W.methodCall_KW (pl:=pl) (thn (he pins s σ H _ I h) fun u s1 ⟨x,H1,I1,rx,a,dx,fs,ex,ea,l,q⟩=>?_) ht
 subst ex
 obtain rfl:u=Value.ref a:=rx
 refine amT I1 ea c hm l ?_
 exact PySem.W.callWith_K0 (first:=[.ref a]) I1.kIn hm.kp (akO (us:=[.ref a]) (vs:=[.ref a]) F hr hb hd hx I1 (.cons rfl .nil) q)
structure Mk(K:PySem.W.Frag)(C f:Addr):Prop where
 makes:PySem.W.makesIn K C=true
 init:PySem.W.findIn K (.ref C) "__init__"=some (some (.ref f))
 fn:PySem.W.isFn K (.ref f)=true
 kp:PySem.W.keepIn K (.ref C)=true
theorem amE{pins:List (Addr×Obj)}{σ:St}{H:Hp}{s:Shared}{Q:VK}{us:List Value}{vs:List V}(M:Mk X.K C f)(F:FnOk X.prog X.w X.K X.mg X.base CX k f fd ps sp)(hr:Room (k+1) X.A)(hb:Binds X.K fd ps ds)(hd:Vals dvs ds)
  (hx:abT CX X E) (I:Inv X pins σ H s) (r:Vals vs us)
  (h:∀x dx,H x=none->H dx=none->dx≠x->sp (.ref x::(vs++dvs)) (upd (upd H dx (.own x)) x (.ins C dx [])) (fun v H2=>v=.non/\Q (.ref x) H2) E):
  wpAny (model X.prog X.w) X.A (call (.ref C) us) (EP X pins σ Q) X.xe s:=by
 have hq:=h (s.heap.objs.size+1) s.heap.objs.size (I.hok.fresh (Nat.le_succ _)) (I.hok.fresh (Nat.le_refl _)) (Nat.ne_of_lt (Nat.lt_succ_self _))
 have I2:=Inv.made (C:=C) I
 have r2:Vals (V.ref (s.heap.objs.size+1)::(vs++dvs)) (Value.ref (s.heap.objs.size+1)::(us++ds)):=.cons rfl (r.append hd)
 have hl:(Value.ref (s.heap.objs.size+1)::us++ds).length=ps.length:=by
  have e:=r2.length
  rw[F.len _ _ _ _ hq] at e
  exact e.symm
 refine wpAny_call (awG (f:=f) I.kIn M.makes M.init (beq_iff_eq.mp M.fn) (codeAny_mono (F.run _ X.stack _ _ ⟨Value.ref (s.heap.objs.size+1)::us,[]⟩ (Value.ref (s.heap.objs.size+1)::(us++ds)) _ _ E (hr.make C us [])
  (I2.env0.make C us []) (hb _ (Value.ref (s.heap.objs.size+1)::us) I2.kIn hl) r2 hq) fun r s' hq'=>?_))
 cases r with
 |error e=>exact hx pins σ _ _ e s' I2 hq'
 |ok fl=>
  cases fl with
  |ret u=>
   obtain⟨v,H',I3,rv,ev,q3⟩:=I2.after hq'
   subst ev
   exact⟨rv,⟨V.ref (s.heap.objs.size+1),H',I3,rfl,q3⟩⟩
  |next=>exact False.elim hq'
  |brk=>exact False.elim hq'
  |cont=>exact False.elim hq'
theorem anP(M:Mk X.K C f)(F:FnOk X.prog X.w X.K X.mg X.base CX k f fd ps sp)(hr:Room (k+1) X.A)(hg:Gl X x)(hm:X.mg x=some (.ref C))(hb:Binds X.K fd ps ds)(hd:Vals dvs ds)(hx:abT CX X E)
  (ha:PA X (e::es) t) (hdb:(x==("__debug__":Str))=false:=by decide) (he:starEach (e::es) X.env=(false,eval e X.env)::starEach es X.env:=by rfl) (hpl:(backTo pos (starEach es X.env)).any (·.1)=false:=by rfl):
  PE X (.Call (.Name x p) (e::es) [] pos) (ak6 C sp dvs E t):=by
 intro pins s σ H Q I h
 refine wpAny_Call_Name_kw (abY I hg hm ?_ hdb)
 refine PySem.W.callWith_K (h₀:=X.base) I.ok.mod.kin M.kp (thn (ha pos pins s σ H _ I h) fun us s1 ⟨vs,H1,I1,r,q⟩=>⟨I1.kIn,?_⟩) he hpl
 exact amE M F hr hb hd hx I1 r q
theorem ayM(M:Mk X.K C f)(F:FnOk X.prog X.w X.K X.mg X.base CX k f fd ps sp)(hr:Room (k+1) X.A)(hg:Gl X x)(hm:X.mg x=some (.ref C))(hb:Binds X.K fd ps ds)(hd:Vals dvs ds)(hx:abT CX X E)
  (hdb:(x==("__debug__":Str))=false:=by decide):PE X (.Call (.Name x p) [] [] pos) (ak6 C sp dvs E ae4):=by
 intro pins s σ H Q I h
 refine wpAny_Call_Name_kw (abY I hg hm ?_ hdb)
 exact PySem.W.callWith_K0 I.kIn M.kp (amE (us:=[]) M F hr hb hd hx I .nil h)
end
section
variable{X:Cx}{CX:CXT}{k:Nat}{f C:Addr}{fd:FuncData}{ps ks:List Str}{sp:Sp}{E:XK}{x m:Str}{p pos apos kpos:Pos}{e o:Expr}{es:List Expr}{kws:List Keyword}{te ta:TE}{t tk:TA}{nm:Option Str}
variable{g:List Value->List Value->List Value}{gV:List V->List V->List V}
end
structure FnScope(N P:List Str)(sc:Scope):Prop where
 kind:sc.kind=.function
 co:sc.isCoroutine=false
 gen:sc.isGenerator=false
 nd:N.Nodup
 pre:N.take P.length=P
 par:∀x∈P,sc.names.lookup x=some .local∨sc.names.lookup x=some .cell
 nofree:∀y∈sc.names,y.2≠ .free
theorem ajM{kindOf:Str->Option NameKind}{x:Str}:∀{binds:List (Str×Value)} {m:Str->Option Value},(∀v,(x,v)∉binds)->bindL kindOf binds m x=m x
 |[],_,_=>rfl
 |(n,v)::r,m,h=>by
  unfold bindL
  rw[ajM fun w hw=>h w (List.mem_cons_of_mem _ hw)]
  split
  ·have:x≠n:=by rintro rfl;exact h v List.mem_cons_self
   simp[this]
  ·rfl
theorem ajQ{kindOf:Str->Option NameKind}{x:Str}:∀{binds:List (Str×Value)} {m:Str->Option Value},(∀v,(x,v)∉binds)->bindC kindOf binds m x=m x
 |[],_,_=>rfl
 |(n,v)::r,m,h=>by
  unfold bindC
  rw[ajQ fun w hw=>h w (List.mem_cons_of_mem _ hw)]
  split
  ·rfl
  ·have:x≠n:=by rintro rfl;exact h v List.mem_cons_self
   simp[this]
theorem ajR{kindOf:Str->Option NameKind}{x:Str}{v:Value}:∀{P:List Str} {vs:List Value} {i:Nat} {m:Str->Option Value},P.Nodup->P[i]? =some x->vs[i]? =some v->kindOf x=some .local->
  bindL kindOf (P.zip vs) m x=some v
 |[],_,_,_,_,h,_,_=>by simp at h
 |_::_,[],_,_,_,_,h,_=>by simp at h
 |p::P,w::vs,0,m,nd,h1,h2,hk=>by
  simp at h1 h2;subst h1;subst h2
  show bindL kindOf ((p,w)::P.zip vs) m p=_
  unfold bindL
  rw[ajM fun v hv=>(List.nodup_cons.mp nd).1 (List.of_mem_zip hv).1,if_pos hk]
  simp
 |p::P,w::vs,i+1,m,nd,h1,h2,hk=>by
  show bindL kindOf ((p,w)::P.zip vs) m x=_
  unfold bindL
  exact ajR (i:=i) (List.nodup_cons.mp nd).2 (by simpa using h1) (by simpa using h2) hk
theorem ajI{kindOf:Str->Option NameKind}{x:Str}{v:Value}:∀{P:List Str} {vs:List Value} {i:Nat} {m:Str->Option Value},P.Nodup->P[i]? =some x->vs[i]? =some v->kindOf x≠some .local->
  bindC kindOf (P.zip vs) m x=some v
 |[],_,_,_,_,h,_,_=>by simp at h
 |_::_,[],_,_,_,_,h,_=>by simp at h
 |p::P,w::vs,0,m,nd,h1,h2,hk=>by
  simp at h1 h2;subst h1;subst h2
  show bindC kindOf ((p,w)::P.zip vs) m p=_
  unfold bindC
  rw[ajQ fun v hv=>(List.nodup_cons.mp nd).1 (List.of_mem_zip hv).1,if_neg hk]
  simp
 |p::P,w::vs,i+1,m,nd,h1,h2,hk=>by
  show bindC kindOf ((p,w)::P.zip vs) m x=_
  unfold bindC
  exact ajI (i:=i) (List.nodup_cons.mp nd).2 (by simpa using h1) (by simpa using h2) hk
def start(N:List Str)(vs:List V):St:=vs.map some++List.replicate (N.length-vs.length) none
def acG(CX:CXT)(P:Program)(w:World)(K:PySem.W.Frag)(mg:Str->Option Value)(base:Heap)(N:List Str)(qual:Str)(scope:Scope)(f:Addr)(cd:Value)(A:Around)(outer:List Env)(s:Shared)(H:Hp)(E:XK):Cx where
 prog:=P
 w:=w
 K:=K
 mg:=mg
 base:=base
 A:=A.deeper (envOfC qual scope s.heap.objs.size f cd)
 N:=N
 s₀:=s
 H₀:=H
 env:=envOfC qual scope s.heap.objs.size f cd
 outer:=outer
 stack:=envOfC qual scope s.heap.objs.size f cd::outer
 ex:=[]
 calm:=true
 fn:=fun _=>true
 pn:=[]
 xe:=fun e s'=>wpAny (model P w) (A.deeper (envOfC qual scope s.heap.objs.size f cd)) (leaving (envOfC qual scope s.heap.objs.size f cd) e) (fun _ s''=>CX outer H s E e s'') (fun e' s''=>CX outer H s E e' s'') s'
theorem amD{sc:Scope}{n:Nat}{x:Str}(h:sc.names.lookup x=some .cell):∃c,(cellsFrom n sc.names []).lookup x=some c:=by
 have q:=PySem.W.cellsFrom_some sc.names n [] (.inl h)
 exact Option.isSome_iff_exists.mp q
theorem ao9{CX:CXT}{P:Program}{w:World}{K:PySem.W.Frag}{mg:Str->Option Value}{base:Heap}{N ps:List Str}{qual:Str}{scope:Scope}{f:Addr}{cd:Value}{A:Around}{outer:List Env}{s s1:Shared}{H:Hp}{E:XK}{us:List Value}{vs:List V}
  (S:FnScope N ps scope) (hd:A.handled=none) (e0:Env0 P w K mg base A outer s H) (hl:vs.length=ps.length) (r:Vals vs us)
  (x:InCallC s s.heap.objs.size (bindL (envOfC qual scope s.heap.objs.size f cd).kindOf (ps.zip us) fun _=>none) (cellsFrom (s.heap.objs.size+1) scope.names []) (bindC (envOfC qual scope s.heap.objs.size f cd).kindOf (ps.zip us) fun _=>none) s1):
  Inv (acG CX P w K mg base N qual scope f cd A outer s H E) [] (start N vs) H s1:=by
 have hpl:ps.length<=N.length:=by have:=congrArg List.length S.pre;rw[List.length_take] at this;omega
 obtain⟨h1,tk,rfl,hk⟩:=x.done
 have noA:∀b:Addr,b∉(acG CX P w K mg base N qual scope f cd A outer s H E).ex:=fun b z=>absurd (show b∈([]:List Addr) from z) (by simp)
 refine⟨⟨e0.mod,S.kind,rfl,rfl,Nat.le_refl _,fun y z c h1 h2=>?_,fun y hy=>?_,fun y c _ h=>?_,fun _=>hd,Around.frames_deeper e0.frames,.inr ⟨rfl,rfl⟩,fun b z=>absurd z (noA b),e0.bs,e0.bsz,fun b _ _=>noA b,fun b z=>absurd z (noA b),e0.funs,e0.frf⟩,
  rfl,e0.bare,Un.kept hk,⟨_,x.toInCall.ns,fun i y v h1 h2 h3=>?_⟩,fun y c h=>⟨_,x.cell y c h⟩,e0.hok.fresh (Nat.le_refl _),fun y c h=>?_,fun p hp=>absurd (show p∈([]:List (Addr×Obj)) from hp) (by simp),e0.hok.kept hk,?_⟩
 ·exact name_of_addr x.apart (PySem.mem_of_lookup h1) (PySem.mem_of_lookup h2)
 ·have hy:scope.names.lookup y=some .cell∨scope.names.lookup y=some .free:=hy
  rcases hy with hy | hy
  ·exact amD hy
  ·exact absurd rfl (S.nofree _ (PySem.mem_of_lookup hy))
 ·exact Nat.le_of_lt (x.above y c (PySem.mem_of_lookup h))
 ·have hi:i<vs.length:=by
   unfold start at h2
   by_cases hi:i<vs.length
   ·exact hi
   ·rw[List.getElem?_append_right (by simpa using hi)] at h2
    rw[List.getElem?_replicate] at h2
    split at h2<;>cases h2
  have ha:vs[i]? =some v:=by
   unfold start at h2
   rw[List.getElem?_append_left (by simpa using hi),List.getElem?_map] at h2
   cases e:vs[i]? with
   |none=>rw[e] at h2;cases h2
   |some a=>rw[e] at h2;cases h2;rfl
  obtain⟨u,hu,rv⟩:=r.get ha
  have hp:ps[i]? =some y:=by
   rw[←S.pre,List.getElem?_take_of_lt (by omega)];exact h1
  have ndP:ps.Nodup:=by rw[←S.pre];exact S.nd.sublist (List.take_sublist _ _)
  refine⟨u,rv,?_⟩
  rcases S.par y (List.mem_of_getElem? hp) with k | k
  ·exact .inl ⟨k,ajR ndP hp hu k⟩
  ·obtain⟨c,e⟩:=amD (n:=s.heap.objs.size+1) k
   refine .inr ⟨.inl k,c,e,?_⟩
   have q:=x.cell y c e
   rw[ajI ndP hp hu (by show scope.names.lookup y≠_;rw[k];decide)] at q
   exact q
 ·exact e0.hok.fresh (Nat.le_of_lt (x.above y c (PySem.mem_of_lookup h)))
 ·unfold start
  show _=N.length
  rw[List.length_append,List.length_map,List.length_replicate]
  omega
theorem anL{CX:CXT}{P:Program}{w:World}{K:PySem.W.Frag}{mg:Str->Option Value}{base:Heap}{k:Nat}{f:Addr}{name qual:Str}{params:Arguments}{body:List Stmt}{scope:Scope}{dV kV doc pm cdv ct oc:Value}{an od:Option Addr}
  {osl:Array (Option Value)} {N ps:List Str} {sp:Sp} (lk:K.lookup f=some ⟨oc,od,.func (PySem.W.fnOf name qual params body scope dV kV doc pm an cdv ct),osl⟩) (hcd:PySem.W.codeIn K cdv qual=true) (S:FnScope N ps scope)
  (len:∀vs H Q E,sp vs H Q E->vs.length=ps.length)
  (hbody:∀(A:Around) (outer:List Env) (s:Shared) (H:Hp) (vs:List V) (Q:VK) (E:XK),Room k (A.deeper (envOfC qual scope s.heap.objs.size f cdv))->sp vs H Q E->
   ∃t,PSs (acG CX P w K mg base N qual scope f cdv A outer s H E) body t/\t {nx:=fun _ H'=>Q .non H',rt:=Q} (start N vs) H):
  FnOk P w K mg base CX (k+1) f (PySem.W.fnOf name qual params body scope dV kV doc pm an cdv ct) ps sp:=by
 refine⟨len,fun A outer s H args us vs Q E hr e0 hb r hsp=>?_⟩
 have hl:=len _ _ _ _ hsp
 have KX:K.In s.heap:=e0.mod.kin.keeps fun b o e=>(e0.bs b o e).1
 have lim:s.heap.NoLimit:=e0.mod.nolimit.keeps fun b o e=>(e0.bs b o e).1
 have hkind:∀y∈ps.zip us,scope.names.lookup y.1=some .local∨(scope.names.lookup y.1=some .cell/\((cellsFrom (s.heap.objs.size+1) scope.names []).lookup y.1).isSome=true):=fun ⟨n,v⟩ hy=>by
  rcases S.par n (List.of_mem_zip hy).1 with q | q
  ·exact .inl q
  ·exact .inr ⟨q,PySem.W.cellsFrom_some _ _ _ (.inl q)⟩
 refine codeAny_call_function hr.depth (KX _ _ lk) rfl S.co S.gen rfl (PySem.W.codeRec_of KX hcd) (hb _ _ _ _ ?_)
 refine wpAny_newFunctionEnv_cells S.kind hkind fun env he s1 x=>?_
 subst he
 refine⟨lim.keeps x.toInCall.keep,codeAny_func ?_⟩
 obtain⟨t,ht,hq⟩:=hbody A outer s H vs Q E (hr.deeper _) hsp
 have I:Inv (acG CX P w K mg base N qual scope f cdv A outer s H E) [] (start N vs) H s1:=ao9 S hr.hd e0 hl r x
 refine wpAny_mono (ht [] s1 (start N vs) H _ I hq) (fun fl s' hs=>?_) fun e s' hs=>hs
 have fin:∀{σ':St} {H':Hp} {v:V} {u:Value},Inv (acG CX P w K mg base N qual scope f cdv A outer s H E) [] σ' H' s'->RelV v u->Q v H'->CE outer P w H s Q u s':=
  fun {σ' H' v u} J rv q=>⟨v,H',J.os,J.bare,J.base,J.hok,rv,q⟩
 cases fl with
 |ret u=>
  obtain⟨v,σ',H',J,rv,q⟩:=hs
  exact fin J rv q
 |next=>
  obtain⟨σ',H',J,q⟩:=hs
  exact fin (v:=V.non) (u:=Value.none) J rfl q
 |brk=>
  obtain⟨_,_,_,q⟩:=hs
  exact False.elim q
 |cont=>
  obtain⟨_,_,_,q⟩:=hs
  exact False.elim q
section
variable{X:Cx}{x:Str}{p pos:Pos}{e:Expr}{es:List Expr}{t:TA}{id T:String}{r:List V->Hp->VK->Prop}
def tCB(r:List V->Hp->VK->Prop)(t:TA):TE:=fun σ H Q=>t σ H fun vs H1=>r vs H1 Q
theorem ayL(hc:adW X (.builtin id) r)(hg:Gl X x)(hm:X.mg x=none)(hv:bootBuiltins x=some (.builtin id))(ha:PA X (e::es) t)(hn:x≠"__name__":=by decide)(hdb:(x==("__debug__":Str))=false:=by decide)
  (he:starEach (e::es) X.env=(false,eval e X.env)::starEach es X.env:=by rfl) (hpl:(backTo pos (starEach es X.env)).any (·.1)=false:=by rfl):PE X (.Call (.Name x p) (e::es) [] pos) (tCB r t):=by
 intro pins s σ H Q I h
 refine wpAny_Call_Name_kw (af0 I hg hm hv ?_ hn hdb)
 exact PyProof.Rows.callWith_builtin1 (thn (ha pos pins s σ H _ I h) fun us s1 ⟨vs,H1,I1,r1,q1⟩=>hc pins s1 σ H1 vs us Q I1 r1 q1) he hpl
theorem as1(hc:adW X (.type T) r)(hg:Gl X x)(hm:X.mg x=none)(hv:bootBuiltins x=some (.type T))(ha:PA X (e::es) t)(hn:x≠"__name__":=by decide)(hdb:(x==("__debug__":Str))=false:=by decide)
  (he:starEach (e::es) X.env=(false,eval e X.env)::starEach es X.env:=by rfl) (hpl:(backTo pos (starEach es X.env)).any (·.1)=false:=by rfl):PE X (.Call (.Name x p) (e::es) [] pos) (tCB r t):=by
 intro pins s σ H Q I h
 refine wpAny_Call_Name_kw (af0 I hg hm hv ?_ hn hdb)
 exact PyProof.Rows.callWith_type1 (thn (ha pos pins s σ H _ I h) fun us s1 ⟨vs,H1,I1,r1,q1⟩=>hc pins s1 σ H1 vs us Q I1 r1 q1) he hpl
end
end L2
namespace HT
open PySem PyProof.Rows
section
open PySem.SeqAt
open PySem.AutoSeq1 (wpAny_loadPart')
open PySem.MeetsSeq PySem.MeetsSeq2 PySem.MeetsSeq3
end
section
variable{prog:Program}{w:World}{A:Around}{E:Value->Shared->Prop}{s:Shared}
def sIx(n d:Nat):Option Int->Nat
 |none=>d
 |some v=>if v<0 then (v+(n:Int)).toNat else min v.toNat n
theorem sIx_le(n d:Nat)(hd:d<=n)(o:Option Int):sIx n d o<=n:=by
 cases o with
 |none=>exact hd
 |some v=>
  show (if v<0 then (v+(n:Int)).toNat else min v.toNat n)<=n
  by_cases hv:v<0
  ·rw[if_pos hv];omega
  ·rw[if_neg hv];exact Nat.min_le_right _ _
end
end HT
namespace L2
open PySem PySem.Spec PyProof.Rows
abbrev TO:=St->Hp->(Option Int->Hp->Prop)->Prop
def PO(X:Cx)(e:Option Expr)(t:TO):Prop:=
 ∀(pins:List (Addr×Obj)) (s:Shared) (σ:St) (H:Hp) (Q:Option Int->Hp->Prop),Inv X pins σ H s->t σ H Q->
  wpAny (model X.prog X.w) X.A (evalPart e X.env) (fun u s'=>∃o H',Inv X pins σ H' s'/\IsPart u o/\Q o H') X.xe s
def anZ:TO:=fun _ H Q=>Q none H
def aE5(t:TE):TO:=fun σ H Q=>t σ H fun x H1=>∃i,x=.int i/\Q (some i) H1
section
variable{X:Cx}{e:Expr}{te:TE}{lo hi:Option Expr}{tl th:TO}{pos p2:Pos}
theorem az6:PO X none anZ:=by
 intro pins s σ H Q I h
 rw[evalPart_none]
 exact wpAny_pure ⟨none,H,I,.none,h⟩
theorem aDP(h:PE X e te):PO X (some e) (aE5 te):=by
 intro pins s σ H Q I hw
 rw[evalPart_some]
 refine thn (h pins s σ H _ I hw) fun u s1 ⟨x,H1,I1,r1,q1⟩=>?_
 obtain⟨i,rfl,q⟩:=q1
 obtain⟨t,rfl⟩:=r1
 exact⟨some i,H1,I1,.int i t,q⟩
def SlR(X:Cx)(r:V->Option Int->Option Int->Hp->VK->Prop):Prop:=
 ∀(pins:List (Addr×Obj)) (s:Shared) (σ:St) (H:Hp) (x:V) (v vl vu:Value) (lo hi:Option Int) (sl:Addr) (Q:VK),Inv X pins σ H s->RelV x v->s.heap.IsSliceOf sl vl vu .none->IsPart vl lo->IsPart vu hi->r x lo hi H Q->
  ∃T id,typeLookup (.type T) "__getitem__"=pure (some (.builtin id))/\s.TypeIs v T/\wpAny (model X.prog X.w) X.A (getItem v (.ref sl)) (EP X pins σ Q) X.xe s
def tSl(r:V->Option Int->Option Int->Hp->VK->Prop)(te:TE)(tl th:TO):TE:=fun σ H Q=>te σ H fun x H1=>tl σ H1 fun l H2=>th σ H2 fun u H3=>r x l u H3 Q
theorem awI{r:V->Option Int->Option Int->Hp->VK->Prop}(hr:SlR X r)(he:PE X e te)(hl:PO X lo tl)(hu:PO X hi th):PE X (.Subscript e (.Slice lo hi none p2) pos) (tSl r te tl th):=by
 intro pins s σ H Q I h
 refine Subscript_ (thn (he pins s σ H _ I h) fun v s1 ⟨x,H1,I1,r1,q1⟩=>?_)
 refine wpAny_Slice (thn (hl pins s1 σ H1 _ I1 q1) fun vl s2 ⟨l,H2,I2,pl,q2⟩=>thn (hu pins s2 σ H2 _ I2 q2) fun vu s3 ⟨u,H3,I3,pu,q3⟩=>?_)
 rw[evalPart_none]
 refine wpAny_pure ?_
 have I4:Inv X pins σ H3 {s3 with heap:=s3.heap.push {cls:=.type "slice",data:=.fields #[vl,vu,.none]} }:=I3.kept (t':=s3.toks) fun b ob q=>Heap.get?_push_of_some _ q
 obtain⟨T,id,hT,ht,hg⟩:=hr pins {s3 with heap:=s3.heap.push {cls:=.type "slice",data:=.fields #[vl,vu,.none]} } σ H3 x v vl vu l u s3.heap.objs.size Q I4 r1 (Heap.IsSliceOf.new ..) pl pu q3
 show wpAny (model X.prog X.w) X.A (subscriptTail e (.Slice lo hi none p2) v (.ref s3.heap.objs.size)) (EP X pins σ Q) X.xe {s3 with heap:=s3.heap.push {cls:=.type "slice",data:=.fields #[vl,vu,.none]} }
 exact tail_any (ops:=[.ref s3.heap.objs.size,v]) ht hT hg (by with_unfolding_all rfl)
def ac1(xs:List V)(lo hi:Option Int):List V:=(xs.drop (HT.sIx xs.length 0 lo)).take (HT.sIx xs.length xs.length hi-HT.sIx xs.length 0 lo)
theorem abI(xs:List V)(lo hi:Option Int):(ac1 xs lo hi).length<=xs.length:=by
 unfold ac1
 rw[List.length_take,List.length_drop]
 omega
end
def ixN(n:Nat)(i:Int):Option Nat:=if 0<=i then (if i<n then some i.toNat else none) else if -(n:Int)<=i then some (i+n).toNat else none
def atI{α:Type}(xs:List α)(i:Int):Option α:=(ixN xs.length i).bind fun j=>xs[j]?
theorem aEP{n:Nat}{i:Int}{j:Nat}(h:ixN n i=some j):seqIndex? i n=some j/\j<n/\ -(n:Int)<=i/\i<n:=by
 unfold ixN at h
 by_cases h0:0<=i
 ·rw[if_pos h0] at h
  by_cases h1:i<n
  ·rw[if_pos h1] at h
   have e:i.toNat=j:=Option.some.inj h
   exact⟨by rw[seqIndex_of h0 h1,e],by omega,by omega,h1⟩
  ·rw[if_neg h1] at h;cases h
 ·rw[if_neg h0] at h
  by_cases h1: -(n:Int)<=i
  ·rw[if_pos h1] at h
   have e:(i+n).toNat=j:=Option.some.inj h
   exact⟨by rw[seqIndex_neg (by omega) h1,e],by omega,h1,by omega⟩
  ·rw[if_neg h1] at h;cases h
theorem ajY{α:Type}{xs:List α}{i:Int}{v:α}(h:atI xs i=some v):∃j,seqIndex? i xs.length=some j/\xs[j]? =some v/\j<xs.length/\ -(xs.length:Int)<=i/\i<xs.length:=by
 unfold atI at h
 cases e:ixN xs.length i with
 |none=>rw[e] at h;cases h
 |some j=>
  rw[e] at h
  obtain⟨h1,h2,h3,h4⟩:=aEP e
  exact⟨j,h1,h,h2,h3,h4⟩
theorem an9{α:Type}{xs:List α}{j:Nat}{v:α}(h:xs[j]? =some v):atI xs (j:Int)=some v:=by
 have hj:j<xs.length:=(List.getElem?_eq_some_iff.mp h).1
 have e:ixN xs.length (j:Int)=some j:=by
  unfold ixN
  rw[if_pos (by omega),if_pos (by omega)];simp
 unfold atI;rw[e];exact h
def anK(b:Expr):Prop:=∀o i,subscripted b false o i=operate [o,i] (getItem o i)
def IxR(X:Cx)(r:R2):Prop:=
 ∀(value slice:Expr) (pins:List (Addr×Obj)) (s:Shared) (σ:St) (H:Hp) (x y:V) (v u:Value) (Q:VK),Inv X pins σ H s->RelV x v->RelV y u->r x y H Q->
  subscripted slice false v u=operate [v,u] (getItem v u)->wpAny (model X.prog X.w) X.A (subscriptTail value slice v u) (EP X pins σ Q) X.xe s
def MtR(X:Cx)(id:String)(r:V->List V->Hp->VK->Prop):Prop:=
 ∀(pins:List (Addr×Obj)) (s:Shared) (σ:St) (H:Hp) (x:V) (xs:List V) (v:Value) (us:List Value) (Q:VK),Inv X pins σ H s->RelV x v->Vals xs us->r x xs H Q->
  wpAny (model X.prog X.w) X.A (call (.builtin id) (v::us)) (EP X pins σ Q) X.xe s
section
variable{X:Cx}{a b:Expr}{ta tb:TE}{pos:Pos}
theorem aNB{r:R2}(hr:IxR X r)(ha:PE X a ta)(hb:PE X b tb)(hs:anK b):PE X (.Subscript a b pos) (tOp r ta tb):=by
 intro pins s σ H Q I h
 exact Subscript_ (aGH ha hb I h fun v u s2 x y H2 I2 rx ry q=>hr a b pins s2 σ H2 x y v u Q I2 rx ry q (hs _ _))
def aNK(K:PySem.W.Frag):R2:=fun x y H Q=>∃p xs i v,x=.ref p/\y=.int i/\SqL K H p xs/\atI xs i=some v/\Q v H
def aMP(K:PySem.W.Frag):R2:=fun x y H Q=>∃p xs i v,x=.ref p/\y=.int i/\SqT K H p xs/\atI xs i=some v/\Q v H
def rIxS:R2:=fun x y H Q=>∃z i c,x=.str z/\y=.int i/\z.length<=sizeLine/\atI z.cps.toList i=some c/\Q (.str ⟨#[c]⟩) H
theorem aB5:IxR X (aNK X.K):=by
 intro value slice pins s σ H x y v u Q I rx ry h hs
 obtain⟨p,xs,i,z,rfl,rfl,hq,he,q⟩:=h
 cases rx
 obtain⟨t,rfl⟩:=ry
 obtain⟨its,r,pl,hz⟩:=I.list hq
 obtain⟨j,h1,h2,h3,h4,h5⟩:=ajY he
 obtain⟨w,ew,rw'⟩:=r.get h2
 have hl:=r.length
 have hn:=aiL
 have fin:EP X pins σ Q w s:=⟨z,H,I,rw',q⟩
 by_cases h0:0<=i
 ·have hj:i.toNat=j:=by
   rw[seqIndex_of h0 h5] at h1
   exact Option.some.inj h1
  exact item_listR pl.isList h0 (by omega) (by rw[hj];simpa using ew) fin hs
 ·have hj:(i+(its.toArray.size:Int)).toNat=j:=by
   rw[seqIndex_neg (by omega) h4] at h1
   rw[List.size_toArray,←hl]
   exact Option.some.inj h1
  exact subscriptTail_builtinR (x:=w) pl.isList.typeIs slot_list_getitem.lookup
   (wpAny_getItem_list_neg (Q:=fun r s'=>r=w/\EP X pins σ Q r s') pl.isList (by omega) (by rw[List.size_toArray]<;>omega) (by omega) (by rw[hj];simpa using ew) ⟨rfl,fin⟩) hs
theorem aF8:IxR X (aMP X.K):=by
 intro value slice pins s σ H x y v u Q I rx ry h hs
 obtain⟨p,xs,i,z,rfl,rfl,hq,he,q⟩:=h
 cases rx
 obtain⟨t,rfl⟩:=ry
 obtain⟨its,r,pl,hz⟩:=I.tuple hq
 obtain⟨j,h1,h2,h3,h4,h5⟩:=ajY he
 obtain⟨w,ew,rw'⟩:=r.get h2
 have hl:=r.length
 have hn:=aiL
 have fin:EP X pins σ Q w s:=⟨z,H,I,rw',q⟩
 exact subscriptTail_builtinR (x:=w) pl.typeIs slot_tuple_getitem.lookup
  (getItem_tuple (j:=j) (Q:=fun r s'=>r=w/\EP X pins σ Q r s') pl (by omega) (by omega) (by rw[List.size_toArray,←hl];exact h1) (by simpa using ew) ⟨rfl,fin⟩) hs
theorem aF5:IxR X rIxS:=by
 intro value slice pins s σ H x y v u Q I rx ry h hs
 obtain⟨z,i,c,rfl,rfl,hz,he,q⟩:=h
 obtain⟨t,rfl⟩:=rx
 obtain⟨t',rfl⟩:=ry
 obtain⟨j,h1,h2,h3,h4,h5⟩:=ajY he
 have hl:z.cps.toList.length=z.length:=by simp[Str.length]
 rw[hl] at h1 h4 h5
 have hn:=aiL
 exact tail_any (typeIs_str s z t) slot_str_getitem.lookup (getItem_str (c:=c) (by
  have e1:decide (i< -(2^63:Int))=false:=decide_eq_false (by omega)
  have e2:decide (i ≥ 2^63)=false:=decide_eq_false (by omega)
  rw[e1,e2,Bool.or_false]) (by rw[h1];simpa using h2) ⟨.str ⟨#[c]⟩,H,I.tok _,⟨_,rfl⟩,q⟩) hs
theorem Inv.lst{pins:List (Addr×Obj)}{σ:St}{H:Hp}{s:Shared}{p:Addr}{xs:List V}(I:Inv X pins σ H s)(h:H p=some (.lst xs)):
  ∃(its:List Value) (n:Nat),Vals xs its/\s.heap.get? p=some {cls:=.type "list",data:=.seq its.toArray n}/\xs.length<=sizeLine:=by
 obtain⟨z,its,n,r,e⟩:=I.hok p _ h
 exact⟨its,n,r,e,z⟩
theorem aj5(lo hi:Option Int)(n:Nat):(sliceBounds lo hi none n).1=((HT.sIx n 0 lo:Nat):Int)/\(sliceBounds lo hi none n).2.1=((HT.sIx n n hi:Nat):Int)/\(sliceBounds lo hi none n).2.2=1:=by
 refine⟨?_,?_,rfl⟩
 ·cases lo with
  |none=>simp[sliceBounds,HT.sIx]
  |some i=>
   simp only[sliceBounds,HT.sIx,Option.getD_none,show (1:Int)>0 by decide,if_true]
   by_cases h:i<0
   ·simp only[h,if_true]<;>omega
   ·simp only[h,if_false]<;>omega
 ·cases hi with
  |none=>simp[sliceBounds,HT.sIx]
  |some i=>
   simp only[sliceBounds,HT.sIx,Option.getD_none,show (1:Int)>0 by decide,if_true]
   by_cases h:i<0
   ·simp only[h,if_true]<;>omega
   ·simp only[h,if_false]<;>omega
theorem ai3(its:List Value)(lo hi:Option Int):slicePick its.toArray lo hi none=((its.drop (HT.sIx its.length 0 lo)).take (HT.sIx its.length its.length hi-HT.sIx its.length 0 lo)).toArray:=by
 obtain⟨h1,h2,h3⟩:=aj5 lo hi its.toArray.size
 unfold slicePick
 rw[h1,h2,h3]
 simp only[sliceRange_one,pick_run,List.size_toArray]<;>rfl
def aMC(K:PySem.W.Frag):V->Option Int->Option Int->Hp->VK->Prop:=fun x lo hi H Q=>∃a xs,x=.ref a/\SqL K H a xs/\∀p,H p=none->Q (.ref p) (upd H p (.lst (ac1 xs lo hi)))
theorem aDO:SlR X (aMC X.K):=by
 intro pins s σ H x v vl vu lo hi sl Q I rx hs pl pu h
 obtain⟨a,xs,rfl,hx,q⟩:=h
 cases rx
 obtain⟨its,r,ht,hz⟩:=I.list hx
 have hlen:=r.length
 refine⟨"list",_,slot_list_getitem.lookup,ht.isList.typeIs,?_⟩
 refine wpAny_getItem_list_slice ht.isList hs pl pu .none (by simp) ?_ (by rw[List.size_toArray]<;>omega)
 rw[ai3,←hlen]
 refine⟨.ref s.heap.objs.size,_,I.laid (t':=s.toks) (o:=.lst (ac1 xs lo hi)) (fun b ob q=>Heap.get?_push_of_some _ q) (Nat.le_refl _) ?_,rfl,q _ (I.hok.fresh (Nat.le_refl _))⟩
 exact⟨Nat.le_trans (abI xs lo hi) hz,_,0,(r.drop (HT.sIx xs.length 0 lo)).take (HT.sIx xs.length xs.length hi-HT.sIx xs.length 0 lo),Heap.get?_push_size _ rfl⟩
def aeB:V->Bool
 |.non=>true
 |.bl _=>true
 |.int _=>true
 |.str _=>true
 |_=>false
def eqV:V->V->Bool
 |.non,.non=>true
 |.bl a,.bl b=>a==b
 |.bl a,.int b=>(if a then 1 else 0)==b
 |.int a,.bl b=>a==(if b then 1 else 0)
 |.int a,.int b=>a==b
 |.str a,.str b=>a==b
 |_,_=>false
theorem aJ9{A:Around}{s:Shared}{y x:V}{u v:Value}(ry:RelV y u)(rx:RelV x v)(fy:aeB y=true)(fx:aeB x=true):SeqAt.EqAt A s u v (eqV y x):=by
 cases y with
 |non=>
  cases ry
  cases x with
  |non=>cases rx;exact SeqAt.EqAt.same _
  |bl b=>cases rx;exact SeqAt.EqAt.none_bool b
  |int b=>obtain⟨t,rfl⟩:=rx;exact SeqAt.EqAt.none_int b t
  |str b=>obtain⟨t,rfl⟩:=rx;exact SeqAt.EqAt.none_str b t
  |_=>exact absurd (show false=true from fx) Bool.false_ne_true
 |bl a=>
  cases ry
  cases x with
  |non=>cases rx;exact SeqAt.EqAt.bool_none a
  |bl b=>cases rx;exact SeqAt.EqAt.bool_bool a b
  |int b=>obtain⟨t,rfl⟩:=rx;exact SeqAt.EqAt.bool_int a b t
  |str b=>obtain⟨t,rfl⟩:=rx;exact SeqAt.EqAt.bool_str a b t
  |_=>exact absurd (show false=true from fx) Bool.false_ne_true
 |int a=>
  obtain⟨t',rfl⟩:=ry
  cases x with
  |non=>cases rx;exact SeqAt.EqAt.int_none a t'
  |bl b=>cases rx;exact SeqAt.EqAt.int_bool a t' b
  |int b=>obtain⟨t,rfl⟩:=rx;exact SeqAt.EqAt.int_int a t' b t
  |str b=>obtain⟨t,rfl⟩:=rx;exact SeqAt.EqAt.int_str a t' b t
  |_=>exact absurd (show false=true from fx) Bool.false_ne_true
 |str a=>
  obtain⟨t',rfl⟩:=ry
  cases x with
  |non=>cases rx;exact SeqAt.EqAt.str_none a t'
  |bl b=>cases rx;exact SeqAt.EqAt.str_bool a t' b
  |int b=>obtain⟨t,rfl⟩:=rx;exact SeqAt.EqAt.str_int a t' b t
  |str b=>obtain⟨t,rfl⟩:=rx;exact SeqAt.EqAt.str_str a t' b t
  |_=>exact absurd (show false=true from fx) Bool.false_ne_true
 |_=>exact absurd (show false=true from fy) Bool.false_ne_true
def eqU(x:V)(u:Value):Bool:=match u with
 |.none=>eqV .non x
 |.bool b=>eqV (.bl b) x
 |.int i _=>eqV (.int i) x
 |.str z _=>eqV (.str z) x
 |_=>false
theorem atK{x y:V}{u:Value}(r:RelV y u)(f:aeB y=true):eqU x u=eqV y x:=by
 cases y with
 |non=>cases r;rfl
 |bl b=>cases r;rfl
 |int i=>obtain⟨t,rfl⟩:=r;rfl
 |str z=>obtain⟨t,rfl⟩:=r;rfl
 |_=>exact absurd (show false=true from f) Bool.false_ne_true
theorem akJ{x:V}:∀{xs:List V} {us:List Value},Vals xs us->xs.all aeB=true->us.any (eqU x)=xs.any fun y=>eqV y x
 |_,_,.nil,_=>rfl
 |y::xs,u::us,.cons r t,f=>by
  rw[List.all_cons,Bool.and_eq_true] at f
  rw[List.any_cons,List.any_cons,atK r f.1,akJ t f.2]
theorem ah0{A:Around}{s:Shared}{x:V}{v:Value}(rx:RelV x v)(fx:aeB x=true):∀{xs:List V} {us:List Value},Vals xs us->xs.all aeB=true->∀u∈us,SeqAt.EqAt A s u v (eqU x u)
 |_,_,.nil,_=>fun u hu=>by cases hu
 |y::xs,u::us,.cons r t,f=>fun u' hu=>by
  rw[List.all_cons,Bool.and_eq_true] at f
  rcases List.mem_cons.mp hu with rfl | hu
  ·rw[atK r f.1];exact aJ9 r rx f.1 fx
  ·exact ah0 rx fx t f.2 u' hu
def inV(x:V)(xs:List V):Bool:=xs.any fun y=>eqV y x
def rIn(K:PySem.W.Frag)(neg:Bool):R2:=fun x y H Q=>∃p xs,y=.ref p/\(SqL K H p xs∨SqT K H p xs)/\aeB x=true/\xs.all aeB=true/\Q (.bl (if neg then !inV x xs else inV x xs)) H
theorem arH:OpR X (compareOp .In) (rIn X.K false):=by
 intro pins s σ H x y v u Q I rx ry h
 obtain⟨p,xs,rfl,hq,fx,fs,q⟩:=h
 cases ry
 rcases hq with hq | hq
 ·obtain⟨its,r,pl,hz⟩:=I.list hq
  refine SeqAt.in_listAt (eqU x) pl.isList (fun w hw=>ah0 rx fx r fs w (by simpa using hw)) ⟨.bl _,H,I,rfl,?_⟩
  rw[show its.toArray.any (eqU x)=its.any (eqU x) by simp,akJ r fs]
  exact q
 ·obtain⟨its,r,pl,hz⟩:=I.tuple hq
  refine SeqAt.in_tupleAt (eqU x) pl (fun w hw=>ah0 rx fx r fs w (by simpa using hw)) ⟨.bl _,H,I,rfl,?_⟩
  rw[show its.toArray.any (eqU x)=its.any (eqU x) by simp,akJ r fs]
  exact q
theorem aj0:adW X (.builtin "len") (fun xs H Q=>∃p ys,xs=[.ref p]/\(SqL X.K H p ys∨SqT X.K H p ys)/\Q (.int ys.length) H):=by
 intro pins s σ H xs us Q I r h
 obtain⟨p,ys,rfl,hq,q⟩:=h
 obtain⟨u,rfl,rx⟩:=ab8 r
 cases rx
 have hn:=aiL
 rcases hq with hq | hq
 ·obtain⟨its,r',pl,hz⟩:=I.list hq
  have hlen:=r'.length
  exact Calls.call_len_list pl.isList (by simp only[List.size_toArray]<;>omega) ⟨.int ys.length,H,I.tok _,⟨s.toks+1,by rw[List.size_toArray,hlen]⟩,q⟩
 ·obtain⟨its,r',pl,hz⟩:=I.tuple hq
  have hlen:=r'.length
  exact len_tuple pl (by simp only[List.size_toArray]<;>omega) ⟨.int ys.length,H,I.tok _,⟨s.toks+1,by rw[List.size_toArray,hlen]⟩,q⟩
theorem ajZ:adW X (.builtin "len") (fun xs H Q=>∃z,xs=[.str z]/\z.length<=sizeLine/\Q (.int z.length) H):=by
 intro pins s σ H xs us Q I r h
 obtain⟨z,rfl,hz,q⟩:=h
 obtain⟨u,rfl,t,rfl⟩:=ab8 r
 have hn:=aiL
 exact len_str (by omega) ⟨.int z.length,H,I.tok _,⟨_,rfl⟩,q⟩
theorem akD:adW X (.type "list") (fun xs H Q=>∃p ys,xs=[.ref p]/\(SqL X.K H p ys∨SqT X.K H p ys)/\∀l,H l=none->Q (.ref l) (upd H l (.lst ys))):=by
 intro pins s σ H xs us Q I r h
 obtain⟨p,ys,rfl,hq,q⟩:=h
 obtain⟨u,rfl,rx⟩:=ab8 r
 cases rx
 have fin:∀(its:List Value),Vals ys its->ys.length<=sizeLine->∀(h':Heap) (c':Nat),(∀b o',s.heap.get? b=some o'->h'.get? b=some o')->
   h'.get? s.heap.objs.size=some {cls:=.type "list",dict:=none,data:=.seq its.toArray c',slots:= #[]}->EP X pins σ Q (.ref s.heap.objs.size) {s with heap:=h'}:=fun its r' hz h' c' kp e=>
  ⟨.ref s.heap.objs.size,_,I.laid (t':=s.toks) kp (Nat.le_refl _) (show ObjOk X.prog X.w _ h' _ (.lst ys) from ⟨hz,its,c',r',e⟩),rfl,q _ (I.hok.fresh (Nat.le_refl _))⟩
 rcases hq with hq | hq
 ·obtain⟨its,r',pl,hz⟩:=I.list hq
  have hlen:=r'.length
  obtain⟨o,ho,hc,n,hd⟩:=pl.isList
  exact call_list_seq p (.inl rfl) ho hc hd (fun h' c' kp e=>fin its r' hz h' c' kp e) (by simp only[List.size_toArray]<;>omega)
 ·obtain⟨its,r',pl,hz⟩:=I.tuple hq
  have hlen:=r'.length
  obtain⟨o,ho,hc,n,hd⟩:=pl
  exact call_list_seq p (.inr rfl) ho hc hd (fun h' c' kp e=>fin its r' hz h' c' kp e) (by simp only[List.size_toArray]<;>omega)
theorem ai6:adW X (.type "tuple") (fun xs H Q=>∃p ys,xs=[.ref p]/\((SqL X.K H p ys/\∀l,H l=none->Q (.ref l) (upd H l (.tup ys)))∨(SqT X.K H p ys/\Q (.ref p) H))):=by
 intro pins s σ H xs us Q I r h
 obtain⟨p,ys,rfl,h⟩:=h
 obtain⟨u,rfl,rx⟩:=ab8 r
 cases rx
 rcases h with ⟨hq,q⟩ | ⟨hq,q⟩
 ·obtain⟨its,r',pl,hz⟩:=I.list hq
  have hlen:=r'.length
  refine call_tuple_list pl.isList (fun h' kp=>?_) (by simp only[List.size_toArray]<;>omega)
  have I1:Inv X pins σ H {s with heap:=h'}:=I.kept (t':=s.toks) kp
  have I2:Inv X pins σ (upd H h'.objs.size (.tup ys)) {s with heap:=h'.push {cls:=.type "tuple",data:=.seq its.toArray} }:=
   I1.laid (t':=s.toks) (fun b o e=>Heap.get?_push_of_some _ e) (Nat.le_refl _) (show ObjOk X.prog X.w _ _ _ (.tup ys) from ⟨hz,its,r',IsTup.new _ _⟩)
  exact⟨.ref h'.objs.size,_,I2,rfl,q _ (I1.hok.fresh (Nat.le_refl _))⟩
 ·obtain⟨its,r',pl,hz⟩:=I.tuple hq
  exact call_tuple_same pl ⟨.ref p,H,I,rfl,q⟩
def tyV(K:PySem.W.Frag)(T:String)(x:V)(H:Hp):Prop:=match x with
 |.str _=>T="str"
 |.int _=>T="int"
 |.ref p=>(T="list"/\∃xs,SqL K H p xs)∨(T="tuple"/\∃o,K.lookup p=some o/\o.cls=.type "tuple"/\o.dict=none)∨
   (T="dict"/\((∃kvs,H p=some (.dK kvs))∨∃kvs,H p=some (.dT kvs)))∨(T="set"/\∃S n,H p=some (.set S n))
 |_=>False
theorem ax0{pins:List (Addr×Obj)}{σ:St}{H:Hp}{s:Shared}{T:String}{x:V}{v:Value}(I:Inv X pins σ H s)(r:RelV x v)(ty:tyV X.K T x H):
  s.TypeIs v T/\∀a,v=.ref a->∃ob,s.heap.get? a=some ob/\ob.dict=none:=by
 cases x with
 |str z=>
  obtain⟨t,rfl⟩:=r
  cases (show T="str" from ty)
  exact⟨typeIs_str s z t,fun _ e=>nomatch e⟩
 |int i=>
  obtain⟨t,rfl⟩:=r
  cases (show T="int" from ty)
  exact⟨typeIs_int s i t,fun _ e=>nomatch e⟩
 |ref p=>
  cases r
  rcases ty with ⟨rfl,xs,hq⟩ | ⟨rfl,o,hk,hc,hd⟩ | ⟨rfl,hk⟩ | ⟨rfl,S,n,hk⟩
  ·obtain⟨its,_,pl,_⟩:=I.list hq
   refine⟨pl.isList.typeIs,fun a e=>?_⟩
   cases e
   obtain⟨o,n,e,c,hd,_⟩:=pl
   exact⟨o,e,hd⟩
  ·refine⟨⟨o,I.kIn p o hk,hc⟩,fun a e=>?_⟩
   cases e
   exact⟨o,I.kIn _ o hk,hd⟩
  ·have z:∃o,s.heap.get? p=some o/\o.ExactDict:=by
    rcases hk with ⟨kvs,hk⟩ | ⟨kvs,hk⟩
    ·obtain⟨_,_,_,_,o,_,_,e,ex,_⟩:=I.hok p _ hk
     exact⟨o,e,ex⟩
    ·obtain⟨_,_,_,_,o,_,_,e,ex,_⟩:=I.hok p _ hk
     exact⟨o,e,ex⟩
   obtain⟨o,e,ex⟩:=z
   refine⟨⟨o,e,ex.1⟩,fun a e2=>?_⟩
   cases e2
   exact⟨o,e,ex.2.1⟩
  ·obtain⟨o,_,_,_,e,ex,_⟩:=I.hok p _ hk
   refine⟨⟨o,e,ex.1⟩,fun a e2=>?_⟩
   cases e2
   exact⟨o,e,ex.2.1⟩
 |_=>exact False.elim ty
def aMM(K:PySem.W.Frag)(T:String)(r:V->List V->Hp->VK->Prop)(to:TE):TE:=fun σ H Q=>to σ H fun x H1=>tyV K T x H1/\r x [] H1 Q
def tBM(K:PySem.W.Frag)(T:String)(r:V->List V->Hp->VK->Prop)(to:TE)(t:TA):TE:=fun σ H Q=>to σ H fun x H1=>tyV K T x H1/\t σ H1 fun xs H2=>r x xs H2 Q
variable{o e:Expr}{es:List Expr}{to:TE}{t:TA}{name:Str}{apos cpos:Pos}{T id:String}{r:V->List V->Hp->VK->Prop}
theorem aHT(pa:PlainAttrs T)(slot:Slot T name id)(hty:typeOf (.builtin id)=pure (.type "method_descriptor"))(hm:MtR X id r)(ho:PE X o to)
  (hbase:attributeBase o name X.env (eval o X.env)=eval o X.env:=by rfl) (hline:(apos.endLine==cpos.line)=true:=by rfl):PE X (.Call (.Attribute o name apos) [] [] cpos) (aMM X.K T r to):=by
 intro pins s σ H Q I h
 refine wpAny_Call_method0_late hbase hline (thn (ho pins s σ H _ I h) fun v s1 ⟨x,H1,I1,r1,ty,q1⟩=>?_)
 obtain⟨h1,h2⟩:=ax0 I1 r1 ty
 exact⟨T,id,pa,slot,hty,h1,h2,Calls.callWith_builtin rfl (PySem.evalArgs_none (hm pins s1 σ H1 x [] v [] Q I1 r1 .nil q1))⟩
theorem an2(pa:PlainAttrs T)(slot:Slot T name id)(hty:typeOf (.builtin id)=pure (.type "method_descriptor"))(hm:MtR X id r)(ho:PE X o to)(ha:PA X (e::es) t)
  (hbase:attributeBase o name X.env (eval o X.env)=eval o X.env:=by rfl)
  (hfew:((backTo cpos (starEach (e::es) X.env)).all (fun x=> !x.1)&&(backToKw cpos (keywordEach [] X.env)).all (fun x=>x.1.isSome)
   &&decide ((e::es).length+([]:List Keyword).length+(if ([]:List Keyword).isEmpty then 0 else 1)<30))=true:=by rfl)
  (hline:(apos.endLine==cpos.line)=true:=by rfl) (hs:starEach (e::es) X.env=(false,eval e X.env)::starEach es X.env:=by rfl) (hplain:(backTo cpos (starEach es X.env)).any (·.1)=false:=by rfl):
  PE X (.Call (.Attribute o name apos) (e::es) [] cpos) (tBM X.K T r to t):=by
 intro pins s σ H Q I h
 refine wpAny_Call_method_late hbase hfew hline rfl (thn (ho pins s σ H _ I h) fun v s1 ⟨x,H1,I1,r1,ty,q1⟩=>?_)
 obtain⟨h1,h2⟩:=ax0 I1 r1 ty
 refine⟨T,id,pa,slot,hty,h1,h2,?_⟩
 have hA:=ha cpos pins s1 σ H1 _ I1 q1
 rw[hs] at hA ⊢
 refine Calls.callWith_builtin (by show (false||(backTo cpos (starEach es X.env)).any (·.1))=false;rw[hplain]<;>rfl) (Calls.evalArgs_plain ?_)
 exact thn hA fun us s2 ⟨vs,H2,I2,r2,q2⟩=>hm pins s2 σ H2 x vs v us Q I2 r1 r2 q2
/- xs.append(e),list.index on a module's tuple .. are MtR facts of 06m -/
end
def MtM(X:Cx)(id:String)(r:V->List V->Hp->VK->Prop):Prop:=
 ∀(pins:List (Addr×Obj)) (s:Shared) (σ:St) (H:Hp) (x:V) (xs:List V) (v:Value) (us:List Value) (Q:VK),Inv X pins σ H s->RelV x v->Vals xs us->r x xs H Q->
  wpAny (model X.prog X.w) X.A (call (.builtin id) (v::us)) (EP X pins σ Q) X.xe s
theorem Vals.one:∀{x:V} {us:List Value},Vals [x] us->∃u,us=[u]/\RelV x u
 |_,_,.cons r .nil=>⟨_,rfl,r⟩
theorem Vals.two:∀{x y:V} {us:List Value},Vals [x,y] us->∃u v,us=[u,v]/\RelV x u/\RelV y v
 |_,_,_,.cons r (.cons q .nil)=>⟨_,_,rfl,r,q⟩
theorem Vals.rep{xs:List V}{us:List Value}(h:Vals xs us):∀k:Nat,Vals (List.replicate k xs).flatten (List.replicate k us).flatten
 |0=>.nil
 |k+1=>by
  rw[List.replicate_succ,List.replicate_succ,List.flatten_cons,List.flatten_cons]
  exact Vals.append h (Vals.rep h k)
theorem ajS(its:List Value):∀(k:Nat) (acc:List Value),
  List.foldl (fun x1 x2=>x1++x2) acc.toArray (List.replicate k its.toArray)=(acc++(List.replicate k its).flatten).toArray
 |0,acc=>by simp
 |k+1,acc=>by
  have e:acc.toArray++its.toArray=(acc++its).toArray:=by simp
  have e2:(acc++its)++(List.replicate k its).flatten=acc++(List.replicate (k+1) its).flatten:=by
   rw[List.replicate_succ,List.flatten_cons,List.append_assoc]
  rw[←e2,←ajS its k (acc++its),←e,List.replicate_succ,List.foldl_cons]
section
variable{X:Cx}{pins:List (Addr×Obj)}{σ:St}{H:Hp}{s:Shared}{l b:Addr}{xs ys zs:List V}
theorem Inv.lset{its its':List Value}{n:Nat}{f:Array Value->Array Value}{t':Nat}(I:Inv X pins σ H s)(hH:H l=some (.lst xs))
  (e:s.heap.get? l=some {cls:=.type "list",data:=.seq its.toArray n}) (hf:f its.toArray=its'.toArray) (hv:Vals ys its') (hz:ys.length<=sizeLine):
  Inv X pins σ (upd H l (.lst ys)) {s with heap:=s.heap.update l (Obj.mapSeq f),toks:=t'}:=by
 have q:=PySem.IsL.update e f
 rw[hf] at q
 refine I.write (x:=l) (e:=l) (by rw[hH];exact trivial) (.inl rfl) (fun b' u hb hu=>(Heap.get?_update_other s.heap (Obj.mapSeq f) (Ne.symm hb)).trans hu) ⟨_,q⟩ ?_
 exact⟨hz,its',_,hv,q⟩
theorem Inv.lnew{its:List Value}{t':Nat}(I:Inv X pins σ H s)(hv:Vals ys its)(hz:ys.length<=sizeLine):
  Inv X pins σ (upd H s.heap.objs.size (.lst ys)) {s with heap:=s.heap.push {cls:=.type "list",data:=.seq its.toArray},toks:=t'}:=
 I.laid (fun _ _ q=>Heap.get?_push_of_some _ q) (Nat.le_refl _) ⟨hz,its,0,hv,Heap.get?_push_size _ rfl⟩
theorem Inv.fresh(I:Inv X pins σ H s):H s.heap.objs.size=none:=I.hok.fresh (Nat.le_refl _)
theorem Inv.lstM(I:Inv X pins σ H s)(hH:H l=some (.lst xs)):xs.length<=sizeLine/\∃(its:List Value) (n:Nat),Vals xs its/\xs.length=its.length/\s.heap.get? l=some {cls:=.type "list",data:=.seq its.toArray n}:=by
 obtain⟨z,its,n,r,e⟩:=I.hok l _ hH
 exact⟨z,its,n,r,r.length,e⟩
theorem ax4{n:Nat}(h:n<=sizeLine):Builtin.List.listTooLong n=false:=by
 unfold Builtin.List.listTooLong
 exact decide_eq_false (by omega)
end
section
variable{X:Cx}
def aoC:V->List V->Hp->VK->Prop:=fun x vs H Q=>∃l xs y,x=.ref l/\vs=[y]/\H l=some (.lst xs)/\xs.length<sizeLine/\Q .non (upd H l (.lst (xs++[y])))
theorem afY:MtM X "list.append" aoC:=by
 intro pins s σ H x vs v us Q I rx rv h
 obtain⟨l,xs,y,rfl,rfl,hH,hz,q⟩:=h
 cases rx
 obtain⟨u,rfl,ru⟩:=rv.one
 obtain⟨z,its,n,r,hl,e⟩:=I.lstM hH
 refine call_meets F.slot_list_append ⟨_,e,rfl⟩ F.entry_list_append (F.args_list_append_2 _ _) (PySem.list_append l its.toArray n u (by rw[List.size_toArray];omega)) ⟨e,?_⟩
 refine⟨.non,_,I.lset (its':=its++[u]) hH e (by simp) (r.append (.cons ru .nil)) ?_,rfl,q⟩
 rw[List.length_append,List.length_singleton]
 omega
def aMI:R2:=fun x y H Q=>∃l b xs zs,x=.ref l/\y=.ref b/\H l=some (.lst xs)/\H b=some (.lst zs)/\xs.length+zs.length<=sizeLine/\∀p,H p=none->Q (.ref p) (upd H p (.lst (xs++zs)))
theorem aFM:OpR X (binaryOp .Add) aMI:=by
 intro pins s σ H x y v u Q I rx ry h
 obtain⟨l,b,xs,zs,rfl,rfl,hH,hB,hz,q⟩:=h
 cases rx
 cases ry
 obtain⟨z,its,n,r,hl,e⟩:=I.lstM hH
 obtain⟨z2,its2,n2,r2,hl2,e2⟩:=I.lstM hB
 refine PySem.P.add_list e e2 ?_ (by rw[List.size_toArray,List.size_toArray];omega)
 have ea:its.toArray++its2.toArray=(its++its2).toArray:=by simp
 rw[ea]
 exact⟨.ref _,_,I.lnew (t':=s.toks) (r.append r2) (by rw[List.length_append];omega),rfl,q _ I.fresh⟩
def aM5:R2:=fun x y H Q=>∃l k xs,x=.ref l/\y=.int k/\H l=some (.lst xs)/\ -(2^63)<=k/\k<2^63/\xs.length*k.toNat<=sizeLine/\
 ∀p,H p=none->Q (.ref p) (upd H p (.lst (List.replicate k.toNat xs).flatten))
theorem acS{α:Type}(xs:List α)(k:Nat):(List.replicate k xs).flatten.length=k*xs.length:=by
 induction k with
 |zero=>simp
 |succ k ih=>rw[List.replicate_succ,List.flatten_cons,List.length_append,ih,Nat.succ_mul,Nat.add_comm]
theorem aJB:OpR X (binaryOp .Mult) aM5:=by
 intro pins s σ H x y v u Q I rx ry h
 obtain⟨l,k,xs,rfl,rfl,hH,h1,h2,hz,q⟩:=h
 cases rx
 obtain⟨t,rfl⟩:=ry
 obtain⟨z,its,n,r,hl,e⟩:=I.lstM hH
 have hlen:its.toArray.size*k.toNat<=sizeLine:=by rw[List.size_toArray,←hl];exact hz
 have hcap:¬its.toArray.size*k.toNat>(2^63-1) / 8:=by
  have:(sizeLine:Nat)<=(2^63-1) / 8:=by decide
  omega
 have hfit:¬(!Builtin.List.listFitsIndex k)=true:=by
  rw[fitsIndex_both h1 h2]
  exact Bool.false_ne_true
 have hlong:¬Builtin.List.listTooLong (its.toArray.size*k.toNat)=true:=by
  rw[ax4 hlen]
  exact Bool.false_ne_true
 have hnew:List.foldl (fun x1 x2=>x1++x2) #[] (List.replicate (if its.toArray.isEmpty=true then 0 else k.toNat) its.toArray)=(List.replicate k.toNat its).flatten.toArray:=by
  have f0:∀m:Nat,List.foldl (fun x1 x2=>x1++x2) #[] (List.replicate m its.toArray)=(List.replicate m its).flatten.toArray:=fun m=>by
   have:=ajS its m []
   rw[List.nil_append] at this
   exact this
  rw[f0]
  cases its with
  |nil=>simp
  |cons a r'=>rw[if_neg (by simp)]
 refine wpAny_binaryOp_repeat_ref (T:="list") (U:="int") (by decide) ⟨_,e,rfl⟩ (fun s'=>typeIs_int s' k t) noFill_list_mul F.fills_int_mul F.slot_int_rmul repeat_list F.slot_int_index.lookup
  (call_meets F.slot_int_rmul (typeIs_int s k t) F.entry_int_rmul (F.args_int_rmul_2 _ _) (int___rmul___int_list k t l its.toArray n)
   ⟨e,rfl,⟨_,e,rfl⟩,call_meets F.slot_list_mul ⟨_,e,rfl⟩ F.entry_list_mul (F.args_list_mul_2 _ _) (AutoListH.list___mul___list_int_3 l its.toArray n k t hfit hcap hlong) ⟨e,?_⟩⟩)
 rw[hnew]
 exact⟨.ref _,_,I.lnew (t':=s.toks) (r.rep k.toNat) (by rw[acS,Nat.mul_comm];exact hz),rfl,q _ I.fresh⟩
end
section
variable{prog:Program}{w:World}{A:Around}{E:Value->Shared->Prop}{s:Shared}
end
section
variable{X:Cx}
end
end L2
namespace Att
open PySem PySem.W PySem.Calls PyProof.Rows
theorem ag2{P:Params}{h:Heap}:∀(ns:List Int) (vs:List Value),WellAll P h vs (ns.map WData.int)->IntsAre vs ns:=by
 intro ns
 induction ns with
 |nil=>
  intro vs w
  rw[List.map_nil] at w
  cases w
  exact .nil
 |cons n ns ih=>
  intro vs w
  rw[List.map_cons] at w
  cases w with
  |cons a b=>
   cases a
   exact .cons _ _ (ih _ b)
theorem aqE{l:OpenLaw}{n:Nat}(hn:l.most=some n){P:Params}{h:Heap}{args:List WData}{vals:List Value}
  (hpre:l.row.toRowW.claim.pre args=true) (hwl:WellAll P h vals args):
  ∃a vs ns,vals=[Value.ref a]/\args=[WData.list (ns.map WData.int)]/\h.get? a=some {cls:=.type "list",data:=.seq vs.toArray}/\IntsAre vs ns/\ns.length<=n:=by
 have hsh:WShape.hasAll [] args [.list .int]=true:=(pre_splitW hpre).1
 have hc:l.pre.holds [] {args:=args}=true:=(pre_splitW hpre).2
 obtain⟨d,r,rfl,h1,h2⟩:=hasAllW_cons hsh
 obtain rfl:=hasAllW_nil h2
 obtain⟨xs,rfl,h3⟩:=hasW_list h1
 obtain⟨ns,rfl⟩:=items_int h3
 have hlen:ns.length<=n:=by
  unfold OpenLaw.pre at hc
  have h4:(WTm.not (.lt (.lit (.int (n:Int))) (.len (.arg 0)))).holds [] {args:=[.list (ns.map .int)]}=true:=by
   have h4:=(holds_andW hc).1
   rw[hn] at h4
   exact h4
  have h5:=condW_of h4 (w_not (w_lt w_lit (w_len_list (w_arg rfl))))
  rw[List.length_map] at h5
  refine Nat.le_of_not_lt fun q=>?_
  have q':(n:Int)<((ns.length:Nat):Int):=by omega
  first
   |(rw[decide_eq_true q'] at h5;exact absurd h5 (by decide))
   |(simp at h5;omega)
 cases hwl with
 |cons w1 w2=>
  cases w2
  cases w1 with
  |list ho hall=>exact⟨_,_,ns,rfl,rfl,ho,ag2 ns _ hall,hlen⟩
theorem aq7(l:OpenLaw)(args:List WData):l.row.toRowW.claim.post args (.bool true) args=true:=
 postW_of (r:=l.row.toRowW) (X:=(true==true))
  (show WShape.has [] (.bool true) .bool=true by first | rfl | decide | simp[WShape.has,WShape.arms,WShape.armsAll])
  (show (WTm.eq .res (.lit (.bool true))).value [] {args:=args,res:=some (.bool true),after:=args}=some (.bool (true==true)) from w_eq_bool (w_res rfl) w_lit) rfl
theorem attach_call{l:OpenLaw}{n:Nat}{q:Program}{loose:List Str}{XP:(Str->Option Value)->Heap->Prop}{YP:World->Heap->Prop}{d:DefRec}
  (hn:l.most=some n) (hdf:d.params.defaults=[])
  (call:∀(w:World) (s₀ s₁:Shared) (mg mb:Str->Option Value) (fa:Addr) (o:Obj) (pm cd doc:Value) (a:Addr) (vs:List Value) (ns:List Int),
   Ground q loose [] XP w s₀ mg mb s₁.heap->YP w s₁.heap->
   s₁.heap.get? fa=some o->o.data=.func (docDef d.name d.params d.body d.scope pm cd doc)->s₁.heap.CodeRec cd d.name->mg d.name=some (.ref fa)->
   s₁.heap.get? a=some {cls:=.type "list",data:=.seq vs.toArray}->IntsAre vs ns->ns.length<=n->s₁.gens= #[]->
   codeAny (model l.prog w) callerA (.call (.ref fa) ⟨[.ref a],[]⟩) (fun r s'=>r=.ok (.ret (.bool true))/\OldK s₁.heap s'.heap/\s'.os=s₁.os/\AllBare s'.gens) s₁):
  WalkO q loose XP YP l.row.toRowW d [] (fun f vs=>PySem.call f vs):=by
 intro w s₀ s₁ mg mb G Y fa o pm cd doc dV kV ho hd hcd hD hmg hg args vals as hpre hlay hrd hwl hlo
 obtain rfl:dV=.none:=Dflts.none hD hdf
 obtain rfl:kV=.none:=Dflts.noKw hD
 obtain⟨a,vs,ns,rfl,rfl,hobj,hints,hlen⟩:=aqE hn hpre hwl
 refine enter_call (codeAny_mono (call w s₀ s₁ mg mb fa o pm cd doc a vs ns G Y ho (fd_plain hd) hcd hmg hobj hints hlen hg) fun r s' hq=>?_)
 obtain⟨rfl,h2,h3,h4⟩:=hq
 exact⟨.inl ⟨.bool true,.bool true,[],rfl,fun _=>rfl,.bool true,aq7 l _,fun _=>⟨List.Pairwise.nil,fun _ hm=>(nomatch hm)⟩⟩,h2,h3,h4⟩
section
variable{prog:Program}{w:World}{A:Around}{E:Value->Shared->Prop}{s:Shared}{K:Frag}
end
end Att
namespace L2
open PySem PySem.Spec PyProof.Rows
theorem ajV:∀{vs:List Value} {ns:List Int},IntsAre vs ns->Vals (ns.map V.int) vs
 |_,_,.nil=>.nil
 |_,_,.cons n t h=>.cons ⟨t,rfl⟩ (ajV h)
def aKG(H:Hp):Prop:=∀b,H b=none∨∃o xs,H b=some (.frz o (.lst xs))
theorem aw1{P:Program}{w:World}{K:PySem.W.Frag}{mg mb:Str->Option Value}{CX:CXT}{k:Nat}{fa a:Addr}{fd:FuncData}{x:Str}{sp:Sp}{s₁:Shared}{vs:List Value}{ns:List Int}
  (KX:K.In s₁.heap) (hns:s₁.heap.Ns mainGlobals mg) (hb:s₁.heap.Ns builtinsNs mb) (hbb:∀x:Str,x≠"__name__"->mb x=bootBuiltins x) (hlim:s₁.heap.NoLimit) (hg:s₁.gens= #[])
  (ha:s₁.heap.get? a=some {cls:=.type "list",data:=.seq vs.toArray}) (hi:IntsAre vs ns) (hl:ns.length<=sizeLine) (hr:Room k callerA)
  (F:∀base:Heap,K.In base->base.Ns mainGlobals mg->FnOk P w K mg base CX k fa fd [x] sp) (hbind:∀(s:Shared) (u:Value),BindsTo s fd ⟨[u],[]⟩ [(x,u)])
  (hsp:∀H:Hp,aKG H->SqL K H a (ns.map V.int)->sp [.ref a] H (fun v _=>v=.bl true) fun _ _ _=>False)
  (hCX:∀H e s',CX [] H s₁ (fun _ _ _=>False) e s'->False):
  codeAny (model P w) callerA (.call (.ref fa) ⟨[.ref a],[]⟩) (fun r s'=>r=.ok (.ret (.bool true))/\OldK s₁.heap s'.heap/\s'.os=s₁.os/\AllBare s'.gens) s₁:=by
 have rv:=ajV hi
 have lenV:=hi.length
 -- from an abstract heap in which nothing but the script may be tracked
 have core:∀H:Hp,aKG H->SqL K H a (ns.map V.int)->HOk P w H s₁.heap->(∀b,H b≠none->b=a)->(H a≠none->K.lookup a=none)->
   codeAny (model P w) callerA (.call (.ref fa) ⟨[.ref a],[]⟩) (fun r s'=>r=.ok (.ret (.bool true))/\OldK s₁.heap s'.heap/\s'.os=s₁.os/\AllBare s'.gens) s₁:=by
  intro H hO hS hok hA hK
  have base_of:∀{b:Addr} {o:Obj},s₁.heap.get? b=some o->H b=none->(akH s₁.heap H).get? b=some o:=fun e n=>axS e n
  have noA:∀{b:Addr} {o:Obj} {es:Array DictEntry} {ep:Nat},s₁.heap.get? b=some o->o.data=.dict es ep->H b=none:=fun {b o es ep} e d=>by
   cases q:H b with
   |none=>rfl
   |some u=>
    have e':b=a:=hA b (by rw[q];simp)
    subst e'
    rw[ha] at e;cases e
    have d':Data.seq vs.toArray _=Data.dict es ep:=d
    cases d'
  have nsK:∀{b:Addr} {m:Str->Option Value},s₁.heap.Ns b m->(akH s₁.heap H).Ns b m:=fun {b m} ⟨o,es,ep,e,d,r⟩=>⟨o,es,ep,base_of e (noA e d),d,r⟩
  have hKb:K.In (akH s₁.heap H):=fun b o e=>base_of (KX b o e) (by
   cases q:H b with
   |none=>rfl
   |some u=>
    have e':b=a:=hA b (by rw[q];simp)
    subst e'
    rw[hK (by rw[q];simp)] at e;cases e)
  have hM:Mod K mg (akH s₁.heap H):=⟨hKb,nsK hns,⟨mb,nsK hb,hbb⟩,let ⟨mc,h1,h2⟩:=hlim;⟨mc,nsK h1,h2⟩⟩
  have e0:Env0 P w K mg (akH s₁.heap H) callerA [] s₁ H:=⟨rfl,hM,fun b o e=>aBP e,Nat.le_of_eq (arN _ _),trivial,fun b hb=>absurd (show b∈([]:List Addr) from hb) (by simp),hok,.of_eq hg⟩
  refine codeAny_mono ((F _ hKb (nsK hns)).run callerA [] s₁ H ⟨[.ref a],[]⟩ [.ref a] [.ref a] _ _ hr e0 (hbind s₁ (.ref a)) (.cons rfl .nil) (hsp H hO hS)) fun r s' h=>?_
  cases r with
  |error e=>exact (hCX H e s' h).elim
  |ok fl=>
   cases fl with
   |next=>exact False.elim h
   |brk=>exact False.elim h
   |cont=>exact False.elim h
   |ret u=>
    obtain⟨v,H',os,bare,un,hok',r',q⟩:=h
    have q':v=.bl true:=q
    subst q'
    obtain rfl:u=Value.bool true:=r'
    refine⟨rfl,OldK.of_keep fun b o e=>?_,os,bare⟩
    cases q:H b with
    |none=>exact un.keep b o e q (by intro z;exact absurd (show b∈([]:List Addr) from z) (by simp)) (by simp)
    |some u=>
     rcases hO b with z | ⟨ob,xs,z⟩
     ·rw[q] at z;cases z
     ·have z2:=un.frzs b ob _ z
      obtain⟨e1,_⟩:=hok b _ z
      obtain⟨e2,_⟩:=hok' b _ z2
      rw[e] at e1;cases e1
      exact e2
 cases hk:K.lookup a with
 |some o=>
  -- the script is one of the module's own objects
  have e:=KX a o hk
  rw[ha] at e
  cases e
  refine core (fun _=>none) (fun _=>.inl rfl) (.inr ⟨_,vs.toArray,_,hk,rfl,rfl,rfl,by rw[List.size_toArray,lenV];exact hl,by simpa using rv⟩) (fun b u z=>by have z':(none:Option HO)=some u:=z;cases z') (fun b z=>absurd rfl z) fun z=>absurd rfl z
 |none=>
  refine core (fun b=>if b=a then some (.frz {cls:=.type "list",data:=.seq vs.toArray} (.lst (ns.map V.int))) else none) (fun b=>?_) (.inl (.inr ⟨{cls:=.type "list",data:=.seq vs.toArray},if_pos rfl⟩)) (fun b u z=>?_) (fun b z=>?_) fun _=>hk
  ·by_cases hb:b=a
   ·exact .inr ⟨_,_,if_pos hb⟩
   ·exact .inl (if_neg hb)
  ·by_cases hb:b=a
   ·have z':=(if_pos hb).symm.trans z
    cases z'
    subst hb
    exact⟨ha,by rw[List.length_map];exact hl,vs,_,rv,ha⟩
   ·have z':=(if_neg hb).symm.trans z
    cases z'
  ·by_cases hb:b=a
   ·exact hb
   ·exact absurd (if_neg hb) z
theorem walk_of{l:PySem.W.OpenLaw}{n k:Nat}{q:Program}{loose:List Str}{XP:(Str->Option Value)->Heap->Prop}{YP:World->Heap->Prop}{d:DefRec}{K:Params->PySem.W.Frag}{CX:World->CXT}{sp:World->Sp}{x:Str}
  (hn:l.most=some n) (hn2:n<=sizeLine) (hdf:d.params.defaults=[]) (hr:Room k callerA)
  (hY:∀(w:World) (h:Heap),YP w h->(K w.params).In h)
  (F:∀(w:World) (mg:Str->Option Value) (fa:Addr) (h:Heap),(K w.params).In h->h.Ns mainGlobals mg->mg d.name=some (.ref fa)->
   ∃fd:FuncData,(∀(s:Shared) (u:Value),BindsTo s fd ⟨[u],[]⟩ [(x,u)])/\
    ∀base:Heap,(K w.params).In base->base.Ns mainGlobals mg->FnOk l.prog w (K w.params) mg base (CX w) k fa fd [x] (sp w))
  (hsp:∀(w:World) (H:Hp) (a:Addr) (ns:List Int),ns.length<=n->aKG H->SqL (K w.params) H a (ns.map V.int)->sp w [.ref a] H (fun v _=>v=.bl true) fun _ _ _=>False)
  (hCX:∀(w:World) (H:Hp) (s:Shared) (e:Value) (s':Shared),CX w [] H s (fun _ _ _=>False) e s'->False):
  PySem.W.WalkO q loose XP YP l.row.toRowW d [] (fun f vs=>PySem.call f vs):=by
 refine Att.attach_call hn hdf fun w s₀ s₁ mg mb fa o pm cd doc a vs ns G Y ho hd hcd hmg hobj hints hlen hg=>?_
 have KX:=hY w _ Y
 obtain⟨fd,hb,hF⟩:=F w mg fa _ KX G.T.g hmg
 exact aw1 KX G.T.g G.T.b G.T.builtins G.T.nolimit hg hobj hints (Nat.le_trans hlen hn2) hr hF hb (fun H hO hS=>hsp w H a ns hlen hO hS) fun H e s'=>hCX w H s₁ e s'
end L2
/- THE LAST THEOREM (shape;LID,My.* are yours):
 My.Adr:a structure of the addresses that your layer names (classes,functions);My.Txt K t:a structure (Prop) of the equations over K;
 My.txt_mk:{K} {implicit addresses ..} (e1:nsIn K mainGlobals "law"=some (some (.ref f))) (e2:K.lookup f=some ⟨oc,od,.func (fnOf "law" "law" params body scope dV kV doc pm an cdv ct),sl⟩) (e3:codeIn K cdv "law"=true) .. :∃t,My.Txt K t
set_option maxRecDepth 100000 in
set_option maxHeartbeats 0 in
theorem PySem.Challenge.cw_LID_holds : PySem.Challenge.rw_LID.Holds := by
 w_on;o_law;k_head;(case hw=>w_witness2)
 k_fill
 refine L2.walk_of (l:=PySem.Challenge.rw_LID) (n:=63) (k:=40) (x:="script") (CX:=fun w=>..) (sp:=fun _=>My.sp_law) rfl (by decide) rfl ⟨rfl,by decide,by decide⟩ (fun w h Y=>PySem.W.kIn_of Y) ?F ?S ?C
 case F=>
  intro w mg fa h KX G hmg
  have T:∃t,My.Txt (L2.KOf KX) t:=by
   dsimp only[L2.KOf]                          -- K must stand as «<heap const> w.params» for k_is
   refine' My.txt_mk ?e1 ?e2 ?e3 ..
   (case e1=>PySem.W.k_is)                    -- in the order:a name->its address->its object->its parts
   (case e2=>PySem.W.k_is)
   ..
  obtain⟨t,T⟩:=T
  have e0:=hmg.symm.trans (PySem.W.mg_of KX G T.law)
  cases e0                                       -- fa is the law's own address
  exact⟨_,fun s u=>.of_eq rfl,fun base kb nb=>My.law_fn T kb nb⟩     -- if «.of_eq rfl» comes too early:refine' ⟨_,?b,fun base kb nb=>My.law_fn T kb nb⟩;exact fun s u=>.of_eq rfl
 case S=>exact fun w H a ns hl hO hS=>..
 case C=>exact ..
(the tactic k_is has no namespace:write k_is) -/
namespace L2
open PySem PySem.Spec PyProof.Rows
def aaQ(s:Stmt)(j:Nat):Stmt:=match s with
 |.ClassDef _ _ _ body _ _ _ _ _ _ _=>body.getD j (.Pass ⟨0,0,0,0⟩)
 |_=>.Pass ⟨0,0,0,0⟩
def aa9(s:Stmt):Arguments:=match s with
 |.FunctionDef _ a _ _ _ _ _ _ _ _=>a
 |_=>{posonlyargs:=[],args:=[],vararg:=none,kwonlyargs:=[],kw_defaults:=[],kwarg:=none,defaults:=[]}
def aaT(s:Stmt):List Stmt:=match s with
 |.FunctionDef _ _ b _ _ _ _ _ _ _=>b
 |_=>[]
def aaC(s:Stmt):Scope:=match s with
 |.FunctionDef _ _ _ _ _ _ sc _ _ _=>sc
 |_=>{kind:=.function,names:=[],isGenerator:=false,isCoroutine:=false}
abbrev CX0:CXT:=fun _ _ _ _ _ _=>False
abbrev E0:XK:=fun _ _ _=>False
theorem ajU{X:Cx}:abT CX0 X E0:=fun _ _ _ _ _ _ _ h=>h.elim
structure Fun(K:PySem.W.Frag)(x qual:Str)(st:Stmt)(f:Addr)(fd:FuncData):Prop where
 ex:∃(oc:Value) (od:Option Addr) (kV doc pm:Value) (an:Option Addr) (cdv ct:Value) (osl:Array (Option Value)),
  fd=PySem.W.fnOf x qual (aa9 st) (aaT st) (aaC st) .none kV doc pm an cdv ct/\K.lookup f=some ⟨oc,od,.func fd,osl⟩/\PySem.W.codeIn K cdv qual=true
 kp:PySem.W.keepIn K (.ref f)=true
section
variable{P:Program}{w:World}{K:PySem.W.Frag}{mg:Str->Option Value}{base:Heap}
theorem Fun.ok{x qual:Str}{st:Stmt}{f:Addr}{fd:FuncData}{N ps:List Str}{k:Nat}{sp:Sp}(F:Fun K x qual st f fd)(S:FnScope N ps (aaC st))(len:∀vs H Q E,sp vs H Q E->vs.length=ps.length)
  (hbody:∀(cdv:Value) (A:Around) (outer:List Env) (s:Shared) (H:Hp) (vs:List V) (Q:VK) (E:XK),Room k (A.deeper (envOfC qual (aaC st) s.heap.objs.size f cdv))->sp vs H Q E->
   ∃t,PSs (acG CX0 P w K mg base N qual (aaC st) f cdv A outer s H E).nox (aaT st) t/\t {nx:=fun _ H'=>Q .non H',rt:=Q} (start N vs) H):FnOk P w K mg base CX0 (k+1) f fd ps sp:=by
 obtain⟨oc,od,kV,doc,pm,an,cdv,ct,osl,rfl,lk,hcd⟩:=F.ex
 refine anL lk hcd S len fun A outer s H vs Q E hr hsp=>?_
 obtain⟨t,h,q⟩:=hbody cdv A outer s H vs Q E hr hsp
 exact⟨t,h.nox,q⟩
theorem Fun.binds{x qual:Str}{st:Stmt}{f:Addr}{fd:FuncData}{ps:List Str}(F:Fun K x qual st f fd)
  (h:∀(kV doc pm:Value) (an:Option Addr) (cdv ct:Value) (us:List Value),us.length=ps.length->bindArgs (PySem.W.fnOf x qual (aa9 st) (aaT st) (aaC st) .none kV doc pm an cdv ct) ⟨us,[]⟩=pure (ps.zip us)):Binds K fd ps []:=by
 obtain⟨oc,od,kV,doc,pm,an,cdv,ct,osl,rfl,lk,hcd⟩:=F.ex
 exact .all (h kV doc pm an cdv ct)
theorem amY{x qual:Str}{st:Stmt}{f:Addr}{oc:Value}{od an:Option Addr}{osl:Array (Option Value)}{kV doc pm cdv ct:Value}(l:K.lookup f=some ⟨oc,od,.func (PySem.W.fnOf x qual (aa9 st) (aaT st) (aaC st) .none kV doc pm an cdv ct),osl⟩)
  (c:PySem.W.codeIn K cdv qual=true) (k:PySem.W.keepIn K (.ref f)=true):Fun K x qual st f (PySem.W.fnOf x qual (aa9 st) (aaT st) (aaC st) .none kV doc pm an cdv ct):=⟨⟨oc,od,kV,doc,pm,an,cdv,ct,osl,rfl,l,c⟩,k⟩
end
section
variable{X:Cx}
end
theorem aaX{A B:Prop}(h:B):if false=true then A else B:=by
 rw[if_neg Bool.false_ne_true]
 exact h
theorem ab0{A B:Prop}(h:A):if true=true then A else B:=by
 rw[if_pos rfl]
 exact h
theorem aFT{c A B:Prop}[Decidable c](h1:c->A)(h2:¬c->B):if c then A else B:=by
 by_cases h:c
 ·rw[if_pos h]
  exact h1 h
 ·rw[if_neg h]
  exact h2 h
def Same(H H':Hp):Prop:=∀b o,H b=some o->H' b=some o
theorem Same.refl(H:Hp):Same H H:=fun _ _ h=>h
theorem Same.trans{H H1 H2:Hp}(a:Same H H1)(b:Same H1 H2):Same H H2:=fun c o h=>b c o (a c o h)
theorem Same.free{H H':Hp}(e:Same H H'){l:Addr}(h:H' l=Option.none):H l=Option.none:=by
 cases q:H l with
 |none=>rfl
 |some o=>
  rw[e l o q] at h
  cases h
theorem Same.seq{K:PySem.W.Frag}{H H':Hp}{a:Addr}{xs:List V}(e:Same H H')(h:SqL K H a xs):SqL K H' a xs:=by
 rcases h with (h | ⟨o,h⟩) | h
 ·exact .inl (.inl (e _ _ h))
 ·exact .inl (.inr ⟨o,e _ _ h⟩)
 ·exact .inr h
section
variable{X:Cx}
end
structure Df(P:Program)(w:World)(K:PySem.W.Frag)(mg:Str->Option Value)(base:Heap)(x:Str)(k:Nat)(ps:List Str)(sp:Sp):Prop where
 ex:∃(f:Addr) (fd:FuncData),FnOk P w K mg base CX0 k f fd ps sp/\Binds K fd ps []/\mg x=some (.ref f)/\PySem.W.keepIn K (.ref f)=true
structure Fn(K:PySem.W.Frag)(mg:Str->Option Value)(x:Str)(st:Stmt)(ps:List Str):Prop where
 ex:∃(f:Addr) (fd:FuncData),Fun K x x st f fd/\Binds K fd ps []/\mg x=some (.ref f)
section
variable{P:Program}{w:World}{K:PySem.W.Frag}{mg:Str->Option Value}{base:Heap}{x:Str}{st:Stmt}{ps N:List Str}{k:Nat}{sp:Sp}
theorem Fn.df(F:Fn K mg x st ps)(S:FnScope N ps (aaC st))(len:∀vs H Q E,sp vs H Q E->vs.length=ps.length)
  (hbody:∀(f:Addr) (cdv:Value) (A:Around) (outer:List Env) (s:Shared) (H:Hp) (vs:List V) (Q:VK) (E:XK),Room k (A.deeper (envOfC x (aaC st) s.heap.objs.size f cdv))->sp vs H Q E->
   ∃t,PSs (acG CX0 P w K mg base N x (aaC st) f cdv A outer s H E).nox (aaT st) t/\t {nx:=fun _ H'=>Q .non H',rt:=Q} (start N vs) H):Df P w K mg base x (k+1) ps sp:=by
 obtain⟨f,fd,F1,hb,hm⟩:=F.ex
 exact⟨⟨f,fd,F1.ok S len (hbody f),hb,hm,F1.kp⟩⟩
theorem aaR{h:Heap}{f:Addr}{oc:Value}{od an:Option Addr}{osl:Array (Option Value)}{kV doc pm cdv ct:Value}(X:K.In h)(G:h.Ns mainGlobals mg)
  (a:PySem.W.nsIn K mainGlobals x=some (some (.ref f))) (l:K.lookup f=some ⟨oc,od,.func (PySem.W.fnOf x x (aa9 st) (aaT st) (aaC st) .none kV doc pm an cdv ct),osl⟩)
  (c:PySem.W.codeIn K cdv x=true) (k:PySem.W.keepIn K (.ref f)=true)
  (hb:∀(kV doc pm:Value) (an:Option Addr) (cdv ct:Value) (us:List Value),us.length=ps.length->bindArgs (PySem.W.fnOf x x (aa9 st) (aaT st) (aaC st) .none kV doc pm an cdv ct) ⟨us,[]⟩=pure (ps.zip us)):Fn K mg x st ps:=by
 have F:=amY (st:=st) l c k
 exact⟨⟨f,_,F,F.binds (ps:=ps) hb,PySem.W.mg_of X G a⟩⟩
end
section
variable{X:Cx}
theorem axB{x:Str}{k k':Nat}{ps:List Str}{sp:Sp}{e:Expr}{es:List Expr}{t:TA}{p pos:Pos}(D:Df X.prog X.w X.K X.mg X.base x k ps sp)(hr:Room k' X.A)(ha:PA X (e::es) t)(hk:k<=k':=by decide)(hg:Gl X x:=by rfl)
  (hdb:(x==("__debug__":Str))=false:=by decide) (he:starEach (e::es) X.env=(false,eval e X.env)::starEach es X.env:=by rfl) (hpl:(backTo pos (starEach es X.env)).any (·.1)=false:=by rfl):
  PE X (.Call (.Name x p) (e::es) [] pos) (agN sp [] E0 t):=by
 obtain⟨f,fd,F,hb,hm,kp⟩:=D.ex
 exact anJ F (hr.mono hk) hg hm kp hb .nil ajU ha hdb he hpl
end
theorem aaB{H:Hp}{p:Addr}(h:H p=none)(o:HO):Same H (upd H p o):=fun b u q=>by rw[aaE (aaJ q h)];exact q
theorem int_eq{a b:Int}:(V.int a=V.int b)↔a=b:=⟨fun h=>V.int.inj h,fun h=>by rw[h]⟩
theorem ifI{a b:Int}{A B:Prop}(h1:a=b->A)(h2:¬a=b->B):if decide (V.int a=V.int b)=true then A else B:=
 aFT (fun c=>h1 (int_eq.mp (of_decide_eq_true c))) (fun c=>h2 fun e=>c (decide_eq_true (int_eq.mpr e)))
theorem ifD{c:Prop}[Decidable c]{A B:Prop}(h1:c->A)(h2:¬c->B):if decide c=true then A else B:=
 aFT (fun q=>h1 (of_decide_eq_true q)) (fun q=>h2 fun e=>q (decide_eq_true e))
theorem ap4{a b:Int}{A B:Prop}(e:a=b)(h:B):if (!decide (V.int a=V.int b))=true then A else B:=by
 rw[decide_eq_true (int_eq.mpr e)];exact aaX h
def ak4:Expr->Option Int
 |.Constant (.int i) _ _=>some i
 |_=>none
def aEY(is:List Int):TA:=fun _ H Q=>Q (is.map V.int) H
theorem anI{X:Cx}:∀{es:List Expr} (is:List Int),es.map ak4=is.map some->PA X es (aEY is)
 |[],[],_=>aeT
 |[],_::_,h=>by cases h
 |_::_,[],h=>by cases h
 |e::es,i::is,h=>by
  have h1:ak4 e=some i:=(List.cons.inj h).1
  have h2:es.map ak4=is.map some:=(List.cons.inj h).2
  obtain⟨j,pos,rfl⟩:∃j pos,e=.Constant (.int i) j pos:=by
   unfold ak4 at h1
   split at h1
   ·cases h1
    exact⟨_,_,rfl⟩
   ·cases h1
  exact acR axE (anI is h2)
structure Clos(X:Cx)(scope:Scope)(cl:List (Str×Addr)):Prop where
 is:closureFor scope X.env=pure cl
 sub:∀y c,cl.lookup y=some c->X.env.cells.lookup y=some c
 has:∀y,scope.names.lookup y=some .free->∃c,cl.lookup y=some c
 nocell:∀y∈scope.names,y.2≠ .cell
 kind:scope.kind=.function
 names:∀y∈scope.names,y.2=.local->scope.names.lookup y.1=some .local
def aaL(X:Cx)(N:List Str)(scope:Scope)(cl:List (Str×Addr))(C:Addr)(ex:List Addr)(pins:List (Addr×Obj))(s:Shared)(H:Hp):Cx:=
 {X with N:=N,s₀:=s,H₀:=H,env:=compEnvC scope cl C X.env,outer:=X.stack,stack:=X.stack,ex:=ex,fn:=fun _=>false,pn:=X.pn++pins,xe:=fun _ _=>False}
def aaW(js:List Nat)(σ:St):St:=js.map fun j=>(σ[j]?).getD none
def aoB(ifs:List Expr)(env:Env):Sem Bool:=
 forIn ifs true fun c r=>if r=true then (do let ok ←isTrue c env (eval c env);pure (ForInStep.yield ok)) else pure (ForInStep.yield r)
def PF(X:Cx)(ifs:List Expr)(t:TT):Prop:=
 ∀(pins:List (Addr×Obj)) (s:Shared) (σ:St) (H:Hp) (Q:Bool->Hp->Prop),Inv X pins σ H s->t σ H Q->
  wpAny (model X.prog X.w) X.A (aoB ifs X.env) (TP X pins σ Q) X.xe s
def aNA:TT:=fun _ H Q=>Q true H
theorem aJY{X:Cx}:PF X [] aNA:=fun _ _ _ H _ I h=>wpAny_tests_nil ⟨H,I,h⟩
theorem aJ8{X:Cx}{c:Expr}{t:TT}(h:PT X c t):PF X [c] t:=fun pins s σ H Q I q=>wpAny_tests_one (h pins s σ H Q I q)
def alK(J:It)(js:List Nat)(σ:St)(tt:TT)(te:TE)(Q:VK)(H1:Hp):Prop:=∀D,H1 D=none->∃W:Nat->Nat->Hp->Prop,(∃m,W 0 m (upd H1 D (.lst [])))/\∀i m H2,W i m H2->
 (J.stop i H2/\Q (.ref D) H2)∨(J.go i H2/\∀v H3,J.yld i H2 v H3->tt (some v::aaW js σ) H3 fun b H4=>if b=true then
  te (some v::aaW js σ) H4 fun y H5=>∃ys,H5 D=some (.lst ys)/\ys.length<sizeLine/\∃m',m'<m/\W (i+1) m' (upd H5 D (.lst (ys++[y])))
  else ∃m',m'<m/\W (i+1) m' H4)
def aw6(wi:TI)(js:List Nat)(tt:TT)(te:TE):TE:=fun σ H Q=>wi σ H fun J H1=>alK J js σ tt te Q H1
def akM(env:Env)(n:Str)(k:NameKind):NameKind:=if (k==NameKind.free&&env.scope.kind== .function&&env.kindOf n==some .cell) then .cell else k
theorem aD2{env:Env}{n:Str}{k:NameKind}:(if (k==NameKind.free&&env.scope.kind== .function&&env.kindOf n==some .cell) then (n,NameKind.cell) else (n,k))=(n,akM env n k):=by
 unfold akM
 split<;>rfl
theorem adK{env:Env}:∀(names:List (Str×NameKind)) (x:Str),(relabel {kind:=.function,names:=names,isGenerator:=false,isCoroutine:=false} env).names.lookup x=(names.lookup x).map (akM env x)
 |[],_=>rfl
 |(n,k)::r,x=>by
  have ih:=adK (env:=env) r x
  unfold relabel at ih ⊢
  dsimp only at ih ⊢
  rw[List.map_cons]
  dsimp only
  rw[aD2,List.lookup_cons,List.lookup_cons,ih]
  cases hx:x==n with
  |true=>
   have e:x=n:=by simpa using hx
   rw[e]
   rfl
  |false=>rfl
theorem acT{env:Env}(scope:Scope)(x:Str):(relabel scope env).names.lookup x=(scope.names.lookup x).map (akM env x):=adK scope.names x
theorem ajO{env:Env}{x:Str}{o:Option NameKind}(hc:o≠some .cell)(h:o.map (akM env x)=some .cell∨o.map (akM env x)=some .free):o=some .free:=by
 cases o with
 |none=>rcases h with h | h<;>cases h
 |some k=>
  by_cases e:k=.free
  ·rw[e]
  ·have z:akM env x k=k:=by
    unfold akM
    have e':(k==NameKind.free)=false:=by simpa using e
    rw[e']
    rfl
   rw[Option.map_some,z] at h
   rcases h with h | h
   ·exact absurd h hc
   ·exact h
theorem afP{env:Env}{scope:Scope}{x:Str}(h:scope.names.lookup x=some .free):(relabel scope env).names.lookup x=some .cell∨(relabel scope env).names.lookup x=some .free:=by
 rw[acT,h,Option.map_some]
 unfold akM
 split
 ·exact .inl rfl
 ·exact .inr rfl
section
variable{X:Cx}{elt iter:Expr}{x:Str}{px pos:Pos}{ifs:List Expr}{scope:Scope}{cl:List (Str×Addr)}{N':List Str}{js:List Nat}{tt:TT}{te:TE}
theorem am1{pins:List (Addr×Obj)}{σ:St}{H:Hp}{s s4:Shared}{fp:List Addr}{C:Addr}{m4:Str->Option Value}(hcl:Clos X scope cl)(hN:js.map (fun j=>X.N[j]?)=N'.map some)
  (hk:N'.all (fun y=>(X.env.kindOf y==some .cell)||(X.env.kindOf y==some .free))=true) (hf:N'.all (fun y=>scope.names.lookup y==some .free)=true)
  (I:Inv X pins σ H s) (hfp:∀b∈fp,acP X pins H b/\b<s.heap.objs.size) (hC:C=s.heap.objs.size) (ho:s4.os=s.os) (hg:s4.gens=s.gens) (hkeep:∀b o,s.heap.get? b=some o->s4.heap.get? b=some o) (hn:s4.heap.Ns C m4):
  Inv (aaL X (x::N') scope cl C fp pins s H) [] (none::aaW js σ) H s4:=by
 have hne:∀b o,s.heap.get? b=some o->b≠C:=fun b o e=>by rw[hC];exact Nat.ne_of_lt (Heap.lt_size e)
 refine⟨⟨I.ok.mod,hcl.kind,I.ok.glob,I.ok.blt,Nat.le_of_eq hC.symm,fun y z c h1 h2=>I.ok.inj y z c (hcl.sub y c h1) (hcl.sub z c h2),fun y hy=>hcl.has y (ajO (fun z=>hcl.nocell _ (PySem.mem_of_lookup z) rfl) (by rw[←acT];exact hy)),fun y c h _=>(nomatch h),I.ok.hd,I.ok.frames,.inl rfl,fun b hb=>⟨?_,fun y c e=>(hfp b hb).1.2.2.2.2.1 y c (hcl.sub y c e)⟩,
  I.bs,Nat.le_trans I.ok.bsz I.sz,fun b o e hb=>?_,fun b hb hz=>?_,I.stack,I.stkFree⟩,ho,by rw[hg];exact I.bare,Un.kept hkeep,⟨m4,hn,fun i y v h1 h2 h3=>?_⟩,fun y c e=>?_,?_,fun y c e=>I.freeC y c (hcl.sub y c e),fun p hp=>?_,I.hok.kept hkeep,?_⟩
 ·rw[hC];exact Nat.ne_of_lt (hfp b hb).2
 ·rcases (hfp b hb).1.2.2.2.1 with z | z
  ·exact I.ok.noex b o e z
  ·exact absurd (Nat.lt_of_lt_of_le (Heap.lt_size e) (Nat.le_trans I.ok.bsz z)) (Nat.lt_irrefl _)
 ·rcases List.mem_cons.mp (I.stkSub b hz) with z | z
  ·exact (hfp b hb).1.2.1 z
  ·exact (hfp b hb).1.2.2.1 z
 ·match i,h1,h2 with
  |0,_,h2=>exact nomatch h2
  |i+1,h1,h2=>
   have h1:N'[i]? =some y:=h1
   have h2:(aaW js σ)[i]? =some (some v):=h2
   have hy:y∈N':=List.mem_of_getElem? h1
   have q:(js.map (fun j=>X.N[j]?))[i]? =some (some y):=by rw[hN,List.getElem?_map,h1];rfl
   rw[List.getElem?_map] at q
   cases ej:js[i]? with
   |none=>rw[ej] at q;cases q
   |some j=>
    rw[ej] at q
    have q:X.N[j]? =some y:=Option.some.inj q
    unfold aaW at h2
    rw[List.getElem?_map,ej] at h2
    have h2:(σ[j]?).getD none=some v:=Option.some.inj h2
    have h2:σ[j]? =some (some v):=by
     cases e:σ[j]? with
     |none=>rw[e] at h2;cases h2
     |some o=>rw[e] at h2;exact congrArg some h2
    have kk:=List.all_eq_true.mp hk y hy
    have kk:X.env.kindOf y=some .cell∨X.env.kindOf y=some .free:=by simpa using kk
    have ff:=List.all_eq_true.mp hf y hy
    have ff:scope.names.lookup y=some .free:=by simpa using ff
    obtain⟨m,_,hl⟩:=I.loc
    obtain⟨u,r,l⟩:=hl j y v q h2 (by rcases kk with z | z;exact .inr (.inl z);exact .inr (.inr z))
    refine⟨u,r,.inr ⟨afP ff,?_⟩⟩
    obtain⟨c,hc⟩:=hcl.has y ff
    rcases l with ⟨z,_⟩ | ⟨_,c',e',cell⟩
    ·rcases kk with k | k<;>(rw[k] at z;cases z)
    ·rw[hcl.sub y c hc] at e'
     cases e'
     exact⟨c,hc,cell.keeps hkeep⟩
 ·obtain⟨v,q⟩:=I.cell y c (hcl.sub y c e)
  exact⟨v,q.keeps hkeep⟩
 ·show H C=none
  rw[hC]
  exact I.hok.fresh (Nat.le_refl _)
 ·have hp:p∈X.pn++pins:=by
   have hp:p∈(X.pn++pins)++[]:=hp
   rwa [List.append_nil] at hp
  obtain⟨e,n,ne,nf,d⟩:=I.pin p hp
  refine⟨hkeep _ _ e,n,hne _ _ e,fun z=>?_,d⟩
  rcases List.mem_cons.mp (I.stkSub p.1 z) with z | z
  ·exact ne z
  ·exact nf z
 ·show (aaW js σ).length+1=N'.length+1
  have q:=congrArg List.length hN
  rw[List.length_map,List.length_map] at q
  unfold aaW
  rw[List.length_map,q]
end
theorem aiR{prog:Program}{w:World}{A:Around}{R:Result->Shared->Prop}{s:Shared}{elt tg iter:Expr}{ifs:List Expr}{scope:Scope}{pos:Pos}{it acc:Value}{env:Env}{EN:Value->Shared->Prop}
  (hEN:EN=notedBy (model prog w) A env fun e s'=>R (.error e) s') (B:Nat->Shared->Prop)
  (turn:∀n s,B n s->wpAny (model prog w) A (pyNext it) (fun r s₁=>match r with
   |none=>R (.ok .next) s₁
   |some v=>wpAny (model prog w) A (letOwnedTupleGo tg it v) (fun _ s₂=>wpAny (model prog w) A (assign tg env v) (fun _ s₃=>
     wpAny (model prog w) A (aoB ifs env) (fun ok s₄=>
      if ok=true then wpAny (model prog w) A (eval elt env) (fun z s₅=>wpAny (model prog w) A (call (.builtin "list.append") [acc,z]) (fun _ s₆=>∃m,m<n/\B m s₆) EN s₅) EN s₄
      else ∃m,m<n/\B m s₄) EN s₃) EN s₂) EN s₁) EN s) (n:Nat) (h:B n s):
  codeAny (model prog w) A (.compLoop (.ListComp elt [⟨tg,iter,ifs,0⟩] scope pos) 0 it acc env) R s:=by
 subst hEN
 refine codeAny_loop rfl B (fun n s hI=>?_) n h
 refine wpAny_noted (m:=compTurn (.ListComp elt [⟨tg,iter,ifs,0⟩] scope pos) 0 it acc env) ?_
 rw[compTurn_list]
 refine wpAny_bind (wpAny_standAt (wpAny_bind (wpAny_mono (turn n s hI) (fun r s₁ h₁=>?_) fun _ _ z=>z)))
 cases r with
 |none=>exact wpAny_pure h₁
 |some v=>
  refine wpAny_bind (wpAny_mono h₁ (fun _ s₂ h₂=>?_) fun _ _ z=>z)
  refine wpAny_bind (wpAny_mono h₂ (fun _ s₃ h₃=>?_) fun _ _ z=>z)
  refine wpAny_bind (wpAny_mono h₃ (fun ok s₄ h₄=>?_) fun _ _ z=>z)
  cases ok with
  |false=>exact wpAny_pure ⟨rfl,h₄⟩
  |true=>
   refine wpAny_bind (wpAny_bind (wpAny_mono h₄ (fun z s₅ h₅=>?_) fun _ _ q=>q))
   exact wpAny_bind (wpAny_mono h₅ (fun _ s₆ h₆=>wpAny_pure (wpAny_pure ⟨rfl,h₆⟩)) fun _ _ q=>q)
section
variable{X:Cx}{elt iter:Expr}{x:Str}{px pos:Pos}{ifs:List Expr}{scope:Scope}{cl:List (Str×Addr)}{N':List Str}{js:List Nat}{tt:TT}{te:TE}
theorem axP{pins:List (Addr×Obj)}{σ σ':St}{H H':Hp}{s s':Shared}{fp:List Addr}{C:Addr}(I:Inv X pins σ H s)(hfp:∀b∈fp,acP X pins H b)(J:Inv (aaL X (x::N') scope cl C fp pins s H) [] σ' H' s'):Inv X pins σ H' s':=
 I.call' (ch:=fp) J.os J.base J.hok J.bare fun b hb=>⟨(hfp b hb).2.2.2.1,(hfp b hb).2.1,(hfp b hb).2.2.2.2.1,(hfp b hb).2.2.2.2.2⟩
theorem ah5{pins:List (Addr×Obj)}{σ:St}{H:Hp}{s:Shared}{Q:VK}{RR:Value->Addr->Result->Shared->Prop}{J:It}{fp:List Addr}{it:Addr}{tn:Nat->Heap->Prop}
  (hcl:Clos X scope cl) (hx:scope.names.lookup x=some .local) (hnd:(x::N').Nodup) (hN:js.map (fun j=>X.N[j]?)=N'.map some)
  (hk:N'.all (fun y=>(X.env.kindOf y==some .cell)||(X.env.kindOf y==some .free))=true) (hf:N'.all (fun y=>scope.names.lookup y==some .free)=true) (hc:X.calm=true)
  (ht:∀(C:Addr) (ex:List Addr) (pins:List (Addr×Obj)) (s:Shared) (H:Hp),PF (aaL X (x::N') scope cl C ex pins s H) ifs tt)
  (he:∀(C:Addr) (ex:List Addr) (pins:List (Addr×Obj)) (s:Shared) (H:Hp),PE (aaL X (x::N') scope cl C ex pins s H) elt te)
  (I:Inv X pins σ H s) (T:Turn X.prog X.w X.K (.Name x px) J fp it tn) (st:tn 0 s.heap) (hfp:∀b∈fp,acP X pins H b)
  (q:∀D,H D=none->∃W:Nat->Nat->Hp->Prop,(∃m,W 0 m (upd H D (.lst [])))/\∀i m H2,W i m H2->
   (J.stop i H2/\Q (.ref D) H2)∨(J.go i H2/\∀v H3,J.yld i H2 v H3->tt (some v::aaW js σ) H3 fun b H4=>if b=true then
    te (some v::aaW js σ) H4 fun y H5=>∃ys,H5 D=some (.lst ys)/\ys.length<sizeLine/\∃m',m'<m/\W (i+1) m' (upd H5 D (.lst (ys++[y])))
    else ∃m',m'<m/\W (i+1) m' H4))
  (hRR:∀(D C:Addr) (s':Shared) (H':Hp) (m:Str->Option Value),Inv X pins σ H' s'->H' C=none->C≠X.env.locals->X.s₀.heap.objs.size<=C->(∀y c,X.env.cells.lookup y=some c->c≠C)->(∀p∈X.pn++pins,p.1≠C)->s'.heap.Ns C m->Q (.ref D) H'->RR (.ref D) C (.ok .next) s'):
  wpAny (model X.prog X.w) X.A (newList []) (fun acc s₃=>wpAny (model X.prog X.w) X.A (newFunctionEnv scope X.env.globals cl [] X.env.qual none .none (some X.env)) (fun cenv s₄=>
   codeAny (model X.prog X.w) X.A (.compStart (.ListComp elt [⟨.Name x px,iter,ifs,0⟩] scope pos) 0 (.ref it) acc {cenv with scope:=relabel scope X.env}) (RR acc cenv.locals) s₄) X.xe s₃) X.xe s:=by
 refine wpAny_newObj_type ?_
 have hD:H s.heap.objs.size=none:=I.hok.fresh (Nat.le_refl _)
 have I3:Inv X pins σ (upd H s.heap.objs.size (.lst [])) {s with heap:=s.heap.push {cls:=.type "list",dict:=none,data:=.seq ([]:List Value).toArray} }:=I.lnew (its:=[]) (t':=s.toks) .nil (Nat.zero_le _)
 have hfp3:∀b∈fp,acP X pins (upd H s.heap.objs.size (.lst [])) b/\b<(s.heap.push {cls:=.type "list",dict:=none,data:=.seq ([]:List Value).toArray}).objs.size:=fun b hb=>by
  obtain⟨o,ho,_⟩:=T.obj 0 _ st b hb
  have hlt:=Heap.lt_size ho
  obtain⟨f0,f1⟩:=hfp b hb
  exact⟨⟨by rw[aaE (Nat.ne_of_lt hlt)];exact f0,f1⟩,by rw[Heap.size_push];exact Nat.lt_succ_of_lt hlt⟩
 have st3:tn 0 (s.heap.push {cls:=.type "list",dict:=none,data:=.seq ([]:List Value).toArray}):=T.keep _ _ _ st fun b _ o e=>Heap.get?_push_of_some _ e
 obtain⟨W,⟨m0,w0⟩,turn⟩:=q s.heap.objs.size hD
 generalize hs3:({s with heap:=s.heap.push {cls:=.type "list",dict:=none,data:=.seq ([]:List Value).toArray} }:Shared)=s3 at I3 ⊢
 have hh3:s.heap.push {cls:=.type "list",dict:=none,data:=.seq ([]:List Value).toArray}=s3.heap:=by rw[←hs3]
 rw[hh3] at hfp3 st3
 generalize s.heap.objs.size=D at I3 hfp3 w0 turn hD ⊢
 generalize upd H D (.lst [])=H3 at I3 hfp3 w0
 refine wpAny_newFunctionEnv hcl.nocell (by intro y hy;simp at hy) (fun h₁ hns₁ hsb₁=>?_) hcl.kind
 have hkeep:∀b o,s3.heap.get? b=some o->h₁.get? b=some o:=fun b o e=>hsb₁.extBut b o (Nat.ne_of_lt (Heap.lt_size e)) (Heap.get?_push_of_some _ e)
 have J4:Inv (aaL X (x::N') scope cl s3.heap.objs.size fp pins s3 H3) [] (none::aaW js σ) H3 {s3 with heap:=h₁,toks:=s3.toks+([]:List (Str×Value)).length}:=
  am1 hcl hN hk hf I3 hfp3 rfl rfl rfl hkeep hns₁
 have st4:tn 0 h₁:=T.keep _ _ _ st3 fun b _ o e=>hkeep b o e
 have cell':∀{s':Shared} {σ':St} {H':Hp},Inv (aaL X (x::N') scope cl s3.heap.objs.size fp pins s3 H3) [] σ' H' s'->Q (.ref D) H'->RR (.ref D) s3.heap.objs.size (.ok .next) s':=fun {s' σ' H'} J hq=>by
  obtain⟨m,hn,_⟩:=J.loc
  refine hRR D _ s' H' m (axP I3 (fun b hb=>(hfp3 b hb).1) J) J.free (Nat.ne_of_gt I3.lt) I3.sz (fun y c e z=>?_) (fun p hp z=>?_) hn hq
  ·obtain⟨v,k⟩:=I3.cell y c e
   exact absurd k.lt (by rw[z];exact Nat.lt_irrefl _)
  ·exact absurd (Heap.lt_size (I3.pin p hp).1) (by rw[z];exact Nat.lt_irrefl _)
 have fpX:∀{H':Hp},(∀b∈fp,H' b=none)->∀b∈fp,acP (aaL X (x::N') scope cl s3.heap.objs.size fp pins s3 H3) [] H' b:=fun {H'} hn b hb=>by
  obtain⟨⟨f0,f1,f2,f3,f4,f5⟩,flt⟩:=hfp3 b hb
  refine⟨hn b hb,Nat.ne_of_lt flt,fun z=>?_,.inl hb,fun y c e=>f4 y c (hcl.sub y c e),fun p hp=>?_⟩
  ·rcases List.mem_cons.mp (I3.stkSub b z) with z | z
   ·exact f1 z
   ·exact f2 z
  ·have hp:p∈(X.pn++pins)++[]:=hp
   rw[List.append_nil] at hp
   exact f5 p hp
 have loop:∀s₄:Shared,s₄={s3 with heap:=h₁,toks:=s3.toks+([]:List (Str×Value)).length}->
   codeAny (model X.prog X.w) X.A (.compLoop (.ListComp elt [⟨.Name x px,iter,ifs,0⟩] scope pos) 0 (.ref it) (.ref D) (compEnvC scope cl s3.heap.objs.size X.env)) (RR (.ref D) s3.heap.objs.size) s₄:=by
  rintro s₄ rfl
  refine aiR rfl (fun n s'=>∃i σ0 H',Inv (aaL X (x::N') scope cl s3.heap.objs.size fp pins s3 H3) [] (σ0::aaW js σ) H' s'/\tn i s'.heap/\(∀b∈fp,H' b=none)/\W i n H') ?_ m0 ⟨0,none,H3,J4,st4,fun b hb=>(hfp3 b hb).1.1,w0⟩
  rintro n s5 ⟨i,σ0,H5,J5,st5,fr5,w5⟩
  rcases turn i n H5 w5 with ⟨stop,qn⟩ | ⟨go,step⟩
  ·refine wpAny_mono (T.done (aaL X (x::N') scope cl s3.heap.objs.size fp pins s3 H3) rfl rfl rfl hc i [] s5 _ H5 (fun _ _=>False) J5 (fpX fr5) st5 stop) (fun r s6 ⟨hr,J6⟩=>?_) fun _ _ z=>z.elim
   subst hr
   exact cell' J6 qn
  ·refine wpAny_mono (T.item (aaL X (x::N') scope cl s3.heap.objs.size fp pins s3 H3) rfl rfl rfl hc i [] s5 _ H5 (fun _ _=>False) J5 (fpX fr5) st5 go) (fun r s6 ⟨u,hr,h6⟩=>?_) fun _ _ z=>z.elim
   subst hr
   refine wpAny_mono h6 (fun _ s6' h6'=>?_) fun _ _ z=>z.elim
   obtain⟨v,H6,J6,r6,y6,st6,fr6⟩:=h6'
   clear h6
   have J6':=J6.pinned (fpX fr6) (T.obj _ _ st6)
   show wpAny _ _ (assign (.Name x px) _ u) _ _ _
   refine wpAny_assign_Name (acD (i:=0) J6' hnd rfl (.inl (lookup_relabel_local hx)) r6 (fun s7 J7=>?_) (.inr (lookup_relabel_local hx)))
   have J7:Inv (aaL X (x::N') scope cl s3.heap.objs.size fp pins s3 H3) ([]++ae1 fp s6'.heap) (some v::aaW js σ) H6 s7:=J7
   have again:∀{σ8:St} {H8:Hp} {s8:Shared},Inv (aaL X (x::N') scope cl s3.heap.objs.size fp pins s3 H3) ([]++ae1 fp s6'.heap) σ8 H8 s8->tn (i+1) s8.heap/\∀b∈fp,H8 b=none:=fun {σ8 H8 s8} J8=>by
    refine⟨T.keep _ _ _ st6 fun b hb o e=>(J8.pin (b,o) (List.mem_append_right _ (List.mem_append_right _ (abP hb e)))).1,fun b hb=>?_⟩
    obtain⟨o,e,d⟩:=T.obj _ _ st6 b hb
    exact (J8.pin (b,o) (List.mem_append_right _ (List.mem_append_right _ (abP hb e)))).2.1
   refine wpAny_mono (ht _ _ _ _ _ _ s7 _ H6 _ J7 (step v H6 y6)) (fun ok s8 ⟨H8,J8,q8⟩=>?_) fun _ _ z=>z.elim
   cases ok with
   |false=>
    obtain⟨m',hm,w8⟩:=(show ∃m',m'<n/\W (i+1) m' H8 from q8)
    obtain⟨a1,a2⟩:=again J8
    exact⟨m',hm,i+1,some v,H8,J8.unpinned,a1,a2,w8⟩
   |true=>
    refine wpAny_mono (he _ _ _ _ _ _ s8 _ H8 _ J8 q8) (fun y s9 ⟨z,H9,J9,r9,ys,hys,hlen,m',hm,w9⟩=>?_) fun _ _ z=>z.elim
    refine wpAny_mono (afY (X:=aaL X (x::N') scope cl s3.heap.objs.size fp pins s3 H3) _ s9 _ H9 (.ref D) [z] (.ref D) [y] (fun _ H10=>H10=upd H9 D (.lst (ys++[z]))) J9 rfl (.cons r9 .nil) ⟨D,ys,z,rfl,rfl,hys,hlen,rfl⟩) (fun _ s10 ⟨_,H10,J10,_,e10⟩=>?_) fun _ _ z=>z.elim
    subst e10
    obtain⟨a1,a2⟩:=again J10
    exact⟨m',hm,i+1,some v,_,J10.unpinned,a1,a2,w9⟩
 exact codeAny_compStart_list (loop _ rfl) (T.self _ 0 _ _ _ st4 (loop _ rfl))
theorem aCM{wi:TI}(hcl:Clos X scope cl)(hx:scope.names.lookup x=some .local)(hnd:(x::N').Nodup)(hN:js.map (fun j=>X.N[j]?)=N'.map some)
  (hk:N'.all (fun y=>(X.env.kindOf y==some .cell)||(X.env.kindOf y==some .free))=true) (hf:N'.all (fun y=>scope.names.lookup y==some .free)=true) (hc:X.calm=true)
  (hi:PI X (.Name x px) iter wi)
  (ht:∀(C:Addr) (ex:List Addr) (pins:List (Addr×Obj)) (s:Shared) (H:Hp),PF (aaL X (x::N') scope cl C ex pins s H) ifs tt)
  (he:∀(C:Addr) (ex:List Addr) (pins:List (Addr×Obj)) (s:Shared) (H:Hp),PE (aaL X (x::N') scope cl C ex pins s H) elt te)
  (hs:∀x,foldedSetIterable iter X.env x=pure x:=by intro _;rfl):
  PE X (.ListComp elt [⟨.Name x px,iter,ifs,0⟩] scope pos) (aw6 wi js tt te):=by
 intro pins s σ H Q I h
 rw[eval_ListComp]
 refine wpAny_comprehension_free (use:=none) rfl hs hcl.is hcl.kind hcl.names (thn (hi pins s σ H _ I h) fun xv s₁ h₁=>thn h₁ fun itv s₂ h₂=>?_)
 obtain⟨it,fp,tn,J,H2,rfl,I2,T,st,hfp,q⟩:=h₂
 refine ah5 (RR:=fun acc C=>compPost (model X.prog X.w) X.A X.xe none (EP X pins σ Q) acc C) hcl hx hnd hN hk hf hc ht he I2 T st hfp q ?_
 intro D C s' H' m I' hC0 hCL hCs hCc hCp hn hq
 refine⟨m,hn,fun h' sb=>⟨.ref D,H',?_,rfl,hq⟩⟩
 exact I'.turned (t':=s'.toks) (fun b o hb e=>(sb.2 b hb).trans e) hC0 hCL (.inr hCs) hCc hCp
end
theorem aeY(env:Env):∀(names:List (Str×NameKind)) (acc:List (Str×Addr)),names.all (fun y=>y.2 != .free||(env.cells.lookup y.1).isSome)=true->
  ∃cl:List (Str×Addr),(forIn (m:=Sem) names acc fun x r=>(do
   let (name,kind):=x
   if kind== .free then do let c ←cellOf env name;pure (ForInStep.yield ((name,c)::r)) else pure (ForInStep.yield r)))=(pure cl:Sem _)/\
   (∀y c,cl.lookup y=some c->env.cells.lookup y=some c∨acc.lookup y=some c)/\(∀y,(∃c,acc.lookup y=some c)->∃c,cl.lookup y=some c)/\(∀y,(y,NameKind.free)∈names->∃c,cl.lookup y=some c)
 |[],acc,_=>⟨acc,rfl,fun _ _ h=>.inr h,fun _ h=>h,fun _ h=>nomatch h⟩
 |(n,k)::r,acc,h=>by
  rw[List.all_cons,Bool.and_eq_true] at h
  by_cases hk:k=.free
  ·subst hk
   have h1:(env.cells.lookup n).isSome=true:=by simpa using h.1
   obtain⟨c,hc⟩:=Option.isSome_iff_exists.mp h1
   obtain⟨cl,e,p1,p2,p3⟩:=aeY env r ((n,c)::acc) h.2
   refine⟨cl,?_,fun y c' hy=>?_,fun y hy=>?_,fun y hy=>?_⟩
   ·rw[←e]
    have q:cellOf env n=(pure c:Sem Addr):=by unfold cellOf;rw[hc]
    rw[List.forIn_cons]
    dsimp only
    rw[if_pos (show (NameKind.free==NameKind.free)=true from rfl),q]
    rfl
   ·rcases p1 y c' hy with z | z
    ·exact .inl z
    ·rw[List.lookup_cons] at z
     cases hyn:y==n with
     |true=>
      rw[hyn] at z
      have e1:y=n:=by simpa using hyn
      have e2:c=c':=by simpa using z
      rw[e1,←e2]
      exact .inl hc
     |false=>
      rw[hyn] at z
      exact .inr z
   ·refine p2 y ?_
    rw[List.lookup_cons]
    cases hyn:y==n with
    |true=>exact⟨c,rfl⟩
    |false=>exact hy
   ·rcases List.mem_cons.mp hy with z | z
    ·refine p2 y ⟨c,?_⟩
     have e1:y=n:=(Prod.mk.inj z).1
     rw[e1,List.lookup_cons]
     simp
    ·exact p3 y z
  ·obtain⟨cl,e,p1,p2,p3⟩:=aeY env r acc h.2
   have hk':(k==NameKind.free)=false:=by simpa using hk
   refine⟨cl,?_,p1,p2,fun y hy=>?_⟩
   ·rw[←e]
    rw[List.forIn_cons]
    dsimp only
    rw[if_neg (by rw[hk'];exact Bool.false_ne_true)]
    rfl
   ·rcases List.mem_cons.mp hy with z | z
    ·exact absurd (Prod.mk.inj z).2.symm hk
    ·exact p3 y z
theorem aj8{X:Cx}{scope:Scope}(h:scope.names.all (fun y=>y.2 != .free||(X.env.cells.lookup y.1).isSome)=true)(h2:scope.names.all (fun y=>y.2 != .cell)=true)(h3:scope.kind=.function)
  (h4:scope.names.all (fun y=>y.2 != .local||scope.names.lookup y.1==some .local)=true):∃cl,Clos X scope cl:=by
 obtain⟨cl,e,p1,p2,p3⟩:=aeY X.env scope.names [] h
 refine⟨cl,?_,fun y c hy=>?_,fun y hy=>p3 y (PySem.mem_of_lookup hy),fun y hy=>by simpa using List.all_eq_true.mp h2 y hy,h3,fun y hy hl=>?_⟩
 ·unfold closureFor
  exact Eq.trans (congrArg (fun t:Sem (List (Str×Addr))=>t >>=fun r=>(pure r:Sem (List (Str×Addr)))) e) rfl
 ·rcases p1 y c hy with z | z
  ·exact z
  ·simp at z
 ·have q:=List.all_eq_true.mp h4 y hy
  simpa [hl] using q
section
variable{js:List Nat}{σ:St}{tt:TT}{te:TE}{Q:VK}{H1:Hp}
theorem am2{lo:Int}{n:Nat}(R:Nat->List V->Prop)(hn:n<=sizeLine)(h0:R 0 [])
  (hs:∀(i:Nat) (l:List V) (D:Addr) (H2:Hp) (E:V->Hp->Prop) (F:Hp->Prop),i<n->R i l->H1 D=none->Same H1 H2->H2 D=some (.lst l)->(∀y H5,Same H2 H5->R (i+1) (l++[y])->E y H5)->(∀H4,Same H2 H4->R (i+1) l->F H4)->
   tt (some (.int (lo+i))::aaW js σ) H2 fun b H4=>if b=true then te (some (.int (lo+i))::aaW js σ) H4 E else F H4)
  (hd:∀(D:Addr) (H2:Hp) (l:List V),R n l->H1 D=none->Same H1 H2->H2 D=some (.lst l)->Q (.ref D) H2):alK (Itr lo n) js σ tt te Q H1:=by
 intro D hD
 refine⟨fun i m H2=>m=n-i/\i<=n/\Same H1 H2/\∃l,H2 D=some (.lst l)/\l.length<=i/\R i l,⟨n,by simp,Nat.zero_le _,aaB hD _,[],aaA,Nat.le_refl _,h0⟩,?_⟩
 rintro i m H2 ⟨rfl,hi,s2,l,h2,hll,hR⟩
 by_cases hlt:i<n
 ·refine .inr ⟨hlt,fun v H3 y=>?_⟩
  obtain⟨e,ev⟩:=y
  subst e ev
  refine hs i l D _ _ _ hlt hR hD s2 h2 (fun z H5 s5 r5=>?_) (fun H4 s4 r4=>?_)
  ·refine⟨l,s5 _ _ h2,Nat.lt_of_le_of_lt hll (Nat.lt_of_lt_of_le hlt hn),n-(i+1),by omega,rfl,hlt,fun b o hb=>?_,l++[z],aaA,by rw[List.length_append,List.length_singleton];omega,r5⟩
   rw[aaE (aaJ hb hD)]
   exact s5 _ _ (s2 _ _ hb)
  ·exact⟨n-(i+1),by omega,rfl,hlt,s2.trans s4,l,s4 _ _ h2,by omega,r4⟩
 ·have e:i=n:=by omega
  subst e
  exact .inl ⟨Nat.le_refl _,hd D H2 l hR hD s2 h2⟩
end
structure E(X:Cx)(e:Expr)(t:TE):Prop where
 h:PE X e t
structure T(X:Cx)(e:Expr)(t:TT):Prop where
 h:PT X e t
structure TW(X:Cx)(e:Expr)(t:TT):Prop where
 h:PW X e t
structure As(X:Cx)(es:List Expr)(t:TA):Prop where
 h:PA X es t
structure S(X:Cx)(st:Stmt)(t:TS):Prop where
 h:PS X st t
structure Ss(X:Cx)(sts:List Stmt)(t:TS):Prop where
 h:PSs X sts t
structure Il(X:Cx)(tg iter:Expr)(wi:TI):Prop where
 h:PI X tg iter wi
structure Gt(X:Cx)(tg:Expr)(t:TG):Prop where
 h:PG X tg t
structure Gts(X:Cx)(ts:List Expr)(t:TGs):Prop where
 h:PGs X ts t
structure Fs(X:Cx)(ifs:List Expr)(t:TT):Prop where
 h:PF X ifs t
structure Op2(X:Cx)(f:Value->Value->Sem Value)(r:R2):Prop where
 h:OpR X f r
structure Op1(X:Cx)(f:Value->Sem Value)(r:V->Hp->VK->Prop):Prop where
 h:UnR X f r
structure Cl1(X:Cx)(f:Value)(r:List V->Hp->VK->Prop):Prop where
 h:adW X f r
structure Ixs(X:Cx)(r:R2):Prop where
 h:IxR X r
section
variable{X:Cx}{a b c e:Expr}{pos p:Pos}{ta tb tc te:TE}{t u:TT}{rest es:List Expr}{tA:TA}{op op':CmpOp}{r r':R2}{x:Str}
theorem v_(i:Nat)(hN:X.N[i]? =some x:=by rfl)(hv:Vis X.env.scope x:=by first | exact Or.inl rfl | exact Or.inr (Or.inl rfl) | exact Or.inr (Or.inr rfl))(hd:(x==("__debug__":Str))=false:=by decide)(hcd:(x==("__classdict__":Str))=false:=by decide):
  E X (.Name x pos) (az5 i):=⟨aK6 hN hv hd hcd⟩
theorem eI{i j}:E X (.Constant (.int i) j pos) (tC (.int i)):=⟨axE⟩
theorem eB{k j}:E X (.Constant (.bool k) j pos) (tC (.bl k)):=⟨aO0⟩
theorem eN{j}:E X (.Constant .none j pos) (tC .non):=⟨aHH⟩
theorem eGl{v:V}{w':Value}(hm:X.mg x=some w')(q:RelV v w')(hg:Gl X x:=by rfl)(hd:(x==("__debug__":Str))=false:=by decide):E X (.Name x pos) (tC v):=⟨aA2 hg hm q hd⟩
theorem eTy{n:String}(hm:X.mg x=none)(hv:bootBuiltins x=some (.type n))(hg:Gl X x:=by rfl)(hn:x≠"__name__":=by decide)(hd:(x==("__debug__":Str))=false:=by decide):E X (.Name x pos) (tC (.ty n)):=⟨aB6 hg hm hv rfl hn hd⟩
theorem eOp{o:Operator}(ho:Op2 X (binaryOp o) r)(ha:E X a ta)(hb:E X b tb):E X (.BinOp a o b pos) (tOp r ta tb):=⟨aOD ho.h ha.h hb.h⟩
theorem eUn{o:UnaryOp}{r1:V->Hp->VK->Prop}(ho:Op1 X (unaryOp o) r1)(ha:E X a ta):E X (.UnaryOp o a pos) (tUn r1 ta):=⟨aO3 ho.h ha.h⟩
theorem ak8(ho:Op2 X (compareOp op) r)(ha:E X a ta)(hb:E X b tb)(hm:behindInMarks op b=false:=by first | exact axR _ | rfl):E X (.Compare a [op] [b] pos) (tOp r ta tb):=⟨aC0 ho.h ha.h hb.h hm⟩
theorem tCh(ho:Op2 X (compareOp op) r)(ho':Op2 X (compareOp op') r')(ha:E X a ta)(hb:E X b tb)(hc:E X c tc)(hm:lastMarks [op,op'] [b,c]=false:=by with_unfolding_all rfl):T X (.Compare a [op,op'] [b,c] pos) (anQ (avY r r' ta tb tc)):=⟨ayF ho.h ho'.h ha.h hb.h hc.h hm⟩
theorem alB{o}(ha:E X a ta):E X (.BoolOp o [a] pos) ta:=⟨aIV ha.h⟩
theorem amR(ha:E X a ta)(hb:E X (.BoolOp .And (b::rest) pos) tb):E X (.BoolOp .And (a::b::rest) pos) (aE0 ta tb):=⟨aLN ha.h hb.h⟩
theorem eOr(ha:E X a ta)(hb:E X (.BoolOp .Or (b::rest) pos) tb):E X (.BoolOp .Or (a::b::rest) pos) (aOS ta tb):=⟨aOG ha.h hb.h⟩
theorem eNot(ha:E X a ta):E X (.UnaryOp .Not a pos) (aE6 ta):=⟨aF2 ha.h⟩
theorem eIf(hc:T X c t)(ha:E X a ta)(hb:E X b tb):E X (.IfExp c a b pos) (tIf t ta tb):=⟨aw9 hc.h ha.h hb.h⟩
theorem tCm(ho:Op2 X (compareOp op) r)(ha:E X a ta)(hb:E X b tb)(hm:behindInMarks op b=false:=by first | exact axR _ | rfl):T X (.Compare a [op] [b] pos) (anQ (tOp r ta tb)):=⟨aD4 ho.h ha.h hb.h hm⟩
theorem tNo(ha:T X a t):T X (.UnaryOp .Not a pos) (aN5 t):=⟨aIO ha.h⟩
theorem tVa(ha:E X e te)(he:∀whole,isTrue e X.env whole=(do let v ←whole;standAt e.pos;holding [v] (truthy v)):=by intro _;rfl):T X e (L2.tB te):=⟨aK1 ha.h he⟩
theorem aFB(ha:T X a t):TW X (.BoolOp .And [a] pos) t:=⟨aA8 ha.h⟩
theorem acN(ha:T X a t):TW X (.BoolOp .Or [a] pos) t:=⟨aKP ha.h⟩
theorem aO2(ha:T X a t)(hb:TW X (.BoolOp .And (b::rest) pos) u):TW X (.BoolOp .And (a::b::rest) pos) (aOZ t u):=⟨aGO ha.h hb.h⟩
theorem wOr(ha:T X a t)(hb:TW X (.BoolOp .Or (b::rest) pos) u):TW X (.BoolOp .Or (a::b::rest) pos) (tOr t u):=⟨aOA ha.h hb.h⟩
theorem tW(ha:TW X e t):T X e t:=⟨ha.h.pt⟩
theorem aN:As X [] ae4:=⟨aeT⟩
theorem aC(ha:E X e te)(hr:As X es tA)(hs:starEach (e::es) X.env=(false,eval e X.env)::starEach es X.env:=by rfl):As X (e::es) (aiH te tA):=⟨acR ha.h hr.h hs⟩
theorem aE7(is:List Int)(h:es.map ak4=is.map some:=by rfl):As X es (aEY is):=⟨anI is h⟩
theorem abF(ha:As X es tA):E X (.List es pos) (aML tA):=⟨aKN ha.h⟩
theorem ak5{k}(ha:As X es tA):E X (.Tuple es k pos) (aOQ tA):=⟨aGD ha.h⟩
theorem eIx(hr:Ixs X r)(ha:E X a ta)(hb:E X b tb)(hs:anK b:=by intro _ _;rfl):E X (.Subscript a b pos) (tOp r ta tb):=⟨aNB hr.h ha.h hb.h hs⟩
theorem eD{k k':Nat}{ps:List Str}{sp:Sp}(D:Df X.prog X.w X.K X.mg X.base x k ps sp)(hr:Room k' X.A)(ha:As X (e::es) tA)(hk:k<=k':=by decide)(hg:Gl X x:=by rfl)
  (hdb:(x==("__debug__":Str))=false:=by decide) (he:starEach (e::es) X.env=(false,eval e X.env)::starEach es X.env:=by rfl) (hpl:(backTo pos (starEach es X.env)).any (·.1)=false:=by rfl):
  E X (.Call (.Name x p) (e::es) [] pos) (agN sp [] E0 tA):=⟨axB D hr ha.h hk hg hdb he hpl⟩
theorem eCB{id:String}{rc:List V->Hp->VK->Prop}(hc:Cl1 X (.builtin id) rc)(hm:X.mg x=none)(hv:bootBuiltins x=some (.builtin id))(ha:As X (e::es) tA)(hg:Gl X x:=by rfl)(hn:x≠"__name__":=by decide)(hdb:(x==("__debug__":Str))=false:=by decide)
  (he:starEach (e::es) X.env=(false,eval e X.env)::starEach es X.env:=by rfl) (hpl:(backTo pos (starEach es X.env)).any (·.1)=false:=by rfl):E X (.Call (.Name x p) (e::es) [] pos) (tCB rc tA):=⟨ayL hc.h hg hm hv ha.h hn hdb he hpl⟩
theorem eCT{n:String}{rc:List V->Hp->VK->Prop}(hc:Cl1 X (.type n) rc)(hm:X.mg x=none)(hv:bootBuiltins x=some (.type n))(ha:As X (e::es) tA)(hg:Gl X x:=by rfl)(hn:x≠"__name__":=by decide)(hdb:(x==("__debug__":Str))=false:=by decide)
  (he:starEach (e::es) X.env=(false,eval e X.env)::starEach es X.env:=by rfl) (hpl:(backTo pos (starEach es X.env)).any (·.1)=false:=by rfl):E X (.Call (.Name x p) (e::es) [] pos) (tCB rc tA):=⟨as1 hc.h hg hm hv ha.h hn hdb he hpl⟩
end
section
variable{X:Cx}
theorem ahX:Op2 X (binaryOp .Add) (rI0 fun i j=>.int (i+j)):=⟨aK5⟩
theorem aH6:Op2 X (binaryOp .Sub) (rI0 fun i j=>.int (i-j)):=⟨aIS⟩
theorem av1:Op2 X (binaryOp .Mult) (rI CMul fun i j=>.int (i*j)):=⟨aKW⟩
theorem aC4:Op2 X (binaryOp .FloorDiv) (rI aMZ fun i j=>.int (i / j)):=⟨aDN⟩
theorem ah7:Op2 X (binaryOp .Mod) (rI (fun _ j=>0<j) fun i j=>.int (i%j)):=⟨aLH⟩
theorem aKJ:Op2 X (binaryOp .Pow) (rI aC3 fun i j=>.int (i^j.toNat)):=⟨aJ7⟩
theorem aMW:Op2 X (binaryOp .LShift) (rI aC3 fun i j=>.int (i*2^j.toNat)):=⟨aK2⟩
theorem aO5:Op2 X (binaryOp .RShift) (rI (fun _ j=>0<=j) fun i j=>.int (i / 2^j.toNat)):=⟨aHX⟩
theorem aOC:Op2 X (binaryOp .BitAnd) (rI0 fun i j=>.int (Builtin.bitAnd i j)):=⟨aFF⟩
theorem oOr:Op2 X (binaryOp .BitOr) (rI0 fun i j=>.int (Builtin.bitOr i j)):=⟨aOY⟩
theorem aL7:Op2 X (binaryOp .Add) aMI:=⟨aFM⟩
theorem oEq:Op2 X (compareOp .Eq) rEq:=⟨aN7⟩
theorem oNe:Op2 X (compareOp .NotEq) rNe:=⟨aNF⟩
theorem oLt:Op2 X (compareOp .Lt) (rI0 fun i j=>.bl (decide (i<j))):=⟨aM1⟩
theorem oLe:Op2 X (compareOp .LtE) (rI0 fun i j=>.bl (decide (i<=j))):=⟨aNU⟩
theorem oGt:Op2 X (compareOp .Gt) (rI0 fun i j=>.bl (decide (j<i))):=⟨aOT⟩
theorem xL:Ixs X (aNK X.K):=⟨aB5⟩
theorem xT:Ixs X (aMP X.K):=⟨aF8⟩
theorem ahQ:Cl1 X (.builtin "len") (fun xs H Q=>∃p ys,xs=[.ref p]/\(SqL X.K H p ys∨SqT X.K H p ys)/\Q (.int ys.length) H):=⟨aj0⟩
theorem cAbs:Cl1 X (.builtin "abs") (fun xs H Q=>∃i,xs=[.int i]/\Q (.int (if i<0 then -i else i)) H):=⟨axL⟩
theorem cMax(hc:X.calm=true:=by rfl):Cl1 X (.builtin "max") (fun xs H Q=>∃i j,xs=[.int i,.int j]/\Q (.int (if j>i then j else i)) H):=⟨ap6 hc⟩
theorem cMin(hc:X.calm=true:=by rfl):Cl1 X (.builtin "min") (fun xs H Q=>∃i j,xs=[.int i,.int j]/\Q (.int (if j<i then j else i)) H):=⟨aoU hc⟩
end
section
variable{X:Cx}{e c iter tg:Expr}{te:TE}{tt:TT}{tA:TA}{wi:TI}{g:TG}{t u tb:TS}{st:Stmt}{rest body ba bb:List Stmt}{pos pos' p:Pos}{x:Str}{a1 a2:Expr}
theorem ssN:Ss X [] aE9:=⟨aEL⟩
theorem ssC(h1:S X st t)(h2:Ss X rest u):Ss X (st::rest) (aNC t u):=⟨av2 h1.h h2.h⟩
theorem ss1(h1:S X st t):Ss X [st] t:=⟨aBR h1.h⟩
theorem amI:S X st avP:=⟨at3⟩
theorem aaH(he:E X e te):S X (.Return (some e) pos) (aL9 te):=⟨aJI he.h⟩
theorem sIf(hc:T X c tt)(ha:Ss X ba t)(hb:Ss X bb u):S X (.If c ba bb pos) (aNH tt t u):=⟨aMB hc.h ha.h hb.h⟩
theorem anD(he:E X e te)(hs:swapsWith e none pos.line X.env=pure false:=by rfl):S X (.Expr e pos) (aE1 te):=⟨aA6 he.h hs⟩
theorem aaN(i:Nat)(he:E X e te)(hN:X.N.Nodup)(hi:X.N[i]? =some x:=by rfl)(hx:Loc X.env.scope x:=by first | exact Or.inl rfl | exact Or.inr rfl)(hs:swapsWith e (some (.Name x pos')) pos.line X.env=pure false:=by rfl)
  (hf:X.fn x=true∨X.env.scope.names.lookup x=some .local:=by first | exact .inl rfl | exact .inr rfl):S X (.Assign [.Name x pos'] e pos) (aL0 te (afK i)):=⟨aLL hN hi hx he.h hs hf⟩
theorem gN(i:Nat)(hN:X.N.Nodup)(hi:X.N[i]? =some x:=by rfl)(hx:Loc X.env.scope x:=by first | exact Or.inl rfl | exact Or.inr rfl)(hf:X.fn x=true∨X.env.scope.names.lookup x=some .local:=by first | exact .inl rfl | exact .inr rfl):Gt X (.Name x pos) (afK i):=⟨aAO hN hi hx hf⟩
theorem alM(hi:Il X tg iter wi)(hg:Gt X tg g)(hb:Ss X body tb)(hp:PassesOwn (model X.prog X.w) X.A X.env X.xe)(hc:X.calm=true:=by rfl)(hs:∀x,foldedSetIterable iter X.env x=pure x:=by intro _;rfl):S X (.For tg iter body [] pos) (aON wi g tb):=⟨aFL hp hc hi.h hg.h hb.h hs⟩
theorem sWh(hc:T X c tt)(hb:Ss X body tb)(hp:PassesOwn (model X.prog X.w) X.A X.env X.xe):S X (.While c body [] pos) (amU tt tb):=⟨ayE hp hc.h hb.h⟩
theorem iL(hl:E X e te):Il X tg e (aEU X.K te):=⟨aAG hl.h⟩
theorem iT(hl:E X e te):Il X tg e (aOF X.K te):=⟨aJN hl.h⟩
theorem iR1(hm:X.mg "range"=none)(ha:As X [a1] tA)(hg:Gl X "range":=by rfl)(hs:starEach [a1] X.env=[(false,eval a1 X.env)]:=by rfl):Il X tg (.Call (.Name "range" p) [a1] [] pos) (aEV tA):=⟨ao2 hg hm ha.h hs⟩
theorem iR2(hm:X.mg "range"=none)(ha:As X [a1,a2] tA)(hg:Gl X "range":=by rfl)(hs:starEach [a1,a2] X.env=[(false,eval a1 X.env),(false,eval a2 X.env)]:=by rfl)(hs2:starEach [a2] X.env=[(false,eval a2 X.env)]:=by rfl):
  Il X tg (.Call (.Name "range" p) [a1,a2] [] pos) (aET tA):=⟨arD hg hm ha.h hs hs2⟩
end
section
variable{P:Program}{w:World}{K:PySem.W.Frag}{mg:Str->Option Value}{base:Heap}{x:Str}{st:Stmt}{ps N:List Str}{k:Nat}{sp:Sp}
theorem Fn.dfs(F:Fn K mg x st ps)(S':FnScope N ps (aaC st))(len:∀vs H Q E,sp vs H Q E->vs.length=ps.length)
  (hbody:∀(f:Addr) (cdv:Value) (A:Around) (outer:List Env) (s:Shared) (H:Hp) (vs:List V) (Q:VK) (E:XK),Room k (A.deeper (envOfC x (aaC st) s.heap.objs.size f cdv))->sp vs H Q E->
   ∃t,Ss (acG CX0 P w K mg base N x (aaC st) f cdv A outer s H E).nox (aaT st) t/\t {nx:=fun _ H'=>Q .non H',rt:=Q} (start N vs) H):Df P w K mg base x (k+1) ps sp:=
 F.df S' len fun f cdv A outer s H vs Q E hr h=>by
  obtain⟨t,h1,h2⟩:=hbody f cdv A outer s H vs Q E hr h
  exact⟨t,h1.h,h2⟩
theorem Fun.oks{f:Addr}{fd:FuncData}(F:Fun K x x st f fd)(S':FnScope N ps (aaC st))(len:∀vs H Q E,sp vs H Q E->vs.length=ps.length)
  (hbody:∀(cdv:Value) (A:Around) (outer:List Env) (s:Shared) (H:Hp) (vs:List V) (Q:VK) (E:XK),Room k (A.deeper (envOfC x (aaC st) s.heap.objs.size f cdv))->sp vs H Q E->
   ∃t,Ss (acG CX0 P w K mg base N x (aaC st) f cdv A outer s H E).nox (aaT st) t/\t {nx:=fun _ H'=>Q .non H',rt:=Q} (start N vs) H):FnOk P w K mg base CX0 (k+1) f fd ps sp:=
 F.ok S' len fun cdv A outer s H vs Q E hr h=>by
  obtain⟨t,h1,h2⟩:=hbody cdv A outer s H vs Q E hr h
  exact⟨t,h1.h,h2⟩
end
end L2
namespace L2
open PySem PySem.Spec PyProof.Rows PySem.SeqAt
theorem abK:∀{is:List Int} {us:List Value},Vals (is.map V.int) us->IntsAre us is
 |[],_,.nil=>.nil
 |_::_,_,.cons ⟨_,rfl⟩ r=>.cons _ _ (abK r)
section
variable{X:Cx}
theorem aqX(hc:X.calm=true):adW X (.builtin "sum") (fun xs H Q=>∃(p:Addr) (is:List Int),xs=[.ref p]/\SqL X.K H p (is.map V.int)/\Q (.int is.sum) H):=by
 intro pins s σ H xs us Q I r h
 obtain⟨p,is,rfl,hq,q⟩:=h
 obtain⟨u,rfl,r1⟩:=ab8 r
 cases r1
 obtain⟨its,rv,pl,hz⟩:=I.list hq
 have hi:=abK rv
 obtain⟨ys,hy⟩:=hi.allInts.items
 have hl:s.heap.IsList p (intItems ys):=by rw[←hy];exact pl.isList
 refine sum_intListG (I.ok.hd hc) hl fun h' tk t' hk=>?_
 have e1:is=ys.toList.map (·.1):=by
  rw[←nums_intItems,←hy]
  exact hi.numsOf.symm
 have e2:preSum (numAt ys) ys.size=is.sum:=by
  rw[preSum_eq,List.take_of_length_le (by simp),e1]
 rw[e2]
 exact⟨.int is.sum,H,I.kept hk,⟨_,rfl⟩,q⟩
def arF(tup:Bool)(is:List Int):PyData:=if tup then .tuple (is.map PyData.int) else .list (is.map PyData.int)
def SqI(K:PySem.W.Frag)(H:Hp)(a:Addr)(tup:Bool)(is:List Int):Prop:=if tup then SqT K H a (is.map V.int) else SqL K H a (is.map V.int)
theorem at6{pins:List (Addr×Obj)}{σ:St}{H:Hp}{s:Shared}{a:Addr}{tup:Bool}{is:List Int}(I:Inv X pins σ H s)(h:SqI X.K H a tup is):∃as,Reads s.heap (.ref a) (arF tup is) as:=by
 cases tup with
 |false=>
  obtain⟨its,rv,pl,hz⟩:=I.list (show SqL X.K H a (is.map V.int) from h)
  exact⟨_,PySem.W.reads_of_ints pl.isList (abK rv)⟩
 |true=>
  obtain⟨its,rv,⟨o,ho,hc,n,hd⟩,hz⟩:=I.tuple (show SqT X.K H a (is.map V.int) from h)
  exact⟨_,Reads.tuple ho hc hd (by simpa using PySem.W.readsAll_of_ints (abK rv))⟩
theorem anH(tup:Bool)(is:List Int):shaped (arF tup is)=true:=by
 cases tup with
 |false=>exact PySem.W.shaped_ints is
 |true=>
  have h1:=PySem.W.depthAll_ints is
  have h2:PyData.depth (.tuple (is.map PyData.int))<=64:=by simp only[PyData.depth];omega
  show (PyData.canLay0 (.tuple (is.map PyData.int))&&decide (PyData.depth (.tuple (is.map PyData.int))<=64))=true
  rw[Bool.and_eq_true]
  exact⟨by simp only[PyData.canLay0];exact PySem.W.canLayAll0_ints is,decide_eq_true h2⟩
theorem aJO(tup:Bool)(is js:List Int):noMix (arF tup is) (arF tup js)=true:=by
 cases tup with
 |false=>show noMix (.list _) (.list _)=true;simp only[noMix];exact PySem.W.noMix_ints is js
 |true=>show noMix (.tuple _) (.tuple _)=true;simp only[noMix];exact PySem.W.noMix_ints is js
theorem aNS(tup:Bool)(is js:List Int):same (arF tup is) (arF tup js)=decide (is=js):=by
 cases tup with
 |false=>show same (.list _) (.list _)=_;simp only[same];exact PySem.W.same_ints is js
 |true=>show same (.tuple _) (.tuple _)=_;simp only[same];exact PySem.W.same_ints is js
def aO4(K:PySem.W.Frag)(neg:Bool):R2:=fun x y H Q=>∃(a b:Addr) (tup:Bool) (is js:List Int),x=.ref a/\y=.ref b/\SqI K H a tup is/\SqI K H b tup js/\Q (.bl (if neg then !decide (is=js) else decide (is=js))) H
theorem aH1(hu:X.A.units+64<cLine):OpR X (compareOp .Eq) (aO4 X.K false):=by
 intro pins s σ H x y v u Q I rx ry h
 obtain⟨a,b,tup,is,js,rfl,rfl,ha,hb,q⟩:=h
 cases rx
 cases ry
 obtain⟨as,ra⟩:=at6 I ha
 obtain⟨bs,rb⟩:=at6 I hb
 exact eq_dataH_same ra rb (anH _ _) (anH _ _) hu (aJO _ _ _) (by rw[aNS];exact⟨.bl _,H,I,rfl,q⟩)
end
section
variable{X:Cx}{elt iter:Expr}{x y:Str}{px py pos spos:Pos}{ifs:List Expr}{scope:Scope}{wi:TI}{tt:TT}{te:TE}
theorem agR(N':List Str)(js:List Nat)(hi:Il X (.Name x px) iter wi)
  (ht:∀(cl:List (Str×Addr)) (C:Addr) (ex:List Addr) (pins:List (Addr×Obj)) (s:Shared) (H:Hp),Fs (aaL X (x::N') scope cl C ex pins s H) ifs tt)
  (he:∀(cl:List (Str×Addr)) (C:Addr) (ex:List Addr) (pins:List (Addr×Obj)) (s:Shared) (H:Hp),E (aaL X (x::N') scope cl C ex pins s H) elt te)
  (hcl:∃cl,Clos X scope cl:=by exact aj8 rfl rfl rfl rfl) (hx:scope.names.lookup x=some .local:=by rfl) (hnd:(x::N').Nodup:=by decide +kernel) (hN:js.map (fun j=>X.N[j]?)=N'.map some:=by rfl)
  (hk:N'.all (fun y=>(X.env.kindOf y==some .cell)||(X.env.kindOf y==some .free))=true:=by rfl) (hf:N'.all (fun y=>scope.names.lookup y==some .free)=true:=by rfl) (hc:X.calm=true:=by rfl)
  (hs:∀x,foldedSetIterable iter X.env x=pure x:=by intro _;rfl):E X (.ListComp elt [⟨.Name x px,iter,ifs,0⟩] scope pos) (aw6 wi js tt te):=by
 obtain⟨cl,hcl⟩:=hcl
 exact⟨aCM hcl hx hnd hN hk hf hc hi.h (fun C ex pins s H=>(ht cl C ex pins s H).h) (fun C ex pins s H=>(he cl C ex pins s H).h) hs⟩
theorem aNJ(i:Nat)(N':List Str)(js:List Nat)(hi:Il X (.Name x px) iter wi)
  (ht:∀(cl:List (Str×Addr)) (C:Addr) (ex:List Addr) (pins:List (Addr×Obj)) (s:Shared) (H:Hp),Fs (aaL X (x::N') scope cl C ex pins s H) ifs tt)
  (he:∀(cl:List (Str×Addr)) (C:Addr) (ex:List Addr) (pins:List (Addr×Obj)) (s:Shared) (H:Hp),E (aaL X (x::N') scope cl C ex pins s H) elt te)
  (hXN:X.N.Nodup) (hsw:swapsWith (.ListComp elt [⟨.Name x px,iter,ifs,0⟩] scope pos) (some (.Name y py)) spos.line X.env=pure true:=by rfl)
  (hiN:X.N[i]? =some y:=by rfl) (hy:X.env.scope.names.lookup y=some .local:=by rfl)
  (hcl:∃cl,Clos X scope cl:=by exact aj8 rfl rfl rfl rfl) (hx:scope.names.lookup x=some .local:=by rfl) (hnd:(x::N').Nodup:=by decide +kernel) (hN:js.map (fun j=>X.N[j]?)=N'.map some:=by rfl)
  (hk:N'.all (fun y=>(X.env.kindOf y==some .cell)||(X.env.kindOf y==some .free))=true:=by rfl) (hf:N'.all (fun y=>scope.names.lookup y==some .free)=true:=by rfl) (hc:X.calm=true:=by rfl)
  (hs:∀x,foldedSetIterable iter X.env x=pure x:=by intro _;rfl):S X (.Assign [.Name y py] (.ListComp elt [⟨.Name x px,iter,ifs,0⟩] scope pos) spos) (aL0 (aw6 wi js tt te) (afK i)):=by
 obtain⟨cl,hcl⟩:=hcl
 refine⟨fun pins s σ H D I h=>?_⟩
 rw[exec_Assign_Name_used _ _ _ _ hsw]
 refine wpAny_bind (wpAny_standAt (wpAny_bind ?_))
 show wpAny _ X.A (do let _ ←comprehension (.ListComp elt [⟨.Name x px,iter,ifs,0⟩] scope pos) scope X.env _ (newList []) false (eval iter X.env) (some (assign (.Name y py) X.env))) _ _ s
 refine wpAny_bind (wpAny_mono (wpAny_comprehension_free (use:=some (assign (.Name y py) X.env)) (Q:=fun _ s'=>SP X pins D .next s') rfl hs hcl.is hcl.kind hcl.names ?_) (fun _ s' hq=>wpAny_pure (wpAny_pure hq)) fun _ _ z=>z)
 refine thn (hi.h pins s σ H _ I h) fun xv s₁ h₁=>thn h₁ fun itv s₂ h₂=>?_
 obtain⟨it,fp,tn,J,H2,rfl,I2,T,st,hfp,q⟩:=h₂
 refine ah5 (Q:=fun v H'=>D.nx (σ.set i (some v)) H') (RR:=fun acc C=>compPost (model X.prog X.w) X.A X.xe (some (assign (.Name y py) X.env)) (fun _ s'=>SP X pins D .next s') acc C) hcl hx hnd hN hk hf hc (fun C ex pins s H=>(ht cl C ex pins s H).h) (fun C ex pins s H=>(he cl C ex pins s H).h) I2 T st hfp q ?_
 intro D' C s' H' m I' hC0 hCL hCs hCc hCp hn hq
 show wpAny _ _ (assign (.Name y py) X.env (.ref D')) _ _ s'
 refine wpAny_assign_Name (ajG I' hXN hiN (.inl hy) (v:=.ref D') rfl (fun s3 I3 sb3=>?_) (.inr hy))
 obtain⟨a3,sb3,e3⟩:=sb3
 have hCa:C≠a3:=by
  rcases e3 with e3 | e3
  ·rw[e3];exact hCL
  ·exact fun z=>hCc y a3 e3 z.symm
 refine⟨m,hn.sameBut sb3 hCa,fun h' sb=>⟨σ.set i (some (.ref D')),H',?_,hq⟩⟩
 exact I3.turned (t':=s3.toks) (fun b o hb e=>(sb.2 b hb).trans e) hC0 hCL (.inr hCs) hCc hCp
theorem fsN:Fs X [] aNA:=⟨aJY⟩
theorem fs1{c:Expr}(h:T X c tt):Fs X [c] tt:=⟨aJ8 h.h⟩
theorem aOU(hc:X.calm=true:=by rfl):Cl1 X (.builtin "sum") (fun xs H Q=>∃(p:Addr) (is:List Int),xs=[.ref p]/\SqL X.K H p (is.map V.int)/\Q (.int is.sum) H):=⟨aqX hc⟩
theorem oEqI(hu:X.A.units+64<cLine):Op2 X (compareOp .Eq) (aO4 X.K false):=⟨aH1 hu⟩
theorem gTu{es:List Expr}{k n:Nat}{t:TGs}(h:Gts X es t)(hc:X.calm=true:=by rfl)(hn:(assignEach es X.env).length=n:=by rfl)(hst:(assignEach es X.env).findIdx? (·.1)=none:=by rfl):Gt X (.Tuple es k pos) (aBW X.K n t):=⟨aKB hc h.h hn hst⟩
theorem gsN:Gts X [] aLU:=⟨azL⟩
theorem gsC{e:Expr}{es:List Expr}{t:TG}{u:TGs}(h1:Gt X e t)(h2:Gts X es u)(hs:(assignEach (e::es) X.env).map (·.2)=assign e X.env::(assignEach es X.env).map (·.2):=by rfl):Gts X (e::es) (an0 t u):=⟨awU h1.h h2.h hs⟩
end
section
variable{js:List Nat}{σ:St}{tt:TT}{te:TE}{Q:VK}{H1:Hp}
theorem acI{K:PySem.W.Frag}{a:Addr}{xs:List V}(R:Nat->List V->Prop)(hn:xs.length<=sizeLine)(h0:R 0 [])(hq:SqL K H1 a xs)
  (hs:∀(i:Nat) (v:V) (l:List V) (D:Addr) (H2:Hp) (E:V->Hp->Prop) (F:Hp->Prop),xs[i]? =some v->R i l->H1 D=none->Same H1 H2->H2 D=some (.lst l)->(∀y H5,Same H2 H5->R (i+1) (l++[y])->E y H5)->(∀H4,Same H2 H4->R (i+1) l->F H4)->
   tt (some v::aaW js σ) H2 fun b H4=>if b=true then te (some v::aaW js σ) H4 E else F H4)
  (hd:∀(D:Addr) (H2:Hp) (l:List V),R xs.length l->H1 D=none->Same H1 H2->H2 D=some (.lst l)->Q (.ref D) H2):alK (Itl K a) js σ tt te Q H1:=by
 intro D hD
 refine⟨fun i m H2=>m=xs.length-i/\i<=xs.length/\Same H1 H2/\∃l,H2 D=some (.lst l)/\l.length<=i/\R i l,⟨xs.length,by simp,Nat.zero_le _,aaB hD _,[],aaA,Nat.le_refl _,h0⟩,?_⟩
 rintro i m H2 ⟨rfl,hi,s2,l,h2,hll,hR⟩
 by_cases hlt:i<xs.length
 ·refine .inr ⟨⟨xs,xs[i],s2.seq hq,by simp[hlt]⟩,fun v H3 y=>?_⟩
  obtain⟨e,ev⟩:=y
  subst e
  have hv:=ev xs (s2.seq hq)
  refine hs i v l D _ _ _ hv hR hD s2 h2 (fun z H5 s5 r5=>?_) (fun H4 s4 r4=>?_)
  ·refine⟨l,s5 _ _ h2,Nat.lt_of_le_of_lt hll (Nat.lt_of_lt_of_le hlt hn),xs.length-(i+1),by omega,rfl,hlt,fun b o hb=>?_,l++[z],aaA,by rw[List.length_append,List.length_singleton];omega,r5⟩
   rw[aaE (aaJ hb hD)]
   exact s5 _ _ (s2 _ _ hb)
  ·exact⟨xs.length-(i+1),by omega,rfl,hlt,s2.trans s4,l,s4 _ _ h2,by omega,r4⟩
 ·have e:i=xs.length:=by omega
  subst e
  exact .inl ⟨⟨xs,s2.seq hq,Nat.le_refl _⟩,hd D H2 l hR hD s2 h2⟩
def IntsR(i:Nat)(l:List V):Prop:=∃zs:List Int,l=zs.map V.int/\zs.length<=i
theorem IntsR.nil:IntsR 0 []:=⟨[],rfl,Nat.le_refl _⟩
theorem IntsR.one{i:Nat}{l:List V}(h:IntsR i l)(z:Int):IntsR (i+1) (l++[.int z]):=by
 obtain⟨zs,rfl,hl⟩:=h
 exact⟨zs++[z],by rw[List.map_append];rfl,by rw[List.length_append,List.length_singleton];omega⟩
theorem Same.tup{K:PySem.W.Frag}{H H':Hp}{a:Addr}{xs:List V}(e:Same H H')(h:SqT K H a xs):SqT K H' a xs:=by
 rcases h with (h | ⟨o,h⟩) | h
 ·exact .inl (.inl (e _ _ h))
 ·exact .inl (.inr ⟨o,e _ _ h⟩)
 ·exact .inr h
theorem arW{c:TT}{tb:TS}{D:Ends}{σ:St}{H:Hp}(Pv:St->Hp->Prop)(μ:St->Hp->Nat)(h0:Pv σ H)
  (hs:∀σ H,Pv σ H->c σ H fun b H1=>if b=true then ∃N:St->Hp->Prop,(∀σ' H',N σ' H'->∃m',m'<μ σ H/\m'=μ σ' H'/\Pv σ' H')/\tb {D with nx:=N,ct:=N,bk:=D.nx} σ H1 else D.nx σ H1):amU c tb D σ H:=
 ⟨fun m σ H=>m=μ σ H/\Pv σ H,⟨_,rfl,h0⟩,by
  rintro m σ H ⟨rfl,p⟩
  exact hs σ H p⟩
theorem aEK{X:Cx}:Op1 X (unaryOp .USub) (rU fun i=>.int (-i)):=⟨aI9⟩
end
section
variable{prog:Program}{w:World}{A:Around}{E:Value->Shared->Prop}{s:Shared}
end
section
variable{X:Cx}{pos:Pos}
theorem av8{o e:Expr}{to te:TE}{apos cpos:Pos}(ho:E X o to)(he:E X e te)(hbase:attributeBase o "append" X.env (eval o X.env)=eval o X.env:=by rfl)
  (hfew:((backTo cpos (starEach [e] X.env)).all (fun x=> !x.1)&&(backToKw cpos (keywordEach [] X.env)).all (fun x=>x.1.isSome)&&decide (([e]:List Expr).length+([]:List Keyword).length+(if ([]:List Keyword).isEmpty then 0 else 1)<30))=true:=by rfl)
  (hline:(apos.endLine==cpos.line)=true:=by rfl) (hs:starEach [e] X.env=(false,eval e X.env)::starEach [] X.env:=by rfl) (hplain:(backTo cpos (starEach [] X.env)).any (·.1)=false:=by rfl):
  E X (.Call (.Attribute o "append" apos) [e] [] cpos) (tBM X.K "list" aoC to (aiH te ae4)):=
 ⟨an2 PySem.F.plainAttrs_list PySem.F.slot_list_append PySem.F.type_list_append afY ho.h (acR he.h aeT hs) hbase hfew hline hs hplain⟩
end
section
variable{js:List Nat}{σ:St}{tt:TT}{te:TE}{Q:VK}{H1:Hp}
theorem alD{K:PySem.W.Frag}{a:Addr}{xs:List V}(R:Nat->List V->Prop)(hn:xs.length<=sizeLine)(h0:R 0 [])(hq:SqT K H1 a xs)
  (hs:∀(i:Nat) (v:V) (l:List V) (D:Addr) (H2:Hp) (E:V->Hp->Prop) (F:Hp->Prop),xs[i]? =some v->R i l->H1 D=none->Same H1 H2->H2 D=some (.lst l)->(∀y H5,Same H2 H5->R (i+1) (l++[y])->E y H5)->(∀H4,Same H2 H4->R (i+1) l->F H4)->
   tt (some v::aaW js σ) H2 fun b H4=>if b=true then te (some v::aaW js σ) H4 E else F H4)
  (hd:∀(D:Addr) (H2:Hp) (l:List V),R xs.length l->H1 D=none->Same H1 H2->H2 D=some (.lst l)->Q (.ref D) H2):alK (Itt K a) js σ tt te Q H1:=by
 intro D hD
 refine⟨fun i m H2=>m=xs.length-i/\i<=xs.length/\Same H1 H2/\∃l,H2 D=some (.lst l)/\l.length<=i/\R i l,⟨xs.length,by simp,Nat.zero_le _,aaB hD _,[],aaA,Nat.le_refl _,h0⟩,?_⟩
 rintro i m H2 ⟨rfl,hi,s2,l,h2,hll,hR⟩
 by_cases hlt:i<xs.length
 ·refine .inr ⟨⟨xs,xs[i],s2.tup hq,by simp[hlt]⟩,fun v H3 y=>?_⟩
  obtain⟨e,ev⟩:=y
  subst e
  have hv:=ev xs (s2.tup hq)
  refine hs i v l D _ _ _ hv hR hD s2 h2 (fun z H5 s5 r5=>?_) (fun H4 s4 r4=>?_)
  ·refine⟨l,s5 _ _ h2,Nat.lt_of_le_of_lt hll (Nat.lt_of_lt_of_le hlt hn),xs.length-(i+1),by omega,rfl,hlt,fun b o hb=>?_,l++[z],aaA,by rw[List.length_append,List.length_singleton];omega,r5⟩
   rw[aaE (aaJ hb hD)]
   exact s5 _ _ (s2 _ _ hb)
  ·exact⟨xs.length-(i+1),by omega,rfl,hlt,s2.trans s4,l,s4 _ _ h2,by omega,r4⟩
 ·have e:i=xs.length:=by omega
  subst e
  exact .inl ⟨⟨xs,s2.tup hq,Nat.le_refl _⟩,hd D H2 l hR hD s2 h2⟩
end
def Digs(ds ss:List Int):Prop:=Paired (fun d z:Int=>0<=d/\d<z) ds ss
theorem Digs.snoc{ds ss:List Int}{d z:Int}(h:Digs ds ss)(h0:0<=d)(h1:d<z):Digs (ds++[d]) (ss++[z]):=Paired.snoc h ⟨h0,h1⟩
theorem Digs.len{ds ss:List Int}(h:Digs ds ss):ds.length=ss.length:=Paired.length h
theorem Digs.two{ds:List Int}{a b:Int}(h:Digs ds [a,b]):∃x y:Int,ds=[x,y]/\(0<=x/\x<a)/\0<=y/\y<b:=by
 cases h with
 |cons h1 r=>cases r with | cons h2 r=>cases r;exact⟨_,_,rfl,h1,h2⟩
theorem ab2{H H2:Hp}{p:Addr}{o:HO}(hn:H p=none)(s:Same H H2):Same H (upd H2 p o):=fun b u h=>by
 rw[aaE (aaJ h hn)]
 exact s b u h
theorem aNZ{a m b:Int}(h0:0<m)(h1:m<=18446744073709551616):CMul (a%m) b:=.inl ⟨Int.lt_of_lt_of_le (by decide) (Int.emod_nonneg a (Int.ne_of_gt h0)),Int.lt_of_lt_of_le (Int.emod_lt_of_pos a h0) h1⟩
theorem aOL:(10:Int)^(18:Int).toNat=1000000000000000000:=by decide +kernel
structure FnM(K:PySem.W.Frag)(C:Addr)(m qual:Str)(st:Stmt)(ps:List Str):Prop where
 ex:∃(f:Addr) (fd:FuncData),Fun K m qual st f fd/\Binds K fd ps []/\Meth K C m f
structure DfM(P:Program)(w:World)(K:PySem.W.Frag)(mg:Str->Option Value)(base:Heap)(C:Addr)(m:Str)(k:Nat)(ps:List Str)(sp:Sp):Prop where
 ex:∃(f:Addr) (fd:FuncData),FnOk P w K mg base CX0 k f fd ps sp/\Binds K fd ps []/\Meth K C m f
structure Cd(K:PySem.W.Frag)(mg:Str->Option Value)(x:Str)(C:Addr):Prop where
 at_:mg x=some (.ref C)
 cl:Cls K C
 makes:PySem.W.makesIn K C=true
 kp:PySem.W.keepIn K (.ref C)=true
section
variable{P:Program}{w:World}{K:PySem.W.Frag}{mg:Str->Option Value}{base:Heap}{m qual:Str}{st:Stmt}{ps N:List Str}{k:Nat}{sp:Sp}{C:Addr}
theorem FnM.dfs(F:FnM K C m qual st ps)(S':FnScope N ps (aaC st))(len:∀vs H Q E,sp vs H Q E->vs.length=ps.length)
  (hbody:∀(f:Addr) (cdv:Value) (A:Around) (outer:List Env) (s:Shared) (H:Hp) (vs:List V) (Q:VK) (E:XK),Room k (A.deeper (envOfC qual (aaC st) s.heap.objs.size f cdv))->sp vs H Q E->
   ∃t,Ss (acG CX0 P w K mg base N qual (aaC st) f cdv A outer s H E).nox (aaT st) t/\t {nx:=fun _ H'=>Q .non H',rt:=Q} (start N vs) H):DfM P w K mg base C m (k+1) ps sp:=by
 obtain⟨f,fd,F1,hb,hm⟩:=F.ex
 refine⟨⟨f,fd,F1.ok S' len fun cdv A outer s H vs Q E hr h=>?_,hb,hm⟩⟩
 obtain⟨t,h1,h2⟩:=hbody f cdv A outer s H vs Q E hr h
 exact⟨t,h1.h,h2⟩
theorem aaZ{f:Addr}{oc:Value}{od an:Option Addr}{osl:Array (Option Value)}{kV doc pm cdv ct:Value}
  (a:PySem.W.findIn K (.ref C) m=some (some (.ref f))) (i:PySem.W.isFn K (.ref f)=true) (l:K.lookup f=some ⟨oc,od,.func (PySem.W.fnOf m qual (aa9 st) (aaT st) (aaC st) .none kV doc pm an cdv ct),osl⟩)
  (c:PySem.W.codeIn K cdv qual=true) (k:PySem.W.keepIn K (.ref f)=true)
  (hb:∀(kV doc pm:Value) (an:Option Addr) (cdv ct:Value) (us:List Value),us.length=ps.length->bindArgs (PySem.W.fnOf m qual (aa9 st) (aaT st) (aaC st) .none kV doc pm an cdv ct) ⟨us,[]⟩=pure (ps.zip us)):FnM K C m qual st ps:=by
 have F:=amY (st:=st) l c k
 exact⟨⟨f,_,F,F.binds (ps:=ps) hb,⟨a,i,k⟩⟩⟩
end
section
variable{X:Cx}{x m:Str}{C:Addr}{k k':Nat}{ps:List Str}{sp:Sp}{e o value:Expr}{es:List Expr}{ta tv:TE}{t:TA}{p pos apos pos':Pos}{f:Str}
theorem eMk(c:Cd X.K X.mg x C)(D:DfM X.prog X.w X.K X.mg X.base C "__init__" k ps sp)(hr:Room k' X.A)(ha:As X (e::es) t)(hk:k+1<=k':=by decide)(hg:Gl X x:=by rfl)(hdb:(x==("__debug__":Str))=false:=by decide)
  (he:starEach (e::es) X.env=(false,eval e X.env)::starEach es X.env:=by rfl) (hpl:(backTo pos (starEach es X.env)).any (·.1)=false:=by rfl):E X (.Call (.Name x p) (e::es) [] pos) (ak6 C sp [] E0 t):=by
 obtain⟨f,fd,F,hb,hm⟩:=D.ex
 exact⟨anP ⟨c.makes,hm.at_,hm.fn,c.kp⟩ F (hr.mono hk) hg c.at_ hb .nil ajU ha.h hdb he hpl⟩
theorem eFl(he:E X e ta)(hb:attributeBase e f X.env (eval e X.env)=eval e X.env:=by rfl):E X (.Attribute e f pos) (aNP X.K ta f):=⟨aHB he.h hb⟩
theorem sFl(ha:E X o ta)(hv:E X value tv)(hs:swapsWith value (some (.Attribute o f pos')) pos.line X.env=pure false:=by rfl):S X (.Assign [.Attribute o f pos'] value pos) (aNI X.K ta tv f):=⟨aJZ ha.h hv.h hs⟩
def tMkN(C:Addr):TE:=fun _ H Q=>∀x dx,H x=none->H dx=none->dx≠x->Q (.ref x) (upd (upd H dx (.own x)) x (.ins C dx []))
theorem ac2(c:Cd X.K X.mg x C)(hi:PySem.W.findIn X.K (.ref C) "__init__"=some (some (.builtin "object.__init__")))(hg:Gl X x:=by rfl)(hdb:(x==("__debug__":Str))=false:=by decide):E X (.Call (.Name x p) [] [] pos) (tMkN C):=by
 refine⟨fun pins s σ H Q I h=>?_⟩
 refine wpAny_Call_Name_kw (abY I hg c.at_ ?_ hdb)
 refine PySem.W.callWith_K0 I.kIn c.kp (wpAny_call ?_)
 have hq:=h (s.heap.objs.size+1) s.heap.objs.size (I.hok.fresh (Nat.le_succ _)) (I.hok.fresh (Nat.le_refl _)) (Nat.ne_of_lt (Nat.lt_succ_self _))
 have I2:=Inv.made (C:=C) I
 have e2:((s.heap.push PySem.W.emptyDict).push (PySem.W.instObj C s.heap.objs.size)).get? (s.heap.objs.size+1)=some (PySem.W.instObj C s.heap.objs.size):=by
  have:=Heap.get?_push_size (s.heap.push PySem.W.emptyDict) (o:=PySem.W.instObj C s.heap.objs.size) rfl
  rwa [Heap.size_push] at this
 have Y:=PySem.W.makes_of (M:=model X.prog X.w) I.kIn c.makes
 refine as0 I.kIn c.makes hi (fun self=>PySem.W.Looks.of_pure (PySem.W.oi_bind self)) ?_
 have t1:PySem.W.Looks (model X.prog X.w) ((s.heap.push PySem.W.emptyDict).push (PySem.W.instObj C s.heap.objs.size)) (typeOf (.ref (s.heap.objs.size+1))) (.ref C):=(PySem.W.Looks.ld e2).andThen .now
 have t2:PySem.W.Looks (model X.prog X.w) ((s.heap.push PySem.W.emptyDict).push (PySem.W.instObj C s.heap.objs.size)) (isInstance (.ref (s.heap.objs.size+1)) (.type "object")) true:=t1.andThen (Y.top.keeps fun b o q=>Heap.get?_push_of_some _ (Heap.get?_push_of_some _ q))
 refine codeAny_call_builtin PySem.W.oi_plain PySem.W.entry_oi (@PySem.W.check_slot (model X.prog X.w) _ _ _ "object.__init__" "object" "__init__" (.ref (s.heap.objs.size+1)) [] [] _ PySem.W.oi_kind PySem.W.oi_split t2 (PySem.W.oi_args (.ref (s.heap.objs.size+1))) ?_)
 rw[PySem.W.oi_run]
 exact wpAny_pure (And.intro rfl ⟨V.ref (s.heap.objs.size+1),_,I2,rfl,hq⟩)
end
structure Po(X:Cx)(o:Option Expr)(t:TO):Prop where
 h:PO X o t
structure Sls(X:Cx)(r:V->Option Int->Option Int->Hp->VK->Prop):Prop where
 h:SlR X r
section
variable{X:Cx}{e:Expr}{te:TE}{lo hi:Option Expr}{tl th:TO}{pos p2:Pos}
theorem poN:Po X none anZ:=⟨az6⟩
theorem poS(h:E X e te):Po X (some e) (aE5 te):=⟨aDP h.h⟩
theorem slL:Sls X (aMC X.K):=⟨aDO⟩
theorem eSl{r:V->Option Int->Option Int->Hp->VK->Prop}(hr:Sls X r)(he:E X e te)(hl:Po X lo tl)(hu:Po X hi th):E X (.Subscript e (.Slice lo hi none p2) pos) (tSl r te tl th):=⟨awI hr.h he.h hl.h hu.h⟩
end
structure FunD(K:PySem.W.Frag)(x qual:Str)(st:Stmt)(f:Addr)(fd:FuncData):Prop where
 ex:∃(oc:Value) (od:Option Addr) (dV kV doc pm:Value) (an:Option Addr) (cdv ct:Value) (osl:Array (Option Value)),
  fd=PySem.W.fnOf x qual (aa9 st) (aaT st) (aaC st) dV kV doc pm an cdv ct/\K.lookup f=some ⟨oc,od,.func fd,osl⟩/\PySem.W.codeIn K cdv qual=true
 kp:PySem.W.keepIn K (.ref f)=true
structure FnMD(K:PySem.W.Frag)(C:Addr)(m qual:Str)(st:Stmt)(ps:List Str)(dvs:List V):Prop where
 ex:∃(f:Addr) (fd:FuncData) (ds:List Value),FunD K m qual st f fd/\Binds K fd ps []/\Vals dvs ds/\Binds K fd ps ds/\Meth K C m f
structure DfMD(P:Program)(w:World)(K:PySem.W.Frag)(mg:Str->Option Value)(base:Heap)(C:Addr)(m:Str)(k:Nat)(ps:List Str)(sp:Sp)(dvs:List V):Prop where
 ex:∃(f:Addr) (fd:FuncData) (ds:List Value),FnOk P w K mg base CX0 k f fd ps sp/\Binds K fd ps []/\Vals dvs ds/\Binds K fd ps ds/\Meth K C m f
section
variable{P:Program}{w:World}{K:PySem.W.Frag}{mg:Str->Option Value}{base:Heap}{m qual:Str}{st:Stmt}{ps N:List Str}{k:Nat}{sp:Sp}{C:Addr}{dvs:List V}
theorem DfMD.dfm(D:DfMD P w K mg base C m k ps sp dvs):DfM P w K mg base C m k ps sp:=by
 obtain⟨f,fd,ds,a,b,_,_,e⟩:=D.ex
 exact⟨⟨f,fd,a,b,e⟩⟩
theorem FnMD.dfs(F:FnMD K C m qual st ps dvs)(S':FnScope N ps (aaC st))(len:∀vs H Q E,sp vs H Q E->vs.length=ps.length)
  (hbody:∀(f:Addr) (cdv:Value) (A:Around) (outer:List Env) (s:Shared) (H:Hp) (vs:List V) (Q:VK) (E:XK),Room k (A.deeper (envOfC qual (aaC st) s.heap.objs.size f cdv))->sp vs H Q E->
   ∃t,Ss (acG CX0 P w K mg base N qual (aaC st) f cdv A outer s H E).nox (aaT st) t/\t {nx:=fun _ H'=>Q .non H',rt:=Q} (start N vs) H):DfMD P w K mg base C m (k+1) ps sp dvs:=by
 obtain⟨f,fd,ds,F1,hb,hv,hbd,hm⟩:=F.ex
 refine⟨⟨f,fd,ds,?_,hb,hv,hbd,hm⟩⟩
 obtain⟨oc,od,dV,kV,doc,pm,an,cdv,ct,osl,rfl,lk,hcd⟩:=F1.ex
 refine anL lk hcd S' len fun A outer s H vs Q E hr hsp=>?_
 obtain⟨t,h,q⟩:=hbody f cdv A outer s H vs Q E hr hsp
 exact⟨t,h.h.nox,q⟩
theorem aDB{f:Addr}{oc:Value}{od an:Option Addr}{osl:Array (Option Value)}{dV kV doc pm cdv ct:Value}{ds:List Value}
  (a:PySem.W.findIn K (.ref C) m=some (some (.ref f))) (i:PySem.W.isFn K (.ref f)=true) (l:K.lookup f=some ⟨oc,od,.func (PySem.W.fnOf m qual (aa9 st) (aaT st) (aaC st) dV kV doc pm an cdv ct),osl⟩)
  (c:PySem.W.codeIn K cdv qual=true) (k:PySem.W.keepIn K (.ref f)=true)
  (hb:Binds K (PySem.W.fnOf m qual (aa9 st) (aaT st) (aaC st) dV kV doc pm an cdv ct) ps []) (hv:Vals dvs ds) (hd:Binds K (PySem.W.fnOf m qual (aa9 st) (aaT st) (aaC st) dV kV doc pm an cdv ct) ps ds):FnMD K C m qual st ps dvs:=
 ⟨⟨f,_,ds,⟨⟨oc,od,dV,kV,doc,pm,an,cdv,ct,osl,rfl,l,c⟩,k⟩,hb,hv,hd,⟨a,i,k⟩⟩⟩
end
section
variable{X:Cx}{x:Str}{C:Addr}{k k':Nat}{ps:List Str}{sp:Sp}{p pos:Pos}{dvs:List V}
theorem eMkD(c:Cd X.K X.mg x C)(D:DfMD X.prog X.w X.K X.mg X.base C "__init__" k ps sp dvs)(hr:Room k' X.A)(hk:k+1<=k':=by decide)(hg:Gl X x:=by rfl)(hdb:(x==("__debug__":Str))=false:=by decide):
  E X (.Call (.Name x p) [] [] pos) (ak6 C sp dvs E0 ae4):=by
 obtain⟨f,fd,ds,F,_,hv,hb,hm⟩:=D.ex
 exact⟨ayM ⟨c.makes,hm.at_,hm.fn,c.kp⟩ F (hr.mono hk) hg c.at_ hb hv ajU hdb⟩
end
theorem aaF{H:Hp}{xo dx:Addr}{a b:HO}(nx:H xo=none)(ndx:H dx=none):Same H (upd (upd H dx a) xo b):=fun z u hb=>by
 rw[aaE (aaJ hb nx),aaE (aaJ hb ndx)]
 exact hb
theorem ab3{H:Hp}{xo dx:Addr}{a b c:HO}(nx:H xo=none)(ndx:H dx=none):Same H (upd (upd (upd H dx a) xo b) xo c):=fun z u hb=>by
 rw[aaE (aaJ hb nx)]
 exact aaF nx ndx z u hb
theorem au5{H:Hp}{xo dx:Addr}{a b c d:HO}(nx:H xo=none)(ndx:H dx=none):Same H (upd (upd (upd (upd H dx a) xo b) xo c) xo d):=fun z u hb=>by
 rw[aaE (aaJ hb nx)]
 exact ab3 nx ndx z u hb
end L2
namespace L2
open PySem PyProof.Rows
def aMN(p:Nat->Bool):Nat->Nat
 |0=>0
 |n+1=>aMN p n+(if p n=true then 2^n else 0)
@[irreducible] def cnt(p:Nat->Bool)(n:Nat):Nat:=aMN p n
theorem al6(p:Nat->Bool):cnt p 0=0:=by rw[cnt];rfl
theorem al0(p:Nat->Bool)(n:Nat):cnt p (n+1)=cnt p n+(if p n=true then 2^n else 0):=by rw[cnt,cnt];rfl
theorem am9(p:Nat->Bool):∀n,cnt p n<2^n
 |0=>by rw[al6];decide
 |n+1=>by
  have h:=am9 p n
  rw[al0,Nat.pow_succ]
  split<;>omega
theorem an1(p:Nat->Bool):∀n i,(cnt p n).testBit i=(decide (i<n)&&p i)
 |0,i=>by rw[al6];simp
 |n+1,i=>by
  have h:=am9 p n
  have ih:=an1 p n i
  rw[al0]
  by_cases hp:p n=true
  ·rw[if_pos hp,Nat.add_comm]
   rcases Nat.lt_trichotomy i n with hi | hi | hi
   ·rw[Nat.testBit_two_pow_add_gt hi,ih]
    simp[hi,Nat.lt_succ_of_lt hi]
   ·subst hi
    rw[Nat.testBit_two_pow_add_eq,ih]
    simp[hp]
   ·have h2:2^n+cnt p n<2^i:=Nat.lt_of_lt_of_le (by rw[Nat.pow_succ];omega) (Nat.pow_le_pow_right (by decide) hi)
    rw[Nat.testBit_lt_two_pow h2]
    have:¬i<n+1:=by omega
    simp[this]
  ·rw[if_neg hp,Nat.add_zero,ih]
   by_cases e:i=n
   ·subst e
    simp[hp]
   ·have:(i<n+1)↔(i<n):=by omega
    simp[this]
def tb(m:Int)(i:Nat):Bool:=m.toNat.testBit i
theorem abR(k:Nat):((2^k:Nat):Int)=(2:Int)^k:=by rw[Int.natCast_pow];rfl
theorem ak1(k:Nat):(0:Int)<2^k:=by rw[←abR];exact Int.natCast_pos.mpr (Nat.two_pow_pos k)
theorem an8{m:Int}(h:0<=m)(k:Nat):m / 2^k=((m.toNat >>> k:Nat):Int):=by
 obtain⟨n,rfl⟩:=Int.eq_ofNat_of_zero_le h
 rw[Int.toNat_natCast,Nat.shiftRight_eq_div_pow,←abR,Int.natCast_ediv]
theorem anT(a b:Nat):Builtin.bitAnd (a:Int) (b:Int)=((a&&& b:Nat):Int):=bitAnd_pp (Int.natCast_nonneg a) (Int.natCast_nonneg b)
theorem auG(a b:Nat):Builtin.bitOr (a:Int) (b:Int)=((a||| b:Nat):Int):=by
 rw[bitOr_and,anT]
 have:=nat_or_add_and a b
 omega
theorem anU{m:Int}(h:0<=m)(k:Nat):(Builtin.bitAnd (m / 2^k) 1=1)↔tb m k=true:=by
 rw[an8 h,show (1:Int)=((1:Nat):Int) from rfl,anT]
 unfold tb
 rw[Nat.testBit_eq_decide_div_mod_eq,Nat.shiftRight_eq_div_pow]
 have:m.toNat / 2^k&&& 1=m.toNat / 2^k%2:=Nat.and_two_pow_sub_one_eq_mod _ 1
 rw[this]
 simp only[decide_eq_true_eq]
 omega
theorem aI8{a b:Int}(ha:0<=a)(hb:0<=b):0<=Builtin.bitAnd a b:=by rw[bitAnd_pp ha hb];exact Int.natCast_nonneg _
theorem alP{a b:Int}(ha:0<=a)(hb:0<=b):0<=Builtin.bitOr a b:=by
 obtain⟨x,rfl⟩:=Int.eq_ofNat_of_zero_le ha
 obtain⟨y,rfl⟩:=Int.eq_ofNat_of_zero_le hb
 rw[auG]
 exact Int.natCast_nonneg _
theorem aIR{a b:Int}(ha:0<=a)(hb:0<=b)(i:Nat):tb (Builtin.bitAnd a b) i=(tb a i&&tb b i):=by
 unfold tb
 rw[bitAnd_pp ha hb,Int.toNat_natCast,Nat.testBit_and]
theorem ayQ{a b:Int}(ha:0<=a)(hb:0<=b)(i:Nat):tb (Builtin.bitOr a b) i=(tb a i||tb b i):=by
 obtain⟨x,rfl⟩:=Int.eq_ofNat_of_zero_le ha
 obtain⟨y,rfl⟩:=Int.eq_ofNat_of_zero_le hb
 unfold tb
 rw[auG,Int.toNat_natCast,Nat.testBit_or,Int.toNat_natCast,Int.toNat_natCast]
theorem aLD(k i:Nat):tb (2^k) i=decide (k=i):=by
 unfold tb
 rw[←abR,Int.toNat_natCast,Nat.testBit_two_pow]
theorem ad1(i:Nat):tb 0 i=false:=by unfold tb;simp
theorem ah6{a b:Int}(ha:0<=a)(hb:0<=b)(h:∀i,tb a i=tb b i):a=b:=by
 have:a.toNat=b.toNat:=Nat.eq_of_testBit_eq h
 omega
theorem aF7{m:Int}(h:0<=m)(k i:Nat):tb (m / 2^k) i=tb m (k+i):=by
 rw[an8 h]
 unfold tb
 rw[Int.toNat_natCast,Nat.testBit_shiftRight]
theorem aoA{m:Int}{n i:Nat}(h:m<2^n)(hi:n<=i):tb m i=false:=by
 unfold tb
 refine Nat.testBit_lt_two_pow (Nat.lt_of_lt_of_le ?_ (Nat.pow_le_pow_right (by decide) hi))
 by_cases h0:0<=m
 ·have:=abR n
  omega
 ·have:m.toNat=0:=by omega
  rw[this]
  exact Nat.two_pow_pos n
@[irreducible] def mk_(p:Nat->Bool)(n:Nat):Int:=(cnt p n:Nat)
theorem au2(p:Nat->Bool)(n:Nat):mk_ p n=(cnt p n:Nat):=by rw[mk_]
theorem aNW(p:Nat->Bool)(n:Nat):0<=mk_ p n:=by rw[au2];exact Int.natCast_nonneg _
theorem aOJ(p:Nat->Bool)(n i:Nat):tb (mk_ p n) i=(decide (i<n)&&p i):=by
 unfold tb
 rw[au2,Int.toNat_natCast,an1]
theorem aNM(p:Nat->Bool)(n:Nat):mk_ p n<2^n:=by
 have:=am9 p n
 have e:=abR n
 rw[au2]
 omega
theorem aCV(n i:Nat):tb (2^n-1) i=decide (i<n):=by
 have h:=abR n
 have:((2:Int)^n-1).toNat=2^n-1:=by
  have:=Nat.two_pow_pos n
  omega
 unfold tb
 rw[this,Nat.testBit_two_pow_sub_one]
def aN0(p:Nat->Bool)(lo:Int):Nat->List Int
 |0=>[]
 |n+1=>aN0 p lo n++(if p n=true then [lo+(n:Int)] else [])
@[irreducible] def flt(p:Nat->Bool)(lo:Int)(n:Nat):List Int:=aN0 p lo n
theorem al3(p:Nat->Bool)(lo:Int):flt p lo 0=[]:=by rw[flt];rfl
theorem azR{p:Nat->Bool}{lo:Int}{α:Type}{f:Int->α}:[]=(flt p lo 0).map f:=by rw[al3];rfl
theorem akZ(p:Nat->Bool)(lo:Int)(n:Nat):flt p lo (n+1)=flt p lo n++(if p n=true then [lo+(n:Int)] else []):=by rw[flt,flt];rfl
theorem anO{p:Nat->Bool}{lo:Int}{n:Nat}(h:p n=true):flt p lo (n+1)=flt p lo n++[lo+(n:Int)]:=by
 rw[akZ,if_pos h]
theorem anA{p:Nat->Bool}{lo:Int}{n:Nat}(h:p n=false):flt p lo (n+1)=flt p lo n:=by
 rw[akZ,h,if_neg Bool.false_ne_true,List.append_nil]
theorem flt_mem{p:Nat->Bool}{lo z:Int}:∀{n:Nat},z∈flt p lo n↔∃i,i<n/\p i=true/\z=lo+(i:Int)
 |0=>by rw[al3];exact⟨fun h=>(nomatch h),fun ⟨i,h,_⟩=>absurd h (Nat.not_lt_zero i)⟩
 |n+1=>by
  by_cases c:p n=true
  ·rw[anO c,List.mem_append,flt_mem,List.mem_singleton]
   refine⟨fun h=>?_,fun ⟨i,h1,h2,h3⟩=>?_⟩
   ·rcases h with ⟨i,h1,h2,h3⟩ | h
    ·exact⟨i,by omega,h2,h3⟩
    ·exact⟨n,by omega,c,h⟩
   ·by_cases e:i=n
    ·subst e;exact .inr h3
    ·exact .inl ⟨i,by omega,h2,h3⟩
  ·rw[anA (by simpa using c),flt_mem]
   refine⟨fun ⟨i,h1,h2,h3⟩=>⟨i,by omega,h2,h3⟩,fun ⟨i,h1,h2,h3⟩=>⟨i,?_,h2,h3⟩⟩
   have:i≠n:=fun e=>c (e▸h2)
   omega
theorem aHM{p:Nat->Bool}{lo:Int}{n k:Nat}(h:∀i,n<=i->p i=false)(hk:n<=k):flt p lo k=flt p lo n:=by
 obtain⟨d,rfl⟩:=Nat.exists_eq_add_of_le hk
 clear hk
 induction d with
 |zero=>rfl
 |succ d ih=>rw[show n+(d+1)=(n+d)+1 from rfl,anA (h _ (by omega)),ih]
def abV(zs:List Int):Int:=zs.foldl (fun a z=>Builtin.bitOr a (1*2^z.toNat)) 0
theorem anG(zs:List Int)(z:Int):abV (zs++[z])=Builtin.bitOr (abV zs) (1*2^z.toNat):=by unfold abV;rw[List.foldl_append];rfl
theorem akN:∀(zs:List Int) (a:Int),0<=a->0<=zs.foldl (fun a z=>Builtin.bitOr a (1*2^z.toNat)) a/\∀i,tb (zs.foldl (fun a z=>Builtin.bitOr a (1*2^z.toNat)) a) i=(tb a i||zs.any fun z=>decide (z.toNat=i))
 |[],a,h=>⟨h,fun i=>by simp⟩
 |z::zs,a,h=>by
  have e:(1*2^z.toNat:Int)=2^z.toNat:=by omega
  have p:=Int.le_of_lt (ak1 z.toNat)
  obtain⟨h1,h2⟩:=akN zs (Builtin.bitOr a (1*2^z.toNat)) (by rw[e];exact alP h p)
  refine⟨h1,fun i=>?_⟩
  show tb (zs.foldl _ (Builtin.bitOr a (1*2^z.toNat))) i=_
  rw[h2 i,e,ayQ h p,aLD,List.any_cons,Bool.or_assoc]
theorem ahU(zs:List Int):0<=abV zs:=(akN zs 0 (Int.le_refl 0)).1
theorem amJ(zs:List Int)(i:Nat):tb (abV zs) i=zs.any fun z=>decide (z.toNat=i):=by
 have h:=(akN zs 0 (Int.le_refl 0)).2 i
 rw[ad1,Bool.false_or] at h
 exact h
theorem aAP{m:Int}(h:0<=m):m<2^Builtin.Int.intBits m:=by
 unfold Builtin.Int.intBits
 split
 ·rename_i c
  have:m=0:=by simpa using c
  rw[this]
  decide
 ·have:=Nat.lt_log2_self (n:=m.natAbs)
  have e:=abR (m.natAbs.log2+1)
  omega
theorem akG{m:Int}{n:Nat}(h:0<=m)(hn:m<2^n):Builtin.Int.intBits m<=n:=by
 unfold Builtin.Int.intBits
 split
 ·exact Nat.zero_le _
 ·rename_i c
  have h0:m≠0:=by simpa using c
  have e:=abR n
  have:m.natAbs.log2<n:=(Nat.log2_lt (by omega)).mpr (by omega)
  omega
def aCT(m:Int):List Int:=flt (tb m) 0 (Builtin.Int.intBits m)
theorem aAQ{m:Int}{n:Nat}(h:0<=m)(hn:m<2^n):aCT m=flt (tb m) 0 n:=
 (aHM (fun i hi=>aoA (aAP h) hi) (akG h hn)).symm
theorem azW{m:Int}(h:0<=m)(k:Nat):decide (Builtin.bitAnd (m / 2^k) 1=1)=tb m k:=by
 by_cases c:tb m k=true
 ·rw[c];exact decide_eq_true ((anU h _).mpr c)
 ·have c':tb m k=false:=by simpa using c
  rw[c'];exact decide_eq_false fun q=>c ((anU h _).mp q)
end L2
namespace L2
open PySem PyProof.Rows
section
variable{X:Cx}{tg:Expr}
theorem anY{a b c:Int}(hc:0<c):0<=Builtin.Range.rangeSize a b c:=by
 unfold Builtin.Range.rangeSize
 rw[if_pos hc]
 split
 ·have:0<=(b-a-1) / c:=Int.ediv_nonneg (by omega) (by omega)
  omega
 ·exact Int.le_refl 0
end
def aAY(a:Addr)(lo hi st:Int):HO:=.ext fun h=>∃t u v,h.get? a=some {cls:=.type "range",data:=.fields #[.int lo t,.int hi u,.int st v]}
section
variable{X:Cx}
theorem ax9{pins:List (Addr×Obj)}{σ:St}{H:Hp}{s:Shared}{Q:VK}{lo hi st:Int}{t u v:Tok}{tk:Nat}(I:Inv X pins σ H s)(q:∀p,H p=none->Q (.ref p) (upd H p (aAY p lo hi st))):
  EP X pins σ Q (.ref s.heap.objs.size) {s with heap:=s.heap.push {cls:=.type "range",data:=.fields #[.int lo t,.int hi u,.int st v]},toks:=tk}:=by
 refine⟨.ref s.heap.objs.size,upd H s.heap.objs.size (aAY s.heap.objs.size lo hi st),I.laid (t':=tk) (fun b u e=>Heap.get?_push_of_some _ e) (Nat.le_refl _) ?_,rfl,q _ (I.hok.fresh (Nat.le_refl _))⟩
 have e:=Heap.get?_push_size s.heap (o:={cls:=.type "range",data:=.fields #[.int lo t,.int hi u,.int st v]}) rfl
 exact⟨⟨t,u,v,e⟩,⟨_,e⟩,fun h1 h2 ⟨t,u,v,z⟩ k=>⟨t,u,v,k _ z⟩⟩
theorem cRg3:Cl1 X (.type "range") (fun xs H Q=>∃i j c,xs=[.int i,.int j,.int c]/\(0<c/\c<1073741824)/\∀p,H p=none->Q (.ref p) (upd H p (aAY p i j c))):=by
 refine⟨fun pins s σ H xs us Q I r h=>?_⟩
 obtain⟨i,j,c,rfl,⟨c0,c1⟩,q⟩:=h
 cases r with
 |cons r rr=>
  cases rr with
  |cons r' rr=>
   cases rr with
   |cons r'' rr=>
    cases rr
    obtain⟨t,rfl⟩:=r
    obtain⟨t',rfl⟩:=r'
    obtain⟨t'',rfl⟩:=r''
    exact call_range_3 (Int.ne_of_gt c0) (ax9 I q) (.inl (PyProof.noPylong_small (by omega)))
theorem anB{lo st:Int}:∀{n:Nat} {acc:Array Value},ItemsOf (fun i v=>∃t,v=.int (lo+i*st) t) acc n->Vals ((List.range n).map fun i:Nat=>V.int (lo+i*st)) acc.toList:=by
 intro n acc h
 obtain⟨hz,hi⟩:=h
 have key:∀(m:Nat),m<=n->Vals ((List.range m).map fun i:Nat=>V.int (lo+i*st)) (acc.toList.take m):=by
  intro m
  induction m with
  |zero=>intro _;exact .nil
  |succ m ih=>
   intro hm
   have hlt:m<acc.toList.length:=by rw[Array.length_toList];omega
   obtain⟨t,e⟩:=hi m acc.toList[m] (by rw[←Array.getElem?_toList];exact List.getElem?_eq_getElem hlt)
   rw[List.range_succ,List.map_append,List.take_succ,List.getElem?_eq_getElem hlt]
   exact (ih (by omega)).append (.cons ⟨t,e⟩ .nil)
 have:=key n (Nat.le_refl _)
 rwa [List.take_of_length_le (by rw[Array.length_toList];omega)] at this
theorem cLR(hc:X.calm=true:=by rfl):Cl1 X (.type "list") (fun xs H Q=>∃(p:Addr) (lo hi st:Int) (n:Nat),xs=[.ref p]/\H p=some (aAY p lo hi st)/\Builtin.Range.small lo hi st=true/\Builtin.Range.rangeSize lo hi st=(n:Int)/\n<=100000/\
  ∀l,H l=none->Q (.ref l) (upd H l (.lst ((List.range n).map fun i:Nat=>V.int (lo+i*st))))):=by
 refine⟨fun pins s σ H xs us Q I r h=>?_⟩
 obtain⟨p,lo,hi,st,n,rfl,hp,hs,hn,hl,q⟩:=h
 obtain⟨u,rfl,rx⟩:=ab8 r
 cases rx
 obtain⟨⟨t,u,v,e⟩,_,_⟩:=I.hok p _ hp
 refine call_list_range (I.ok.hd hc) e hs hn (Nat.le_trans hl (by decide)) fun h' tk acc c' kp hS hI=>?_
 have hz:((List.range n).map fun i:Nat=>V.int (lo+i*st)).length<=sizeLine:=by
  rw[List.length_map,List.length_range,sizeLine_eq]
  omega
 exact⟨.ref s.heap.objs.size,_,I.laid (t':=tk) kp (Nat.le_refl _) (show ObjOk X.prog X.w _ h' _ (.lst _) from ⟨hz,acc.toList,c',anB hI,by simpa using hS⟩),rfl,q _ (I.hok.fresh (Nat.le_refl _))⟩
def rBL:V->List V->Hp->VK->Prop:=fun x vs H Q=>∃i,x=.int i/\vs=[]/\Q (.int (Builtin.Int.intBits i:Nat)) H
theorem aOR:MtR X "int.bit_length" rBL:=by
 intro pins s σ H x xs v us Q I rx rv h
 obtain⟨i,rfl,rfl,q⟩:=h
 cases rv
 obtain⟨t,rfl⟩:=rx
 exact call_int_bit_length ⟨.int _,H,I.tok _,⟨_,rfl⟩,q⟩
theorem eBL{o:Expr}{to:TE}{apos cpos:Pos}(ho:E X o to)(hbase:attributeBase o "bit_length" X.env (eval o X.env)=eval o X.env:=by rfl)(hline:(apos.endLine==cpos.line)=true:=by rfl):
  E X (.Call (.Attribute o "bit_length" apos) [] [] cpos) (aMM X.K "int" rBL to):=⟨aHT PySem.F.plainAttrs_int PySem.F.slot_int_bit_length PySem.F.type_int_bit_length aOR ho.h hbase hline⟩
theorem cLst:Cl1 X (.type "list") (fun xs H Q=>∃p ys,xs=[.ref p]/\(SqL X.K H p ys∨SqT X.K H p ys)/\∀l,H l=none->Q (.ref l) (upd H l (.lst ys))):=⟨akD⟩
theorem aNG:Cl1 X (.type "tuple") (fun xs H Q=>∃p ys,xs=[.ref p]/\((SqL X.K H p ys/\∀l,H l=none->Q (.ref l) (upd H l (.tup ys)))∨(SqT X.K H p ys/\Q (.ref p) H))):=⟨ai6⟩
theorem ahS:Op2 X (compareOp .Is) (fun x y H Q=>y=.non/\Q (.bl (decide (x=.non))) H):=⟨aH9⟩
theorem oIn:Op2 X (compareOp .In) (rIn X.K false):=⟨arH⟩
end
theorem Same.none{H H':Hp}{D:Addr}(s:Same H H')(h:H' D=none):H D=none:=by
 cases e:H D with
 |none=>rfl
 |some o=>exact absurd (h.symm.trans (s _ _ e)) (by simp)
def Keep(H H':Hp):Prop:=∀b o,(∀xs,o≠ .lst xs)->H b=some o->H' b=some o
theorem Same.keep{H H':Hp}(s:Same H H'):Keep H H':=fun b o _ h=>s b o h
theorem Keep.trans{H H1 H2:Hp}(a:Keep H H1)(b:Keep H1 H2):Keep H H2:=fun c o n h=>b c o n (a c o n h)
theorem ah2{H:Hp}{D:Addr}{l l':List V}(h:H D=some (.lst l)):Keep H (upd H D (.lst l')):=fun b o n hb=>by
 by_cases e:b=D
 ·subst e
  rw[h] at hb
  cases hb
  exact absurd rfl (n l)
 ·rw[aaE e]
  exact hb
theorem Keep.tup{H H':Hp}(k:Keep H H'){b:Addr}{xs:List V}(h:H b=some (.tup xs)):H' b=some (.tup xs):=k b _ (fun _ z=>nomatch z) h
theorem Keep.ins{H H':Hp}(k:Keep H H'){b C dx:Addr}{fs:List (Str×V)}(h:H b=some (.ins C dx fs)):H' b=some (.ins C dx fs):=k b _ (fun _ z=>nomatch z) h
section
variable{js:List Nat}{σ:St}{tt:TT}{te:TE}{Q:VK}{H1:Hp}
end
section
variable{X:Cx}{K:PySem.W.Frag}
end
inductive Kd where
 |int | bool | str | non | list | tuple | dict
def Kd.nm:Kd->String
 |.int=>"int" | .bool=>"bool" | .str=>"str" | .non=>"NoneType" | .list=>"list" | .tuple=>"tuple" | .dict=>"dict"
def Kd.isa:Kd->Kd->Bool
 |.int,.int=>true | .bool,.int=>true | .bool,.bool=>true | .str,.str=>true | .list,.list=>true | .tuple,.tuple=>true | .dict,.dict=>true | _,_=>false
def KindV(K:PySem.W.Frag)(H:Hp):V->Kd->Prop
 |.int _,k=>k=.int
 |.bl _,k=>k=.bool
 |.str _,k=>k=.str
 |.non,k=>k=.non
 |.ref a,k=>(k=.list/\∃xs,SqL K H a xs)∨(k=.tuple/\∃xs,SqT K H a xs)∨(k=.dict/\∃kvs,H a=some (.dK kvs))
 |_,_=>False
theorem cIs{X:Cx}:Cl1 X (.builtin "isinstance") (fun xs H Q=>∃(v:V) (n k:Kd),xs=[v,.ty n.nm]/\n.nm≠"NoneType"/\KindV X.K H v k/\Q (.bl (Kd.isa k n)) H):=by
 refine⟨fun pins s σ H xs us Q I r h=>?_⟩
 obtain⟨v,n,k,rfl,hn,hk,q⟩:=h
 obtain⟨u,w',rfl,r1,r2⟩:=aiJ r
 cases r2
 have fin:∀tk,EP X pins σ Q (.bool (Kd.isa k n)) {s with toks:=tk}:=fun tk=>⟨.bl _,H,I.tok _,rfl,q⟩
 have fin0:EP X pins σ Q (.bool (Kd.isa k n)) s:=⟨.bl _,H,I,rfl,q⟩
 cases v with
 |int i=>
  obtain⟨t,rfl⟩:=r1
  cases (show k=Kd.int from hk)
  cases n with
  |int=>exact PySem.IsiPair.int_int fin0
  |bool=>exact PySem.IsiPair.int_bool (fin _)
  |str=>exact PySem.IsiPair.int_str (fin _)
  |list=>exact PySem.IsiPair.int_list (fin _)
  |tuple=>exact PySem.IsiPair.int_tuple (fin _)
  |dict=>exact PySem.IsiPair.int_dict (fin _)
  |non=>exact absurd rfl hn
 |bl b=>
  cases r1
  cases (show k=Kd.bool from hk)
  cases n with
  |int=>exact PySem.IsiPair.bool_int fin0
  |bool=>exact PySem.IsiPair.bool_bool fin0
  |str=>exact PySem.IsiPair.bool_str (fin _)
  |list=>exact PySem.IsiPair.bool_list (fin _)
  |tuple=>exact PySem.IsiPair.bool_tuple (fin _)
  |dict=>exact PySem.IsiPair.bool_dict (fin _)
  |non=>exact absurd rfl hn
 |str x=>
  obtain⟨t,rfl⟩:=r1
  cases (show k=Kd.str from hk)
  cases n with
  |int=>exact PySem.IsiPair.str_int (fin _)
  |bool=>exact PySem.IsiPair.str_bool (fin _)
  |str=>exact PySem.IsiPair.str_str fin0
  |list=>exact PySem.IsiPair.str_list (fin _)
  |tuple=>exact PySem.IsiPair.str_tuple (fin _)
  |dict=>exact PySem.IsiPair.str_dict (fin _)
  |non=>exact absurd rfl hn
 |non=>
  cases r1
  cases (show k=Kd.non from hk)
  cases n with
  |int=>exact PySem.IsiPair.NoneType_int (fin _)
  |bool=>exact PySem.IsiPair.NoneType_bool (fin _)
  |str=>exact PySem.IsiPair.NoneType_str (fin _)
  |list=>exact PySem.IsiPair.NoneType_list (fin _)
  |tuple=>exact PySem.IsiPair.NoneType_tuple (fin _)
  |dict=>exact PySem.IsiPair.NoneType_dict (fin _)
  |non=>exact absurd rfl hn
 |ref a=>
  cases r1
  rcases hk with ⟨rfl,ys,hq⟩ | ⟨rfl,ys,hq⟩ | ⟨rfl,kvs,hq⟩
  ·obtain⟨its,rv,pl,_⟩:=I.list hq
   obtain⟨o,ho,hc,_⟩:=pl.isList
   cases n with
   |int=>exact PySem.IsiPair.list_int ho hc (fin _)
   |bool=>exact PySem.IsiPair.list_bool ho hc (fin _)
   |str=>exact PySem.IsiPair.list_str ho hc (fin _)
   |list=>exact PySem.IsiPair.list_list ho hc fin0
   |tuple=>exact PySem.IsiPair.list_tuple ho hc (fin _)
   |dict=>exact PySem.IsiPair.list_dict ho hc (fin _)
   |non=>exact absurd rfl hn
  ·obtain⟨its,rv,⟨o,ho,hc,_⟩,_⟩:=I.tuple hq
   cases n with
   |int=>exact PySem.IsiPair.tuple_int ho hc (fin _)
   |bool=>exact PySem.IsiPair.tuple_bool ho hc (fin _)
   |str=>exact PySem.IsiPair.tuple_str ho hc (fin _)
   |list=>exact PySem.IsiPair.tuple_list ho hc (fin _)
   |tuple=>exact PySem.IsiPair.tuple_tuple ho hc fin0
   |dict=>exact PySem.IsiPair.tuple_dict ho hc (fin _)
   |non=>exact absurd rfl hn
  ·obtain⟨_,_,_,_,o,_,_,ho,ex,_⟩:=I.hok a _ hq
   cases n with
   |int=>exact PySem.IsiPair.dict_int ho ex.1 (fin _)
   |bool=>exact PySem.IsiPair.dict_bool ho ex.1 (fin _)
   |str=>exact PySem.IsiPair.dict_str ho ex.1 (fin _)
   |list=>exact PySem.IsiPair.dict_list ho ex.1 (fin _)
   |tuple=>exact PySem.IsiPair.dict_tuple ho ex.1 (fin _)
   |dict=>exact PySem.IsiPair.dict_dict ho ex.1 fin0
   |non=>exact absurd rfl hn
 |byt b=>exact False.elim hk
 |flt b=>exact False.elim hk
 |ty n=>exact False.elim hk
end L2
namespace L2
open PySem PySem.Spec PyProof.Rows PySem.Builtin PySem.Builtin.Str
abbrev Tx(l:List Nat):Str:=⟨l.toArray⟩
theorem Tx_inj{a b:List Nat}:Tx a=Tx b↔a=b:=⟨fun h=>by
 have:(Tx a).cps.toList=(Tx b).cps.toList:=by rw[h]
 simpa using this,fun h=>by rw[h]⟩
theorem abL(a:List Nat):(Tx a).length=a.length:=by simp[Str.length]
def Itx(x:Str):It:=⟨fun i _=>i<x.cps.size,fun i H v H'=>H'=H/\∃c,x.cps[i]? =some c/\v=.str ⟨#[c]⟩,fun i _=>i=x.cps.size⟩
theorem as7{P:Program}{w:World}{K:PySem.W.Frag}{tg:Expr}(x:Str)(t:Tok)(it:Addr):Turn P w K tg (Itx x) [it] it (fun i h=>h.IsStrIter it "str_ascii_iterator" x t i) where
 mem:=by simp
 obj:=fun i h st b hb=>by
  have e:b=it:=by simpa using hb
  subst e
  obtain⟨o,e,c,d⟩:=st
  exact⟨o,e,fun v z=>by rw[d] at z;cases z⟩
 keep:=fun i h h' st k=>by
  obtain⟨o,e,r⟩:=st
  exact⟨o,k it (by simp) o e,r⟩
 item:=by
  intro X hP hw hK hc i pins s σ H E I hf st hg
  subst hP hw hK
  obtain⟨f0,f1,f2,f3,f4,f5⟩:=hf it (by simp)
  have hg:i<x.cps.size:=hg
  refine wpAny_pyNext_ascii_item st (c:=x.cps[i]) (by simp[hg]) fun h' st' sb=>?_
  have I1:Inv X pins σ H {s with heap:=h',toks:=s.toks+1}:=I.turned (fun b o hb e=>sb.extBut b o hb e) f0 f1 f3 f4 f5
  obtain⟨o,e,c,d⟩:=id st'
  exact⟨_,rfl,amK (s:={s with heap:=h',toks:=s.toks+1}) e c d (by decide) ⟨.str ⟨#[x.cps[i]]⟩,H,I1,⟨_,rfl⟩,⟨rfl,x.cps[i],by simp[hg],rfl⟩,st',fun b hb=>(hf b hb).1⟩⟩
 done:=by
  intro X hP hw hK hc i pins s σ H E I hf st hg
  subst hP hw hK
  obtain⟨f0,f1,f2,f3,f4,f5⟩:=hf it (by simp)
  have hg:i=x.cps.size:=hg
  exact wpAny_pyNext_ascii_end (I.ok.hd hc) st (by simp[hg]) fun h' eb=>⟨rfl,I.turned (t':=s.toks) (fun b o hb e=>eb b o hb e) f0 f1 f3 f4 f5⟩
 self:=fun _ _ _ _ _ st h=>wpAny_pyIter_striter_ascii st h
theorem aqV{P:Program}{w:World}{K:PySem.W.Frag}{tg:Expr}(x:Str)(t:Tok)(it:Addr):Turn P w K tg (Itx x) [it] it (fun i h=>h.IsStrIter it "str_iterator" x t i) where
 mem:=by simp
 obj:=fun i h st b hb=>by
  have e:b=it:=by simpa using hb
  subst e
  obtain⟨o,e,c,d⟩:=st
  exact⟨o,e,fun v z=>by rw[d] at z;cases z⟩
 keep:=fun i h h' st k=>by
  obtain⟨o,e,r⟩:=st
  exact⟨o,k it (by simp) o e,r⟩
 item:=by
  intro X hP hw hK hc i pins s σ H E I hf st hg
  subst hP hw hK
  obtain⟨f0,f1,f2,f3,f4,f5⟩:=hf it (by simp)
  have hg:i<x.cps.size:=hg
  refine wpAny_pyNext_wide_item st (c:=x.cps[i]) (by simp[hg]) fun h' st' sb=>?_
  have I1:Inv X pins σ H {s with heap:=h',toks:=s.toks+1}:=I.turned (fun b o hb e=>sb.extBut b o hb e) f0 f1 f3 f4 f5
  obtain⟨o,e,c,d⟩:=id st'
  exact⟨_,rfl,amK (s:={s with heap:=h',toks:=s.toks+1}) e c d (by decide) ⟨.str ⟨#[x.cps[i]]⟩,H,I1,⟨_,rfl⟩,⟨rfl,x.cps[i],by simp[hg],rfl⟩,st',fun b hb=>(hf b hb).1⟩⟩
 done:=by
  intro X hP hw hK hc i pins s σ H E I hf st hg
  subst hP hw hK
  obtain⟨f0,f1,f2,f3,f4,f5⟩:=hf it (by simp)
  have hg:i=x.cps.size:=hg
  exact wpAny_pyNext_wide_end (I.ok.hd hc) st (by simp[hg]) fun h' eb=>⟨rfl,I.turned (t':=s.toks) (fun b o hb e=>eb b o hb e) f0 f1 f3 f4 f5⟩
 self:=fun _ _ _ _ _ st h=>wpAny_pyIter_striter_wide st h
section
variable{X:Cx}{tg:Expr}
def iTxt(tl:TE):TI:=fun σ H R=>tl σ H fun x H1=>∃z,x=.str z/\R (Itx z) H1
theorem iX{l:Expr}{tl:TE}(hl:E X l tl):Il X tg l (iTxt tl):=by
 refine⟨fun pins s σ H R I h=>?_⟩
 refine thn (hl.h pins s σ H _ I h) fun u s1 ⟨x,H1,I1,r1,q1⟩=>?_
 obtain⟨z,rfl,q⟩:=q1
 obtain⟨t,rfl⟩:=r1
 have fp:∀b∈[s1.heap.objs.size],acP X pins H1 b:=fun b hb=>by
  have e:b=s1.heap.objs.size:=by simpa using hb
  subst e
  exact I1.fpOk (Nat.le_refl _) (I1.hok.fresh (Nat.le_refl _))
 cases ha:z.cps.all (·<128)
 ·exact wpAny_pyIter_wide ha ⟨s1.heap.objs.size,[s1.heap.objs.size],_,_,H1,rfl,I1.kept (t':=s1.toks) fun b o e=>Heap.get?_push_of_some _ e,aqV z t _,⟨_,Heap.get?_push_size _ rfl,rfl,rfl⟩,fp,q⟩
 ·exact wpAny_pyIter_ascii ha ⟨s1.heap.objs.size,[s1.heap.objs.size],_,_,H1,rfl,I1.kept (t':=s1.toks) fun b o e=>Heap.get?_push_of_some _ e,as7 z t _,⟨_,Heap.get?_push_size _ rfl,rfl,rfl⟩,fp,q⟩
end
section
variable{js:List Nat}{σ:St}{tt:TT}{te:TE}{Q:VK}{H1:Hp}
theorem axM{xs:List Nat}(R:Nat->List V->Prop)(hn:xs.length<=sizeLine)(h0:R 0 [])
  (hs:∀(i:Nat) (c:Nat) (l:List V) (D:Addr) (H2:Hp) (E:V->Hp->Prop) (F:Hp->Prop),xs[i]? =some c->R i l->H1 D=none->Same H1 H2->H2 D=some (.lst l)->(∀y H5,Same H2 H5->R (i+1) (l++[y])->E y H5)->(∀H4,Same H2 H4->R (i+1) l->F H4)->
   tt (some (.str (Tx [c]))::aaW js σ) H2 fun b H4=>if b=true then te (some (.str (Tx [c]))::aaW js σ) H4 E else F H4)
  (hd:∀(D:Addr) (H2:Hp) (l:List V),R xs.length l->H1 D=none->Same H1 H2->H2 D=some (.lst l)->Q (.ref D) H2):alK (Itx (Tx xs)) js σ tt te Q H1:=by
 intro D hD
 have hz:(Tx xs).cps.size=xs.length:=by simp
 refine⟨fun i m H2=>m=xs.length-i/\i<=xs.length/\Same H1 H2/\∃l,H2 D=some (.lst l)/\l.length<=i/\R i l,⟨xs.length,by simp,Nat.zero_le _,aaB hD _,[],aaA,Nat.le_refl _,h0⟩,?_⟩
 rintro i m H2 ⟨rfl,hi,s2,l,h2,hll,hR⟩
 by_cases hlt:i<xs.length
 ·refine .inr ⟨show i<(Tx xs).cps.size by rw[hz];exact hlt,fun v H3 y=>?_⟩
  obtain⟨e,c,ec,ev⟩:=y
  subst e ev
  refine hs i c l D _ _ _ (by simpa using ec) hR hD s2 h2 (fun z H5 s5 r5=>?_) (fun H4 s4 r4=>?_)
  ·refine⟨l,s5 _ _ h2,Nat.lt_of_le_of_lt hll (Nat.lt_of_lt_of_le hlt hn),xs.length-(i+1),by omega,rfl,hlt,fun b o hb=>?_,l++[z],aaA,by rw[List.length_append,List.length_singleton];omega,r5⟩
   rw[aaE (aaJ hb hD)]
   exact s5 _ _ (s2 _ _ hb)
  ·exact⟨xs.length-(i+1),by omega,rfl,hlt,s2.trans s4,l,s4 _ _ h2,by omega,r4⟩
 ·have e:i=xs.length:=by omega
  subst e
  exact .inl ⟨show xs.length=(Tx xs).cps.size by rw[hz],hd D H2 l hR hD s2 h2⟩
end
section
variable{X:Cx}
theorem alQ{prog:Program}{w:World}{A:Around}{its:Array Value}{bs:List Bool}(r:Vals (bs.map V.bl) its.toList):TruthOf prog w A (fun i v=>its[i]? =some v) (fun i=>bs.getD i false):=by
 intro i v s Q E hv hq
 have hv':its.toList[i]? =some v:=by rw[Array.getElem?_toList];exact hv
 have hi:i<bs.length:=by
  have h1:=r.length
  rw[List.length_map] at h1
  rcases Nat.lt_or_ge i its.toList.length with z | z
  ·omega
  ·rw[List.getElem?_eq_none z] at hv';cases hv'
 obtain⟨u,hu,ru⟩:=r.get (i:=i) (x:=V.bl bs[i]) (by rw[List.getElem?_map,List.getElem?_eq_getElem hi];rfl)
 rw[hv'] at hu
 cases hu
 cases ru
 have e:bs.getD i false=bs[i]:=by simp[List.getD,List.getElem?_eq_getElem hi]
 have hq:Q (bs.getD i false) s:=hq
 rw[e] at hq
 exact wpAny_truthy_bool hq
theorem aqG(bs:List Bool):(List.range bs.length).all (fun i=>bs.getD i false)=bs.all id:=by
 rw[Bool.eq_iff_iff,List.all_eq_true,List.all_eq_true]
 refine⟨fun h b hb=>?_,fun h i hi=>?_⟩
 ·obtain⟨i,hi,e⟩:=List.getElem_of_mem hb
  have:=h i (List.mem_range.mpr hi)
  rw[show bs.getD i false=bs[i] by simp[List.getD,List.getElem?_eq_getElem hi],e] at this
  exact this
 ·have hi:=List.mem_range.mp hi
  rw[show bs.getD i false=bs[i] by simp[List.getD,List.getElem?_eq_getElem hi]]
  exact h _ (List.getElem_mem hi)
theorem aL8(hc:X.calm=true:=by rfl):Cl1 X (.builtin "all") (fun xs H Q=>∃(p:Addr) (bs:List Bool),xs=[.ref p]/\SqL X.K H p (bs.map V.bl)/\Q (.bl (bs.all id)) H):=by
 refine⟨fun pins s σ H xs us Q I r h=>?_⟩
 obtain⟨p,bs,rfl,hq,q⟩:=h
 obtain⟨u,rfl,r1⟩:=ab8 r
 cases r1
 obtain⟨its,rv,pl,hz⟩:=I.list hq
 have hne:p≠s.heap.objs.size:=by
  obtain⟨o,ho,_⟩:=pl.isList
  exact Nat.ne_of_lt (Heap.lt_size ho)
 refine call_all_walk (wpAny_pyIter_list pl.isList ⟨s.heap.objs.size,[s.heap.objs.size,p],[s.heap.objs.size],its.toArray.size,(fun i v=>its.toArray[i]? =some v),(fun i h=>h.IsListIter s.heap.objs.size p i/\h.IsList p its.toArray),(fun i=>bs.getD i false),rfl,Walks.list (prog:=X.prog) (w:=X.w) (A:=X.A.in1) (I.ok.hd hc) _ p hne its.toArray,⟨⟨_,Heap.get?_push_size _ rfl,rfl,rfl⟩,pl.isList.push _⟩,alQ (by simpa using rv),fun h' tk hk=>?_⟩)
 have hl:=rv.length
 rw[List.length_map] at hl
 have e:its.toArray.size=bs.length:=by rw[List.size_toArray];omega
 rw[e,aqG]
 exact⟨.bl _,H,I.kept fun b o eb=>hk b o (by simpa using Nat.ne_of_lt (Heap.lt_size eb)) (Heap.get?_push_of_some _ eb),rfl,q⟩
end
end L2
namespace L2
open PySem PySem.Spec PyProof.Rows PySem.Builtin PySem.Builtin.Str
def spl(c:Nat):List Nat->List (List Nat)
 |[]=>[[]]
 |x::r=>if x=c then []::spl c r else match spl c r with
  |h::t=>(x::h)::t
  |[]=>[[x]]
def abM(c:Nat):List (List Nat)->List Nat
 |[]=>[]
 |[p]=>p
 |p::r=>p++c::abM c r
theorem aKT(c:Nat):∀l,spl c l≠[]
 |[]=>by simp[spl]
 |x::r=>by
  unfold spl
  split
  ·simp
  ·split<;>simp
theorem acL(c:Nat):∀(p:List Nat),c∉p->spl c p=[p]
 |[],_=>rfl
 |x::r,h=>by
  have h1:¬x=c:=fun e=>h (by simp[e])
  have h2:=acL c r fun e=>h (by simp[e])
  unfold spl
  rw[if_neg h1,h2]
theorem ahI(c:Nat):∀(p r:List Nat),c∉p->spl c (p++c::r)=p::spl c r
 |[],r,_=>by
  show spl c (c::r)=_
  unfold spl
  rw[if_pos rfl]
  cases r<;>rfl
 |x::q,r,h=>by
  have h1:¬x=c:=fun e=>h (by simp[e])
  have h2:=ahI c q r fun e=>h (by simp[e])
  show spl c (x::(q++c::r))=_
  rw[spl,if_neg h1,h2]
theorem ac8(c:Nat):∀(ps:List (List Nat)),ps≠[]->(∀p∈ps,c∉p)->spl c (abM c ps)=ps
 |[],h,_=>absurd rfl h
 |[p],_,h=>acL c p (h p (by simp))
 |p::q::r,_,h=>by
  show spl c (p++c::abM c (q::r))=_
  rw[ahI c p _ (h p (by simp)),ac8 c (q::r) (by simp) fun z hz=>h z (List.mem_cons_of_mem _ hz)]
theorem an7(c:Nat):∀ps:List Str,(Str.join (Tx [c]) ps).cps.toList=abM c (ps.map (·.cps.toList))
 |[]=>rfl
 |[p]=>rfl
 |p::q::r=>by
  have ih:=an7 c (q::r)
  show (p++Tx [c]++Str.join (Tx [c]) (q::r)).cps.toList=p.cps.toList++c::abM c ((q::r).map (·.cps.toList))
  rw[←ih]
  show ((p.cps++ #[c])++(Str.join (Tx [c]) (q::r)).cps).toList=_
  simp
theorem atS(x y:Str)(h:Txt.split x y=[]):False:=by
 unfold Txt.split at h
 split at h
 ·cases h
 ·split at h
  ·cases h
  ·have e:=congrArg List.length h
   rw[length_partsBetween] at e
   simp at e
theorem ayA(l:List Nat)(c:Nat):(Txt.split (Tx l) (Tx [c])).map (·.cps.toList)=spl c l:=by
 have h1:=StrLaws.join_split (Tx l) (Tx [c])
 have h2:=StrLaws.split_free (Tx l) c
 have h3:=an7 c (Txt.split (Tx l) (Tx [c]))
 rw[h1] at h3
 have e:abM c ((Txt.split (Tx l) (Tx [c])).map (·.cps.toList))=l:=by rw[←h3]
 rw[←ac8 c ((Txt.split (Tx l) (Tx [c])).map (·.cps.toList)) (fun z=>atS _ _ (List.map_eq_nil_iff.mp z)) ?_,e]
 intro p hp
 obtain⟨z,hz,rfl⟩:=List.mem_map.mp hp
 exact h2 z hz
theorem ap0(l:List Nat)(c:Nat):Txt.split (Tx l) (Tx [c])=(spl c l).map Tx:=by
 rw[←ayA,List.map_map]
 have:∀ps:List Str,ps=ps.map ((fun w:List Nat=>Tx w) ∘ fun x=>x.cps.toList):=fun ps=>by
  induction ps with
  |nil=>rfl
  |cons a r ih=>rw[List.map_cons,←ih];simp
 exact this _
theorem ajJ:∀l:List (Str×Tok),Vals (l.map fun p=>V.str p.1) (strValues l)
 |[]=>.nil
 |p::r=>.cons ⟨p.2,rfl⟩ (ajJ r)
section
variable{prog:Program}{w:World}{A:Around}{E:Value->Shared->Prop}{s:Shared}{x y:Str}{t u:Tok}{Q:Value->Shared->Prop}
theorem anE(hy:(y.length==0)=false)(hsz:x.length+2<=sizeLine)
  (h:∀l k,l.map (·.1)=Txt.split x y->Q (.ref s.heap.objs.size) {s with heap:=s.heap.push {cls:=.type "list",data:=.seq (strValues l).toArray},toks:=k}):
  wpAny (model prog w) A (call (.builtin "str.split") [.str x t,.str y u]) Q E s:=by
 have hn:(partsBetween x (occurrences x y 0 x.length (x.length+1)) y.length).length<=sizeLine:=by
  have e1:=StrLaws.occ_length_le x y 0 x.length (x.length+1)
  rw[length_partsBetween];omega
 cases h1:(decide (x.length<y.length)||decide (strKind x<strKind y))
 ·cases hf:(occurrences x y 0 x.length (x.length+1)).isEmpty
  ·refine call_meets F.slot_str_split (typeIs_str _ _ _) F.entry_str_split (F.args_str_split_2 _ _) (meets_str_split_sep x y t u h1 hy hf (by omega) hn) ?_
   show wants Q E _ {s with toks:=_,heap:=s.heap.push {cls:=.type "list",data:=.seq (strsFrom s.toks (partsBetween x (occurrences x y 0 x.length (x.length+1)) y.length)).toArray} }
   rw[strsFrom_eq]
   exact h (numbered s.toks _) _ ((numbered_texts _ _).trans ((if_neg (ne_true_of_eq_false h1)).trans (if_neg (ne_true_of_eq_false hf))).symm)
  ·exact call_meets F.slot_str_split (typeIs_str _ _ _) F.entry_str_split (F.args_str_split_2 _ _) (meets_str_split_not_found x y t u h1 hy hf)
    (h [(x,t)] s.toks ((if_neg (ne_true_of_eq_false h1)).trans (if_pos hf)).symm)
 ·exact call_meets F.slot_str_split (typeIs_str _ _ _) F.entry_str_split (F.args_str_split_2 _ _) (meets_str_split_cannot_occur x y t u h1)
   (h [(x,t)] s.toks (if_pos h1).symm)
end
theorem afI(c:Nat):∀l,(spl c l).length<=l.length+1
 |[]=>by simp[spl]
 |x::r=>by
  have ih:=afI c r
  unfold spl
  split
  ·simp;omega
  ·split
   ·rename_i e;rw[e] at ih;simp at ih ⊢;omega
   ·simp
section
variable{X:Cx}
def axQ:V->List V->Hp->VK->Prop:=fun x vs H Q=>∃(l:List Nat) (c:Nat),x=.str (Tx l)/\vs=[.str (Tx [c])]/\l.length+2<=sizeLine/\∀p,H p=none->Q (.ref p) (upd H p (.lst ((spl c l).map fun q=>V.str (Tx q))))
theorem axJ:MtR X "str.split" axQ:=by
 intro pins s σ H x xs v us Q I rx rv h
 obtain⟨l,c,rfl,rfl,hz,q⟩:=h
 obtain⟨u,rfl,t',rfl⟩:=ab8 rv
 obtain⟨t,rfl⟩:=rx
 refine anE (by rfl) (by rw[abL];exact hz) fun ps k e=>?_
 have e2:ps.map (fun p=>V.str p.1)=(spl c l).map fun q=>V.str (Tx q):=by
  have:=congrArg (List.map V.str) e
  rw[ap0,List.map_map,List.map_map] at this
  exact this
 have hl:((spl c l).map fun q=>V.str (Tx q)).length<=sizeLine:=by
  have:=afI c l
  rw[List.length_map]
  omega
 refine⟨.ref s.heap.objs.size,upd H s.heap.objs.size (.lst ((spl c l).map fun q=>V.str (Tx q))),I.laid (t':=k) (fun b u e=>Heap.get?_push_of_some _ e) (Nat.le_refl _) ?_,rfl,q _ (I.hok.fresh (Nat.le_refl _))⟩
 exact⟨hl,strValues ps,0,by rw[←e2];exact ajJ ps,Heap.get?_push_size _ rfl⟩
theorem arC{o e:Expr}{to te:TE}{apos cpos:Pos}(ho:E X o to)(he:E X e te)(hbase:attributeBase o "split" X.env (eval o X.env)=eval o X.env:=by rfl)
  (hfew:((backTo cpos (starEach [e] X.env)).all (fun x=> !x.1)&&(backToKw cpos (keywordEach [] X.env)).all (fun x=>x.1.isSome)&&decide (([e]:List Expr).length+([]:List Keyword).length+(if ([]:List Keyword).isEmpty then 0 else 1)<30))=true:=by rfl)
  (hline:(apos.endLine==cpos.line)=true:=by rfl) (hs:starEach [e] X.env=(false,eval e X.env)::starEach [] X.env:=by rfl) (hplain:(backTo cpos (starEach [] X.env)).any (·.1)=false:=by rfl):
  E X (.Call (.Attribute o "split" apos) [e] [] cpos) (tBM X.K "str" axQ to (aiH te ae4)):=
 ⟨an2 PySem.F.plainAttrs_str PySem.F.slot_str_split PySem.F.type_str_split axJ ho.h (acR he.h aeT hs) hbase hfew hline hs hplain⟩
theorem oInX:Op2 X (compareOp .In) (fun x y H Q=>∃(c:Nat) (l:List Nat),x=.str (Tx [c])/\y=.str (Tx l)/\Q (.bl (decide (c∈l))) H):=by
 refine⟨fun pins s σ H x y v u Q I rx ry h=>?_⟩
 obtain⟨c,l,rfl,rfl,q⟩:=h
 refine aqZ pins s σ H _ _ v u Q I rx ry ⟨_,_,rfl,rfl,?_⟩
 rw[show (!(occurrences (Tx l) (Tx [c]) 0 (Tx l).length 1).isEmpty)=decide (c∈(Tx l).cps.toList) from StrLaws.found_one (Tx l) c]
 exact q
theorem axT:Cl1 X (.builtin "len") (fun xs H Q=>∃l:List Nat,xs=[.str (Tx l)]/\l.length<=sizeLine/\Q (.int l.length) H):=by
 refine⟨fun pins s σ H xs us Q I r h=>?_⟩
 obtain⟨l,rfl,hz,q⟩:=h
 refine ajZ pins s σ H _ us Q I r ⟨Tx l,rfl,by rw[abL];exact hz,?_⟩
 rw[abL]
 exact q
theorem xX:Ixs X (fun x y H Q=>∃(l:List Nat) (i:Int) (c:Nat),x=.str (Tx l)/\y=.int i/\l.length<=sizeLine/\atI l i=some c/\Q (.str (Tx [c])) H):=by
 refine⟨fun value slice pins s σ H x y v u Q I rx ry h hs=>?_⟩
 obtain⟨l,i,c,rfl,rfl,hz,ha,q⟩:=h
 exact aF5 value slice pins s σ H _ _ v u Q I rx ry ⟨Tx l,i,c,rfl,rfl,by rw[abL];exact hz,by simpa using ha,q⟩ hs
end
end L2
namespace L2
open PySem PySem.Spec PyProof.Rows PySem.Builtin PySem.Builtin.Str
section
variable{X:Cx}{pins:List (Addr×Obj)}{σ:St}{H:Hp}{s:Shared}{h':Heap}
theorem Inv.turnT{ch:List Addr}{T:Addr}{o:HO}{t':Nat}(I:Inv X pins σ H s)(k:∀b u,b∉ch->s.heap.get? b=some u->h'.get? b=some u)(hch:∀b∈ch,acP X pins H b)(hT:s.heap.objs.size<=T)(new:ObjOk X.prog X.w (upd H T o) h' T o):
  Inv X pins σ (upd H T o) {s with heap:=h',toks:=t'}:=by
 have hn:=I.hok.fresh hT
 have nit:∀b u,H b=some u->b∉ch:=fun b u e z=>by rw[(hch b z).1] at e;cases e
 refine I.step (g':=s.gens) (d':=s.drawn) (ch:=ch) (fun b hb=>?_) (fun b u _ _ hc e _=>k b u hc e) (fun b u _ _ hc e _=>⟨u.slots,k b u hc e⟩) (fun b u _ e n=>?_)
  (fun b u hc e=>⟨u,k b u hc e⟩) (fun b xs e=>by rw[aaE (aaJ e hn)];exact e) (fun b u xs e=>by rw[aaE (aaJ e hn)];exact e) (fun b ps e=>⟨#[],by rw[aaE (aaJ e hn),e];simp⟩) (fun m hm=>?_) (fun b u e=>?_) I.bare
 ·obtain⟨f0,f1,f2,f3,f4,f5⟩:=hch b hb
  exact⟨f3,f1,f4,f5⟩
 ·rw[aaE (Nat.ne_of_lt (Nat.lt_of_lt_of_le (Heap.lt_size e) hT))]
  exact n
 ·obtain⟨ob,es,ep,ho,r⟩:=hm
  exact⟨ob,es,ep,k _ ob (fun z=>(hch _ z).2.1 rfl) ho,r⟩
 ·by_cases hb:b=T
  ·subst hb;rw[aaA] at e;cases e;exact new
  ·rw[aaE hb] at e
   refine (I.hok b u e).stay (fun c v hc q=>k c v ?_ q) (fun c q=>by rw[aaE (aaJ q hn)];exact q) fun c xs q=>by rw[aaE (aaJ q hn)];exact q
   rcases hc with z | z
   ·rw[z];exact nit b u e
   ·exact nit c _ z
theorem Inv.turnN{ch:List Addr}{t':Nat}(I:Inv X pins σ H s)(k:∀b u,b∉ch->s.heap.get? b=some u->h'.get? b=some u)(hch:∀b∈ch,acP X pins H b):Inv X pins σ H {s with heap:=h',toks:=t'}:=by
 have nit:∀b u,H b=some u->b∉ch:=fun b u e z=>by rw[(hch b z).1] at e;cases e
 refine I.step (g':=s.gens) (d':=s.drawn) (ch:=ch) (fun b hb=>?_) (fun b u _ _ hc e _=>k b u hc e) (fun b u _ _ hc e _=>⟨u.slots,k b u hc e⟩) (fun b u _ e n=>n)
  (fun b u hc e=>⟨u,k b u hc e⟩) (fun b xs e=>e) (fun b u xs e=>e) (fun b ps e=>⟨#[],by rw[e];simp⟩) (fun m hm=>?_) (fun b u e=>?_) I.bare
 ·obtain⟨f0,f1,f2,f3,f4,f5⟩:=hch b hb
  exact⟨f3,f1,f4,f5⟩
 ·obtain⟨ob,es,ep,ho,r⟩:=hm
  exact⟨ob,es,ep,k _ ob (fun z=>(hch _ z).2.1 rfl) ho,r⟩
 ·refine (I.hok b u e).stay (fun c v hc q=>k c v ?_ q) (fun c q=>q) fun c xs q=>q
  rcases hc with z | z
  ·rw[z];exact nit b u e
  ·exact nit c _ z
end
def Ite(K:PySem.W.Frag)(a:Addr):It:=
 ⟨fun i H=>∃xs x,SqL K H a xs/\xs[i]? =some x,fun i H v H'=>∃T,v=.ref T/\H T=none/\∀xs,SqL K H a xs->∃x,xs[i]? =some x/\H'=upd H T (.tup [.int i,x]),fun i H=>∃xs,SqL K H a xs/\xs.length=i⟩
theorem aqF{P:Program}{w:World}{K:PySem.W.Frag}{es:List Expr}{kk:Nat}{pos:Pos}(a e it:Addr)(hne:e≠it):Turn P w K (.Tuple es kk pos) (Ite K a) [e,it] e (fun i h=>(∃old,IsEnum h e it i old)/\h.IsListIter it a i) where
 mem:=by simp
 obj:=fun i h st b hb=>by
  obtain⟨⟨old,he⟩,o,e1,c,d⟩:=st
  rcases List.mem_cons.mp hb with z | z
  ·subst z
   exact⟨_,he,fun v q=>by
    have q':Data.fields _=Data.cell v:=q
    cases q'⟩
  ·have z:b=it:=by simpa using z
   subst z
   exact⟨o,e1,fun v q=>by rw[d] at q;cases q⟩
 keep:=fun i h h' st k=>by
  obtain⟨⟨old,he⟩,hit⟩:=st
  exact⟨⟨old,k e (by simp) _ he⟩,hit.at fun o q=>k it (by simp) o q⟩
 item:=by
  intro X hP hw hK hc i pins s σ H E I hf st hg
  subst hP hw hK
  obtain⟨xs,x,hq,hx⟩:=hg
  obtain⟨⟨old,he⟩,hit⟩:=st
  obtain⟨its,rv,p,hz⟩:=I.list hq
  obtain⟨u,hu,ru⟩:=rv.get hx
  refine wpAny_pyNext_enum_item he hit p.isList (x:=u) (by simpa using hu) hne fun h1 ho hit1 hT hsz hk=>?_
  refine⟨_,rfl,wpAny_letOwnedTupleGo_enum ho fun h2 he2 sb=>?_⟩
  have ele:e<s.heap.objs.size:=Heap.lt_size he
  have k2:∀b ob,b∉[e,it]->s.heap.get? b=some ob->h2.get? b=some ob:=fun b ob hb q=>by
   have n1:b≠e:=fun z=>hb (by simp[z])
   have n2:b≠it:=fun z=>hb (by simp[z])
   exact (sb.2 b n1).trans (hk b ob n1 n2 q)
  have hTn:s.heap.objs.size≠e:=Nat.ne_of_gt ele
  have hT2:h2.get? s.heap.objs.size=some {cls:=.type "tuple",data:=.seq #[.int i s.toks,u]}:=(sb.2 _ hTn).trans hT
  have hn:=I.hok.fresh (Nat.le_refl s.heap.objs.size)
  have I2:Inv X pins σ (upd H s.heap.objs.size (.tup [.int i,x])) {s with heap:=h2,toks:=s.toks+1}:=I.turnT k2 hf (Nat.le_refl _) ⟨by show 2<=sizeLine;decide,[.int i s.toks,u],.cons ⟨_,rfl⟩ (.cons ru .nil),⟨_,hT2,rfl,_,rfl⟩⟩
  refine⟨.ref s.heap.objs.size,_,I2,rfl,⟨s.heap.objs.size,rfl,hn,fun ys hy=>⟨x,by rw[I.list_inj hy hq];exact hx,rfl⟩⟩,⟨⟨_,by simpa using he2⟩,hit1.at fun o q=>(sb.2 it (Ne.symm hne)).trans q⟩,fun b hb=>?_⟩
  have hblt:b<s.heap.objs.size:=by
   rcases List.mem_cons.mp hb with z | z
   ·rw[z];exact ele
   ·have z:b=it:=by simpa using z
    obtain⟨o,q,_⟩:=hit
    rw[z];exact Heap.lt_size q
  rw[aaE (Nat.ne_of_lt hblt)]
  exact (hf b hb).1
 done:=by
  intro X hP hw hK hc i pins s σ H E I hf st hg
  subst hP hw hK
  obtain⟨xs,hq,hx⟩:=hg
  obtain⟨⟨old,he⟩,hit⟩:=st
  obtain⟨its,rv,p,hz⟩:=I.list hq
  have hl:=rv.length
  refine wpAny_pyNext_enum_end (I.ok.hd hc) he hit p.isList (by simp;omega) fun h' hk=>⟨rfl,?_⟩
  exact I.turnN (ch:=[e,it]) (t':=s.toks) (fun b ob hb q=>hk b ob (fun z=>hb (by simp[z])) q) hf
 self:=fun _ _ _ _ _ st h=>by
  obtain⟨⟨old,he⟩,_⟩:=st
  exact wpAny_pyIter_enum he h
section
variable{X:Cx}{es:List Expr}{kk:Nat}{tpos:Pos}
def iEnu(K:PySem.W.Frag)(tl:TE):TI:=fun σ H R=>tl σ H fun x H1=>∃a,x=.ref a/\(∃xs,SqL K H1 a xs)/\R (Ite K a) H1
theorem as5:bootBuiltins "enumerate"=some (.type "enumerate"):=by decide +kernel
theorem iE{l:Expr}{tl:TE}{p pos:Pos}(hm:X.mg "enumerate"=none)(hl:E X l tl)(hg:Gl X "enumerate":=by rfl)(hs:starEach [l] X.env=[(false,eval l X.env)]:=by rfl):
  Il X (.Tuple es kk tpos) (.Call (.Name "enumerate" p) [l] [] pos) (iEnu X.K tl):=by
 refine⟨fun pins s σ H R I h=>?_⟩
 have hA:PA X [l] (aiH tl ae4):=acR hl.h aeT hs
 refine Call_ (af0 I hg hm as5 (PyProof.Rows.callWith_type1 (thn (hA pos pins s σ H (fun vs H1=>match vs with | [x]=>∃a,x=.ref a/\(∃xs,SqL X.K H1 a xs)/\R (Ite X.K a) H1 | _=>False) I ?_) fun us s1 ⟨vs,H1,I1,r1,q1⟩=>?_) hs rfl))
 ·exact h
 match vs,q1,r1 with
 |[x],q1,r1=>?_
 obtain⟨a,rfl,⟨xs,hq⟩,q⟩:=q1
 obtain⟨u,rfl,rx⟩:=ab8 r1
 cases rx
 obtain⟨its,rv,pl,hz⟩:=I1.list hq
 refine call_enumerate_list pl.isList fun h' he hit hsz hk=>?_
 refine wpAny_pyIter_enum he ?_
 have I2:Inv X pins σ H1 {s1 with heap:=h'}:=I1.kept (t':=s1.toks) hk
 have hne:s1.heap.objs.size+1≠s1.heap.objs.size:=Nat.ne_of_gt (Nat.lt_succ_self _)
 refine⟨s1.heap.objs.size+1,[s1.heap.objs.size+1,s1.heap.objs.size],_,_,H1,rfl,I2,aqF a _ _ hne,⟨⟨_,he⟩,hit⟩,fun b hb=>?_,q⟩
 have hb2:s1.heap.objs.size<=b:=by
  rcases List.mem_cons.mp hb with z | z
  ·rw[z];exact Nat.le_succ _
  ·have z:b=s1.heap.objs.size:=by simpa using z
   rw[z];exact Nat.le_refl _
 exact I1.fpOk hb2 (I1.hok.fresh hb2)
end
theorem al8{K:PySem.W.Frag}{a:Addr}{xs:List V}{g:TG}{tb:TS}{D:Ends}{σ:St}{H:Hp}(Pv:Nat->St->Hp->Prop)(h0:Pv 0 σ H)(hl:∀i σ H,i<=xs.length->Pv i σ H->SqL K H a xs)
  (hs:∀i x σ H T,xs[i]? =some x->Pv i σ H->H T=none->g (.ref T) σ (upd H T (.tup [.int i,x])) fun σ2 H2=>tb {D with nx:=Pv (i+1),ct:=Pv (i+1),bk:=D.nx} σ2 H2) (hd:∀σ H,Pv xs.length σ H->D.nx σ H):
  ∃W:Nat->Nat->St->Hp->Prop,(∃m,W 0 m σ H)/\∀i m σ H,W i m σ H->
   ((Ite K a).stop i H/\D.nx σ H)∨((Ite K a).go i H/\∃N:St->Hp->Prop,(∀σ' H',N σ' H'->∃m',m'<m/\W (i+1) m' σ' H')/\∀x H',(Ite K a).yld i H x H'->g x σ H' fun σ2 H2=>tb {D with nx:=N,ct:=N,bk:=D.nx} σ2 H2):=by
 refine⟨fun i m σ H=>m=xs.length-i/\i<=xs.length/\Pv i σ H,⟨xs.length,by simp,Nat.zero_le _,h0⟩,?_⟩
 rintro i m σ H ⟨rfl,hi,p⟩
 have hq:=hl i σ H hi p
 by_cases hlt:i<xs.length
 ·refine .inr ⟨⟨xs,xs[i],hq,by simp[hlt]⟩,Pv (i+1),fun σ' H' p'=>⟨xs.length-(i+1),by omega,rfl,hlt,p'⟩,fun x H' y=>?_⟩
  obtain⟨T,rfl,hT,hy⟩:=y
  obtain⟨x,hx,rfl⟩:=hy xs hq
  exact hs i x σ H T hx p hT
 ·have e:i=xs.length:=by omega
  subst e
  exact .inl ⟨⟨xs,hq,rfl⟩,hd σ H p⟩
def num(m:Nat):List Nat:=(Nat.toDigits 10 m).map Char.toNat
section
variable{X:Cx}
theorem aM3:Cl1 X (.type "int") (fun xs H Q=>∃l:List Nat,xs=[.str (Tx l)]/\PySem.NumText.AllDigits l/\l≠[]/\l.length<=640/\Q (.int ((PySem.NumText.digitsVal l:Nat):Int)) H):=by
 refine⟨fun pins s σ H xs us Q I r h=>?_⟩
 obtain⟨l,rfl,h1,h2,h3,q⟩:=h
 obtain⟨u,rfl,t,rfl⟩:=ab8 r
 refine PySem.W.KIN.call_text (PySem.intText_digits (x:=Tx l) (by simpa using h1) (by simpa using h2) (by rw[abL];omega)) (by rw[abL];exact h3) ?_
 exact⟨.int _,H,I.tok _,⟨_,rfl⟩,by simpa using q⟩
end
end L2
namespace L2
open PySem PySem.Spec PyProof.Rows PySem.Builtin PySem.Builtin.Str
theorem ifT{b:Bool}{A B:Prop}(e:b=true)(h:A):if b=true then A else B:=by rw[if_pos e];exact h
theorem ifF{b:Bool}{A B:Prop}(e:b=false)(h:B):if b=true then A else B:=by rw[if_neg (by rw[e];exact Bool.false_ne_true)];exact h
theorem if2{b:Bool}{A B:Prop}(h1:b=true->A)(h2:b=false->B):if b=true then A else B:=by
 cases b
 ·exact ifF rfl (h2 rfl)
 ·exact ifT rfl (h1 rfl)
theorem auK(a b:List Nat):decide (V.str (Tx a)=V.str (Tx b))=decide (a=b):=decide_eq_decide.mpr ⟨fun h=>Tx_inj.mp (V.str.inj h),fun h=>by rw[h]⟩
section
variable{X:Cx}{pos:Pos}
theorem eSx{z:Str}{j}(l:List Nat)(h:z=Tx l:=by decide +kernel):E X (.Constant (.str z) j pos) (tC (.str (Tx l))):=by
 subst h
 exact⟨aF0⟩
end
def afB(c:Nat):Bool:=decide (48<=c)&&decide (c<=57)
def aLJ:List Nat:=[48,49,50,51,52,53,54,55,56,57]
theorem atH(c:Nat):decide (c∈aLJ)=afB c:=by
 unfold aLJ afB
 rw[Bool.eq_iff_iff,decide_eq_true_eq,Bool.and_eq_true,decide_eq_true_eq,decide_eq_true_eq]
 simp
 omega
def alN(l:List Nat):Bool:= !decide (l=[])&&l.all afB
def isW(l:List Nat):Bool:=alN l&&(decide (l=[48])|| !decide (l.headD 0=48))
def dv(l:List Nat):Int:=((PySem.NumText.digitsVal l:Nat):Int)
def aaU(lo hi:Int)(l:List Nat):Option Int:=if isW l=true then (if lo<=dv l/\dv l<=hi then some (dv l) else none) else none
def oV:Option Int->V
 |none=>.non
 |some n=>.int n
def agQ(es:List (Option Int)):Option (Int×Int):=match es with
 |[some a]=>some (a,a)
 |[some a,some b]=>if b<a then none else some (a,b)
 |_=>none
def aaV(lo hi:Int)(l:List Nat):Option (Int×Int):=if l=[42] then some (lo,hi) else agQ ((spl 45 l).map (aaU lo hi))
@[irreducible] def adH(a b s:Int):List Int:=(List.range (Builtin.Range.rangeSize a (b+1) s).toNat).map fun i:Nat=>a+(i:Int)*s
theorem ahJ(a b s:Int):adH a b s=(List.range (Builtin.Range.rangeSize a (b+1) s).toNat).map fun i:Nat=>a+(i:Int)*s:=by rw[adH]
def ahD(a b s:Int):Int:=abV (adH a b s)
def abB(lo hi:Int)(r s:List Nat):Option Int:=
 match aaV lo hi r,aaU 1 99 s with
 |some (a,b),some st=>some (ahD a (if isW r=true then hi else b) st)
 |_,_=>none
def aaG(lo hi:Int)(l:List Nat):Option Int:=
 match spl 47 l with
 |[r,s]=>abB lo hi r s
 |_=>match aaV lo hi l with
  |some (a,b)=>some (ahD a b 1)
  |none=>none
theorem am7{l:List Nat}(h:isW l=true):PySem.NumText.AllDigits l/\l≠[]:=by
 unfold isW alN at h
 rw[Bool.and_eq_true,Bool.and_eq_true] at h
 refine⟨fun c hc=>?_,fun e=>?_⟩
 ·have:=List.all_eq_true.mp h.1.2 c hc
  unfold afB at this
  rw[Bool.and_eq_true] at this
  exact⟨of_decide_eq_true this.1,of_decide_eq_true this.2⟩
 ·rw[decide_eq_true e] at h
  exact absurd h.1.1 (by decide)
theorem ahN{a b s:Int}(hs:0<s):Builtin.Range.rangeSize a (b+1) s=if a<=b then (b-a) / s+1 else 0:=by
 unfold Builtin.Range.rangeSize
 rw[if_pos hs]
 by_cases c:a<=b
 ·rw[if_pos c,if_pos (by omega),show b+1-a-1=b-a by omega]
 ·rw[if_neg c,if_neg (by omega)]
theorem aj4{a b s z:Int}(hs:0<s):z∈adH a b s↔a<=z/\z<=b/\(z-a)%s=0:=by
 rw[ahJ,List.mem_map,ahN hs]
 refine⟨fun ⟨i,hi,e⟩=>?_,fun ⟨h1,h2,h3⟩=>?_⟩
 ·subst e
  by_cases c:a<=b
  ·rw[if_pos c,List.mem_range] at hi
   have hq:(i:Int)<=(b-a) / s:=by
    have:0<=(b-a) / s:=Int.ediv_nonneg (by omega) (by omega)
    omega
   have hm:(i:Int)*s<=(b-a) / s*s:=Int.mul_le_mul_of_nonneg_right hq (by omega)
   have hd:(b-a) / s*s<=b-a:=Int.ediv_mul_le _ (by omega)
   have h0:0<=(i:Int)*s:=Int.mul_nonneg (by omega) (by omega)
   refine⟨by omega,by omega,?_⟩
   rw[show a+(i:Int)*s-a=(i:Int)*s by omega]
   exact Int.mul_emod_left _ _
  ·rw[if_neg c,List.mem_range] at hi
   exact absurd hi (by simp)
 ·rw[if_pos (by omega)]
  have hd:s*((z-a) / s)+(z-a)%s=z-a:=Int.mul_ediv_add_emod _ _
  rw[h3,Int.add_zero] at hd
  have h0:0<=(z-a) / s:=Int.ediv_nonneg (by omega) (by omega)
  have hle:(z-a) / s<=(b-a) / s:=Int.ediv_le_ediv hs (by omega)
  refine⟨((z-a) / s).toNat,List.mem_range.mpr (by omega),?_⟩
  rw[Int.toNat_of_nonneg h0,Int.mul_comm]
  omega
theorem aoE{a b s:Int}(h0:0<=a)(h1:b<=1000)(hs:0<s):(Builtin.Range.rangeSize a (b+1) s).toNat<=1001/\Builtin.Range.rangeSize a (b+1) s=((Builtin.Range.rangeSize a (b+1) s).toNat:Int):=by
 have hz:=anY (a:=a) (b:=b+1) hs
 refine⟨?_,by omega⟩
 rw[ahN hs]
 split
 ·have:(b-a) / s<=b-a:=Int.ediv_le_self _ (by omega)
  omega
 ·decide
theorem atR{a b s:Int}(h0:0<=a)(ha:a<=1000)(h1: -1<=b)(hb:b<=1000)(hs:0<s)(hs2:s<=1000):Builtin.Range.small a (b+1) s=true:=by
 have hl:=aoE h0 hb hs
 have hz:=anY (a:=a) (b:=b+1) hs
 unfold Builtin.Range.small
 simp only[Builtin.Range.rangeFitsLong,Bool.and_eq_true,Bool.or_eq_true,decide_eq_true_eq,beq_iff_eq]
 refine⟨⟨⟨⟨?_,?_⟩,?_⟩,?_⟩,.inr ?_⟩
 ·exact⟨by omega,by omega⟩
 ·exact⟨by omega,by omega⟩
 ·exact⟨by omega,by omega⟩
 ·exact⟨by omega,by omega⟩
 ·rw[if_pos hs]
  simp only[Bool.and_eq_true,decide_eq_true_eq]
  exact⟨by omega,by omega⟩
end L2
namespace L2
open PySem PySem.Spec PyProof.Rows PySem.Builtin PySem.Builtin.Str
theorem alC{lo hi a:Int}{l:List Nat}(h:aaU lo hi l=some a):lo<=a/\a<=hi:=by
 unfold aaU at h
 split at h
 ·split at h
  ·rename_i c
   have:=Option.some.inj h
   omega
  ·cases h
 ·cases h
theorem aiU{lo hi a b:Int}{l:List Nat}(hle:lo<=hi)(h:aaV lo hi l=some (a,b)):(lo<=a/\a<=hi)/\lo<=b/\b<=hi:=by
 unfold aaV at h
 split at h
 ·cases h;omega
 ·have key:∀es:List (Option Int),(∀e∈es,∀x,e=some x->lo<=x/\x<=hi)->agQ es=some (a,b)->(lo<=a/\a<=hi)/\lo<=b/\b<=hi:=by
   intro es hb h
   match es,hb,h with
   |[some x],hb,h=>
    have h:some (x,x)=some (a,b):=h
    cases h
    have:=hb _ (by simp) a rfl
    exact⟨this,this⟩
   |[some x,some y],hb,h=>
    have h:(if y<x then none else some (x,y))=some (a,b):=h
    split at h
    ·cases h
    ·cases h
     exact⟨hb (some a) (by simp) a rfl,hb (some b) (by simp) b rfl⟩
   |[],_,h=>cases h
   |[none],_,h=>cases h
   |[none,y],_,h=>cases h
   |[some x,none],_,h=>cases h
   |x::y::u::r,_,h=>cases x<;>cases y<;>cases h
  refine key _ (fun e he x hx=>?_) h
  obtain⟨w,_,rfl⟩:=List.mem_map.mp he
  exact alC hx
def orM(ms:List Int):Int:=ms.foldl (fun a m=>Builtin.bitOr a m) 0
theorem alY(ms:List Int)(m:Int):orM (ms++[m])=Builtin.bitOr (orM ms) m:=by unfold orM;rw[List.foldl_append];rfl
theorem aiB:∀(ms:List Int) (a:Int),0<=a->(∀m∈ms,0<=m)->0<=ms.foldl (fun a m=>Builtin.bitOr a m) a/\∀i,tb (ms.foldl (fun a m=>Builtin.bitOr a m) a) i=(tb a i||ms.any fun m=>tb m i)
 |[],a,h,_=>⟨h,fun i=>by simp⟩
 |m::ms,a,h,hm=>by
  have hp:=hm m (by simp)
  obtain⟨h1,h2⟩:=aiB ms (Builtin.bitOr a m) (alP h hp) fun z hz=>hm z (by simp[hz])
  refine⟨h1,fun i=>?_⟩
  show tb (ms.foldl _ (Builtin.bitOr a m)) i=_
  rw[h2 i,ayQ h hp,List.any_cons,Bool.or_assoc]
theorem aeS{ms:List Int}(h:∀m∈ms,0<=m):0<=orM ms:=(aiB ms 0 (Int.le_refl 0) h).1
theorem aeU{ms:List Int}(h:∀m∈ms,0<=m)(i:Nat):tb (orM ms) i=ms.any fun m=>tb m i:=by
 have:=(aiB ms 0 (Int.le_refl 0) h).2 i
 rw[ad1,Bool.false_or] at this
 exact this
def acO(lo hi:Int)(l:List Nat):List Int:=(spl 44 l).map fun w=>(aaG lo hi w).getD 0
def anR(lo hi:Int)(l:List Nat):Prop:=(spl 44 l).length<=40/\∀w∈spl 44 l,(aaG lo hi w).isSome=true
theorem ajW:∀n:Nat,n<100->isW (num n)=true/\dv (num n)=(n:Int)/\((num n).all fun c=>afB c)=true/\(num n).length<=2:=by decide +kernel
theorem abA{n c:Nat}(h:n<100)(hc:afB c=false):c∉num n:=fun hm=>by
 have:=List.all_eq_true.mp (ajW n h).2.2.1 c hm
 rw[hc] at this
 cases this
theorem aGX{n:Nat}(h:n<100):num n≠[42]:=fun e=>by
 have:=abA h (c:=42) (by decide)
 rw[e] at this
 exact this (by simp)
theorem ad2{n:Nat}{lo hi:Int}(h:n<100)(h1:lo<=n)(h2:(n:Int)<=hi):aaU lo hi (num n)=some (n:Int):=by
 obtain⟨a,b,_⟩:=ajW n h
 unfold aaU
 rw[if_pos a,b,if_pos ⟨h1,h2⟩]
theorem an3{n:Nat}{lo hi:Int}(h:n<100)(h1:lo<=n)(h2:(n:Int)<=hi):aaV lo hi (num n)=some ((n:Int),(n:Int)):=by
 unfold aaV
 rw[if_neg (aGX h),acL 45 _ (abA h (by decide))]
 show agQ [aaU lo hi (num n)]=_
 rw[ad2 h h1 h2]
 rfl
theorem azP{n m:Nat}{lo hi:Int}(h:n<100)(h':m<100)(h1:lo<=n)(h2:n<=m)(h3:(m:Int)<=hi):aaV lo hi (num n++45::num m)=some ((n:Int),(m:Int)):=by
 unfold aaV
 rw[if_neg (fun e=>by (have:45∈num n++45::num m:=(by simp));rw[e] at this;simp at this),ahI 45 _ _ (abA h (by decide)),acL 45 _ (abA h' (by decide))]
 show agQ [aaU lo hi (num n),aaU lo hi (num m)]=_
 rw[ad2 h h1 (by omega),ad2 h' (by omega) h3]
 show (if (m:Int)<n then none else some ((n:Int),(m:Int)))=_
 rw[if_neg (by omega)]
theorem alA{lo hi:Int}:aaV lo hi [42]=some (lo,hi):=by unfold aaV;rw[if_pos rfl]
theorem aiQ{lo hi a b:Int}{r:List Nat}(hf:47∉r)(h:aaV lo hi r=some (a,b)):aaG lo hi r=some (ahD a b 1):=by
 unfold aaG
 rw[acL 47 r hf,h]
theorem al4{lo hi a b:Int}{r:List Nat}{s:Nat}(hf:47∉r)(h:aaV lo hi r=some (a,b))(hs:s<100)(hs1:1<=s):aaG lo hi (r++47::num s)=some (ahD a (if isW r=true then hi else b) s):=by
 unfold aaG
 rw[ahI 47 r _ hf,acL 47 _ (abA hs (by decide))]
 show abB lo hi r (num s)=_
 unfold abB
 rw[h,ad2 hs (by omega) (by omega)]
end L2
namespace L2
open PySem PySem.Spec PyProof.Rows PySem.Builtin PySem.Builtin.Str
section
variable{X:Cx}
theorem aEW:Op2 X (binaryOp .Add) (fun x y H Q=>∃(a b:Addr) (xs ys:List V),x=.ref a/\y=.ref b/\SqL X.K H a xs/\SqL X.K H b ys/\xs.length+ys.length<=sizeLine/\∀p,H p=none->Q (.ref p) (upd H p (.lst (xs++ys)))):=by
 refine⟨fun pins s σ H x y v u Q I rx ry h=>?_⟩
 obtain⟨a,b,xs,ys,rfl,rfl,ha,hb,hz,q⟩:=h
 cases rx
 cases ry
 obtain⟨i1,r1,p1,z1⟩:=I.list ha
 obtain⟨i2,r2,p2,z2⟩:=I.list hb
 obtain⟨⟨cls,dd,data,sl⟩,ho,hc,n,hd⟩:=p1.isList
 obtain⟨⟨cls2,dd2,data2,sl2⟩,ho2,hc2,n2,hd2⟩:=p2.isList
 simp only at hc hd hc2 hd2
 subst hc hd hc2 hd2
 have l1:=r1.length
 have l2:=r2.length
 refine concat_meets ⟨_,ho,rfl⟩ ⟨_,ho2,rfl⟩ noFill_list_add seq_list_add PySem.F.slot_list_add PySem.F.entry_list_add (PySem.F.args_list_add_2 _ _) (list_addW a b _ _ n n2 dd dd2 sl sl2 (by simp only[List.size_toArray];omega)) ⟨ho,ho2,?_⟩
 refine⟨.ref s.heap.objs.size,upd H s.heap.objs.size (.lst (xs++ys)),I.laid (t':=s.toks) (fun b u e=>Heap.get?_push_of_some _ e) (Nat.le_refl _) ?_,rfl,q _ (I.hok.fresh (Nat.le_refl _))⟩
 exact⟨by rw[List.length_append];exact hz,i1++i2,0,r1.append r2,by simpa using Heap.get?_push_size _ rfl⟩
end
def awS(J:It)(k:Nat)(js:List Nat)(g:TG)(σ:St)(tt:TT)(te:TE)(Q:VK)(H1:Hp):Prop:=∀D,H1 D=none->∃W:Nat->Nat->Hp->Prop,(∃m,W 0 m (upd H1 D (.lst [])))/\∀i m H2,W i m H2->
 (J.stop i H2/\Q (.ref D) H2)∨(J.go i H2/\∀v H3,J.yld i H2 v H3->∀τ:St,τ.length=k->g v (τ++aaW js σ) H3 fun σ2 H3'=>(∃τ':St,τ'.length=k/\σ2=τ'++aaW js σ)/\tt σ2 H3' fun b H4=>if b=true then
  te σ2 H4 fun y H5=>∃ys,H5 D=some (.lst ys)/\ys.length<sizeLine/\∃m',m'<m/\W (i+1) m' (upd H5 D (.lst (ys++[y])))
  else ∃m',m'<m/\W (i+1) m' H4)
def atV(wi:TI)(k:Nat)(js:List Nat)(g:TG)(tt:TT)(te:TE):TE:=fun σ H Q=>wi σ H fun J H1=>awS J k js g σ tt te Q H1
section
variable{X:Cx}{elt iter tg:Expr}{xs:List Str}{y:Str}{py pos spos:Pos}{ifs:List Expr}{scope:Scope}{cl:List (Str×Addr)}{N':List Str}{js:List Nat}{tt:TT}{te:TE}{g:TG}{wi:TI}
theorem alR{pins:List (Addr×Obj)}{σ:St}{H:Hp}{s s4:Shared}{fp:List Addr}{C:Addr}{m4:Str->Option Value}(hcl:Clos X scope cl)(hN:js.map (fun j=>X.N[j]?)=N'.map some)
  (hk:N'.all (fun y=>(X.env.kindOf y==some .cell)||(X.env.kindOf y==some .free))=true) (hf:N'.all (fun y=>scope.names.lookup y==some .free)=true)
  (I:Inv X pins σ H s) (hfp:∀b∈fp,acP X pins H b/\b<s.heap.objs.size) (hC:C=s.heap.objs.size) (ho:s4.os=s.os) (hg:s4.gens=s.gens) (hkeep:∀b o,s.heap.get? b=some o->s4.heap.get? b=some o) (hn:s4.heap.Ns C m4):
  Inv (aaL X (xs++N') scope cl C fp pins s H) [] (List.replicate xs.length none++aaW js σ) H s4:=by
 have hne:∀b o,s.heap.get? b=some o->b≠C:=fun b o e=>by rw[hC];exact Nat.ne_of_lt (Heap.lt_size e)
 refine⟨⟨I.ok.mod,hcl.kind,I.ok.glob,I.ok.blt,Nat.le_of_eq hC.symm,fun y z c h1 h2=>I.ok.inj y z c (hcl.sub y c h1) (hcl.sub z c h2),fun y hy=>hcl.has y (ajO (fun z=>hcl.nocell _ (PySem.mem_of_lookup z) rfl) (by rw[←acT];exact hy)),fun y c h _=>(nomatch h),I.ok.hd,I.ok.frames,.inl rfl,fun b hb=>⟨?_,fun y c e=>(hfp b hb).1.2.2.2.2.1 y c (hcl.sub y c e)⟩,
  I.bs,Nat.le_trans I.ok.bsz I.sz,fun b o e hb=>?_,fun b hb hz=>?_,I.stack,I.stkFree⟩,ho,by rw[hg];exact I.bare,Un.kept hkeep,⟨m4,hn,fun i y v h1 h2 h3=>?_⟩,fun y c e=>?_,?_,fun y c e=>I.freeC y c (hcl.sub y c e),fun p hp=>?_,I.hok.kept hkeep,?_⟩
 ·rw[hC];exact Nat.ne_of_lt (hfp b hb).2
 ·rcases (hfp b hb).1.2.2.2.1 with z | z
  ·exact I.ok.noex b o e z
  ·exact absurd (Nat.lt_of_lt_of_le (Heap.lt_size e) (Nat.le_trans I.ok.bsz z)) (Nat.lt_irrefl _)
 ·rcases List.mem_cons.mp (I.stkSub b hz) with z | z
  ·exact (hfp b hb).1.2.1 z
  ·exact (hfp b hb).1.2.2.1 z
 ·by_cases hi:i<xs.length
  ·rw[List.getElem?_append_left (by rw[List.length_replicate];exact hi),List.getElem?_replicate,if_pos hi] at h2
   exact nomatch h2
  ·obtain⟨j0,rfl⟩:∃j0,i=xs.length+j0:=⟨i-xs.length,by omega⟩
   have h1:N'[j0]? =some y:=by
    have h1:(xs++N')[xs.length+j0]? =some y:=h1
    rw[List.getElem?_append_right (Nat.le_add_right _ _),Nat.add_sub_cancel_left] at h1
    exact h1
   have h2:(aaW js σ)[j0]? =some (some v):=by rw[List.getElem?_append_right (by rw[List.length_replicate];exact Nat.le_add_right _ _),List.length_replicate,Nat.add_sub_cancel_left] at h2;exact h2
   generalize j0=i at h1 h2
   have hy:y∈N':=List.mem_of_getElem? h1
   have q:(js.map (fun j=>X.N[j]?))[i]? =some (some y):=by rw[hN,List.getElem?_map,h1];rfl
   rw[List.getElem?_map] at q
   cases ej:js[i]? with
   |none=>rw[ej] at q;cases q
   |some j=>
    rw[ej] at q
    have q:X.N[j]? =some y:=Option.some.inj q
    unfold aaW at h2
    rw[List.getElem?_map,ej] at h2
    have h2:(σ[j]?).getD none=some v:=Option.some.inj h2
    have h2:σ[j]? =some (some v):=by
     cases e:σ[j]? with
     |none=>rw[e] at h2;cases h2
     |some o=>rw[e] at h2;exact congrArg some h2
    have kk:=List.all_eq_true.mp hk y hy
    have kk:X.env.kindOf y=some .cell∨X.env.kindOf y=some .free:=by simpa using kk
    have ff:=List.all_eq_true.mp hf y hy
    have ff:scope.names.lookup y=some .free:=by simpa using ff
    obtain⟨m,_,hl⟩:=I.loc
    obtain⟨u,r,l⟩:=hl j y v q h2 (by rcases kk with z | z;exact .inr (.inl z);exact .inr (.inr z))
    refine⟨u,r,.inr ⟨afP ff,?_⟩⟩
    obtain⟨c,hc⟩:=hcl.has y ff
    rcases l with ⟨z,_⟩ | ⟨_,c',e',cell⟩
    ·rcases kk with k | k<;>(rw[k] at z;cases z)
    ·rw[hcl.sub y c hc] at e'
     cases e'
     exact⟨c,hc,cell.keeps hkeep⟩
 ·obtain⟨v,q⟩:=I.cell y c (hcl.sub y c e)
  exact⟨v,q.keeps hkeep⟩
 ·show H C=none
  rw[hC]
  exact I.hok.fresh (Nat.le_refl _)
 ·have hp:p∈X.pn++pins:=by
   have hp:p∈(X.pn++pins)++[]:=hp
   rwa [List.append_nil] at hp
  obtain⟨e,n,ne,nf,d⟩:=I.pin p hp
  refine⟨hkeep _ _ e,n,hne _ _ e,fun z=>?_,d⟩
  rcases List.mem_cons.mp (I.stkSub p.1 z) with z | z
  ·exact ne z
  ·exact nf z
 ·show (List.replicate xs.length none++aaW js σ).length=(xs++N').length
  rw[List.length_append,List.length_append,List.length_replicate]
  have q:=congrArg List.length hN
  rw[List.length_map,List.length_map] at q
  unfold aaW
  rw[List.length_map,q]
theorem asL{pins:List (Addr×Obj)}{σ σ':St}{H H':Hp}{s s':Shared}{fp:List Addr}{C:Addr}(I:Inv X pins σ H s)(hfp:∀b∈fp,acP X pins H b)(J:Inv (aaL X (xs++N') scope cl C fp pins s H) [] σ' H' s'):Inv X pins σ H' s':=
 I.call' (ch:=fp) J.os J.base J.hok J.bare fun b hb=>⟨(hfp b hb).2.2.2.1,(hfp b hb).2.1,(hfp b hb).2.2.2.2.1,(hfp b hb).2.2.2.2.2⟩
theorem ak2{pins:List (Addr×Obj)}{σ:St}{H:Hp}{s:Shared}{Q:VK}{RR:Value->Addr->Result->Shared->Prop}{J:It}{fp:List Addr}{it:Addr}{tn:Nat->Heap->Prop}
  (hcl:Clos X scope cl) (hnd:(xs++N').Nodup) (hN:js.map (fun j=>X.N[j]?)=N'.map some)
  (hk:N'.all (fun y=>(X.env.kindOf y==some .cell)||(X.env.kindOf y==some .free))=true) (hf:N'.all (fun y=>scope.names.lookup y==some .free)=true) (hc:X.calm=true)
  (hg:∀(C:Addr) (ex:List Addr) (pins:List (Addr×Obj)) (s:Shared) (H:Hp),PG (aaL X (xs++N') scope cl C ex pins s H) tg g)
  (ht:∀(C:Addr) (ex:List Addr) (pins:List (Addr×Obj)) (s:Shared) (H:Hp),PF (aaL X (xs++N') scope cl C ex pins s H) ifs tt)
  (he:∀(C:Addr) (ex:List Addr) (pins:List (Addr×Obj)) (s:Shared) (H:Hp),PE (aaL X (xs++N') scope cl C ex pins s H) elt te)
  (I:Inv X pins σ H s) (T:Turn X.prog X.w X.K (tg) J fp it tn) (st:tn 0 s.heap) (hfp:∀b∈fp,acP X pins H b)
  (q:∀D,H D=none->∃W:Nat->Nat->Hp->Prop,(∃m,W 0 m (upd H D (.lst [])))/\∀i m H2,W i m H2->
   (J.stop i H2/\Q (.ref D) H2)∨(J.go i H2/\∀v H3,J.yld i H2 v H3->∀τ:St,τ.length=xs.length->g v (τ++aaW js σ) H3 fun σ2 H3'=>(∃τ':St,τ'.length=xs.length/\σ2=τ'++aaW js σ)/\tt σ2 H3' fun b H4=>if b=true then
    te σ2 H4 fun y H5=>∃ys,H5 D=some (.lst ys)/\ys.length<sizeLine/\∃m',m'<m/\W (i+1) m' (upd H5 D (.lst (ys++[y])))
    else ∃m',m'<m/\W (i+1) m' H4))
  (hRR:∀(D C:Addr) (s':Shared) (H':Hp) (m:Str->Option Value),Inv X pins σ H' s'->H' C=none->C≠X.env.locals->X.s₀.heap.objs.size<=C->(∀y c,X.env.cells.lookup y=some c->c≠C)->(∀p∈X.pn++pins,p.1≠C)->s'.heap.Ns C m->Q (.ref D) H'->RR (.ref D) C (.ok .next) s'):
  wpAny (model X.prog X.w) X.A (newList []) (fun acc s₃=>wpAny (model X.prog X.w) X.A (newFunctionEnv scope X.env.globals cl [] X.env.qual none .none (some X.env)) (fun cenv s₄=>
   codeAny (model X.prog X.w) X.A (.compStart (.ListComp elt [⟨tg,iter,ifs,0⟩] scope pos) 0 (.ref it) acc {cenv with scope:=relabel scope X.env}) (RR acc cenv.locals) s₄) X.xe s₃) X.xe s:=by
 refine wpAny_newObj_type ?_
 have hD:H s.heap.objs.size=none:=I.hok.fresh (Nat.le_refl _)
 have I3:Inv X pins σ (upd H s.heap.objs.size (.lst [])) {s with heap:=s.heap.push {cls:=.type "list",dict:=none,data:=.seq ([]:List Value).toArray} }:=I.lnew (its:=[]) (t':=s.toks) .nil (Nat.zero_le _)
 have hfp3:∀b∈fp,acP X pins (upd H s.heap.objs.size (.lst [])) b/\b<(s.heap.push {cls:=.type "list",dict:=none,data:=.seq ([]:List Value).toArray}).objs.size:=fun b hb=>by
  obtain⟨o,ho,_⟩:=T.obj 0 _ st b hb
  have hlt:=Heap.lt_size ho
  obtain⟨f0,f1⟩:=hfp b hb
  exact⟨⟨by rw[aaE (Nat.ne_of_lt hlt)];exact f0,f1⟩,by rw[Heap.size_push];exact Nat.lt_succ_of_lt hlt⟩
 have st3:tn 0 (s.heap.push {cls:=.type "list",dict:=none,data:=.seq ([]:List Value).toArray}):=T.keep _ _ _ st fun b _ o e=>Heap.get?_push_of_some _ e
 obtain⟨W,⟨m0,w0⟩,turn⟩:=q s.heap.objs.size hD
 generalize hs3:({s with heap:=s.heap.push {cls:=.type "list",dict:=none,data:=.seq ([]:List Value).toArray} }:Shared)=s3 at I3 ⊢
 have hh3:s.heap.push {cls:=.type "list",dict:=none,data:=.seq ([]:List Value).toArray}=s3.heap:=by rw[←hs3]
 rw[hh3] at hfp3 st3
 generalize s.heap.objs.size=D at I3 hfp3 w0 turn hD ⊢
 generalize upd H D (.lst [])=H3 at I3 hfp3 w0
 refine wpAny_newFunctionEnv hcl.nocell (by intro y hy;simp at hy) (fun h₁ hns₁ hsb₁=>?_) hcl.kind
 have hkeep:∀b o,s3.heap.get? b=some o->h₁.get? b=some o:=fun b o e=>hsb₁.extBut b o (Nat.ne_of_lt (Heap.lt_size e)) (Heap.get?_push_of_some _ e)
 have J4:Inv (aaL X (xs++N') scope cl s3.heap.objs.size fp pins s3 H3) [] (List.replicate xs.length none++aaW js σ) H3 {s3 with heap:=h₁,toks:=s3.toks+([]:List (Str×Value)).length}:=
  alR hcl hN hk hf I3 hfp3 rfl rfl rfl hkeep hns₁
 have st4:tn 0 h₁:=T.keep _ _ _ st3 fun b _ o e=>hkeep b o e
 have cell':∀{s':Shared} {σ':St} {H':Hp},Inv (aaL X (xs++N') scope cl s3.heap.objs.size fp pins s3 H3) [] σ' H' s'->Q (.ref D) H'->RR (.ref D) s3.heap.objs.size (.ok .next) s':=fun {s' σ' H'} J hq=>by
  obtain⟨m,hn,_⟩:=J.loc
  refine hRR D _ s' H' m (asL I3 (fun b hb=>(hfp3 b hb).1) J) J.free (Nat.ne_of_gt I3.lt) I3.sz (fun y c e z=>?_) (fun p hp z=>?_) hn hq
  ·obtain⟨v,k⟩:=I3.cell y c e
   exact absurd k.lt (by rw[z];exact Nat.lt_irrefl _)
  ·exact absurd (Heap.lt_size (I3.pin p hp).1) (by rw[z];exact Nat.lt_irrefl _)
 have fpX:∀{H':Hp},(∀b∈fp,H' b=none)->∀b∈fp,acP (aaL X (xs++N') scope cl s3.heap.objs.size fp pins s3 H3) [] H' b:=fun {H'} hn b hb=>by
  obtain⟨⟨f0,f1,f2,f3,f4,f5⟩,flt⟩:=hfp3 b hb
  refine⟨hn b hb,Nat.ne_of_lt flt,fun z=>?_,.inl hb,fun y c e=>f4 y c (hcl.sub y c e),fun p hp=>?_⟩
  ·rcases List.mem_cons.mp (I3.stkSub b z) with z | z
   ·exact f1 z
   ·exact f2 z
  ·have hp:p∈(X.pn++pins)++[]:=hp
   rw[List.append_nil] at hp
   exact f5 p hp
 have loop:∀s₄:Shared,s₄={s3 with heap:=h₁,toks:=s3.toks+([]:List (Str×Value)).length}->
   codeAny (model X.prog X.w) X.A (.compLoop (.ListComp elt [⟨tg,iter,ifs,0⟩] scope pos) 0 (.ref it) (.ref D) (compEnvC scope cl s3.heap.objs.size X.env)) (RR (.ref D) s3.heap.objs.size) s₄:=by
  rintro s₄ rfl
  refine aiR rfl (fun n s'=>∃i τ H',τ.length=xs.length/\Inv (aaL X (xs++N') scope cl s3.heap.objs.size fp pins s3 H3) [] (τ++aaW js σ) H' s'/\tn i s'.heap/\(∀b∈fp,H' b=none)/\W i n H') ?_ m0 ⟨0,List.replicate xs.length none,H3,List.length_replicate,J4,st4,fun b hb=>(hfp3 b hb).1.1,w0⟩
  rintro n s5 ⟨i,τ,H5,hτ,J5,st5,fr5,w5⟩
  rcases turn i n H5 w5 with ⟨stop,qn⟩ | ⟨go,step⟩
  ·refine wpAny_mono (T.done (aaL X (xs++N') scope cl s3.heap.objs.size fp pins s3 H3) rfl rfl rfl hc i [] s5 _ H5 (fun _ _=>False) J5 (fpX fr5) st5 stop) (fun r s6 ⟨hr,J6⟩=>?_) fun _ _ z=>z.elim
   subst hr
   exact cell' J6 qn
  ·refine wpAny_mono (T.item (aaL X (xs++N') scope cl s3.heap.objs.size fp pins s3 H3) rfl rfl rfl hc i [] s5 _ H5 (fun _ _=>False) J5 (fpX fr5) st5 go) (fun r s6 ⟨u,hr,h6⟩=>?_) fun _ _ z=>z.elim
   subst hr
   refine wpAny_mono h6 (fun _ s6' h6'=>?_) fun _ _ z=>z.elim
   obtain⟨v,H6,J6,r6,y6,st6,fr6⟩:=h6'
   clear h6
   have J6':=J6.pinned (fpX fr6) (T.obj _ _ st6)
   show wpAny _ _ (assign tg _ u) _ _ _
   refine wpAny_mono (hg _ _ _ _ _ _ s6' _ H6 v u _ J6' r6 (step v H6 y6 τ hτ)) (fun _ s7 h7=>?_) fun _ _ z=>z.elim
   obtain⟨_,H7,J7,⟨τ',hτ',rfl⟩,q7⟩:=h7
   have again:∀{σ8:St} {H8:Hp} {s8:Shared},Inv (aaL X (xs++N') scope cl s3.heap.objs.size fp pins s3 H3) ([]++ae1 fp s6'.heap) σ8 H8 s8->tn (i+1) s8.heap/\∀b∈fp,H8 b=none:=fun {σ8 H8 s8} J8=>by
    refine⟨T.keep _ _ _ st6 fun b hb o e=>(J8.pin (b,o) (List.mem_append_right _ (List.mem_append_right _ (abP hb e)))).1,fun b hb=>?_⟩
    obtain⟨o,e,d⟩:=T.obj _ _ st6 b hb
    exact (J8.pin (b,o) (List.mem_append_right _ (List.mem_append_right _ (abP hb e)))).2.1
   refine wpAny_mono (ht _ _ _ _ _ _ s7 _ H7 _ J7 q7) (fun ok s8 ⟨H8,J8,q8⟩=>?_) fun _ _ z=>z.elim
   cases ok with
   |false=>
    obtain⟨m',hm,w8⟩:=(show ∃m',m'<n/\W (i+1) m' H8 from q8)
    obtain⟨a1,a2⟩:=again J8
    exact⟨m',hm,i+1,τ',H8,hτ',J8.unpinned,a1,a2,w8⟩
   |true=>
    refine wpAny_mono (he _ _ _ _ _ _ s8 _ H8 _ J8 q8) (fun y s9 ⟨z,H9,J9,r9,ys,hys,hlen,m',hm,w9⟩=>?_) fun _ _ z=>z.elim
    refine wpAny_mono (afY (X:=aaL X (xs++N') scope cl s3.heap.objs.size fp pins s3 H3) _ s9 _ H9 (.ref D) [z] (.ref D) [y] (fun _ H10=>H10=upd H9 D (.lst (ys++[z]))) J9 rfl (.cons r9 .nil) ⟨D,ys,z,rfl,rfl,hys,hlen,rfl⟩) (fun _ s10 ⟨_,H10,J10,_,e10⟩=>?_) fun _ _ z=>z.elim
    subst e10
    obtain⟨a1,a2⟩:=again J10
    exact⟨m',hm,i+1,τ',_,hτ',J10.unpinned,a1,a2,w9⟩
 exact codeAny_compStart_list (loop _ rfl) (T.self _ 0 _ _ _ st4 (loop _ rfl))
theorem auP(hcl:Clos X scope cl)(hnd:(xs++N').Nodup)(hN:js.map (fun j=>X.N[j]?)=N'.map some)
  (hk:N'.all (fun y=>(X.env.kindOf y==some .cell)||(X.env.kindOf y==some .free))=true) (hf:N'.all (fun y=>scope.names.lookup y==some .free)=true) (hc:X.calm=true)
  (hi:PI X (tg) iter wi)
  (hg:∀(C:Addr) (ex:List Addr) (pins:List (Addr×Obj)) (s:Shared) (H:Hp),PG (aaL X (xs++N') scope cl C ex pins s H) tg g)
  (ht:∀(C:Addr) (ex:List Addr) (pins:List (Addr×Obj)) (s:Shared) (H:Hp),PF (aaL X (xs++N') scope cl C ex pins s H) ifs tt)
  (he:∀(C:Addr) (ex:List Addr) (pins:List (Addr×Obj)) (s:Shared) (H:Hp),PE (aaL X (xs++N') scope cl C ex pins s H) elt te)
  (hs:∀x,foldedSetIterable iter X.env x=pure x:=by intro _;rfl):
  PE X (.ListComp elt [⟨tg,iter,ifs,0⟩] scope pos) (atV wi xs.length js g tt te):=by
 intro pins s σ H Q I h
 rw[eval_ListComp]
 refine wpAny_comprehension_free (use:=none) rfl hs hcl.is hcl.kind hcl.names (thn (hi pins s σ H _ I h) fun xv s₁ h₁=>thn h₁ fun itv s₂ h₂=>?_)
 obtain⟨it,fp,tn,J,H2,rfl,I2,T,st,hfp,q⟩:=h₂
 refine ak2 (RR:=fun acc C=>compPost (model X.prog X.w) X.A X.xe none (EP X pins σ Q) acc C) hcl hnd hN hk hf hc hg ht he I2 T st hfp q ?_
 intro D C s' H' m I' hC0 hCL hCs hCc hCp hn hq
 refine⟨m,hn,fun h' sb=>⟨.ref D,H',?_,rfl,hq⟩⟩
 exact I'.turned (t':=s'.toks) (fun b o hb e=>(sb.2 b hb).trans e) hC0 hCL (.inr hCs) hCc hCp
theorem aGW(xs N':List Str)(js:List Nat)(hi:Il X (tg) iter wi)
  (hg:∀(cl:List (Str×Addr)) (C:Addr) (ex:List Addr) (pins:List (Addr×Obj)) (s:Shared) (H:Hp),Gt (aaL X (xs++N') scope cl C ex pins s H) tg g)
  (ht:∀(cl:List (Str×Addr)) (C:Addr) (ex:List Addr) (pins:List (Addr×Obj)) (s:Shared) (H:Hp),Fs (aaL X (xs++N') scope cl C ex pins s H) ifs tt)
  (he:∀(cl:List (Str×Addr)) (C:Addr) (ex:List Addr) (pins:List (Addr×Obj)) (s:Shared) (H:Hp),E (aaL X (xs++N') scope cl C ex pins s H) elt te)
  (hcl:∃cl,Clos X scope cl:=by exact aj8 rfl rfl rfl rfl) (hnd:(xs++N').Nodup:=by decide +kernel) (hN:js.map (fun j=>X.N[j]?)=N'.map some:=by rfl)
  (hk:N'.all (fun y=>(X.env.kindOf y==some .cell)||(X.env.kindOf y==some .free))=true:=by rfl) (hf:N'.all (fun y=>scope.names.lookup y==some .free)=true:=by rfl) (hc:X.calm=true:=by rfl)
  (hs:∀x,foldedSetIterable iter X.env x=pure x:=by intro _;rfl):E X (.ListComp elt [⟨tg,iter,ifs,0⟩] scope pos) (atV wi xs.length js g tt te):=by
 obtain⟨cl,hcl⟩:=hcl
 exact⟨auP hcl hnd hN hk hf hc hi.h (fun C ex pins s H=>(hg cl C ex pins s H).h) (fun C ex pins s H=>(ht cl C ex pins s H).h) (fun C ex pins s H=>(he cl C ex pins s H).h) hs⟩
end
section
variable{js:List Nat}{σ:St}{tt:TT}{te:TE}{Q:VK}{H1:Hp}
end
theorem gTuc{X:Cx}{pos:Pos}{K:PySem.W.Frag}{es:List Expr}{k n:Nat}{t:TGs}(h:Gts X es t)(hK:X.K=K:=by rfl)(hc:X.calm=true:=by rfl)(hn:(assignEach es X.env).length=n:=by rfl)(hst:(assignEach es X.env).findIdx? (·.1)=none:=by rfl):Gt X (.Tuple es k pos) (aBW K n t):=by
 subst hK
 exact gTu h hc hn hst
section
variable{X:Cx}
end
section
variable{X:Cx}{elt iter tg:Expr}{xs:List Str}{y:Str}{py pos spos:Pos}{ifs:List Expr}{scope:Scope}{cl:List (Str×Addr)}{N':List Str}{js:List Nat}{tt:TT}{te:TE}{g:TG}{wi:TI}
end
end L2
namespace L2
open PySem PySem.Spec PyProof.Rows PySem.SeqAt
section
variable{X:Cx}
end
def Kn(f:Obj->Prop):Prop:=∀(o:Obj) (vs:Array Value) (x:Value),o.data=.fields vs->f o->f (Obj.mapFields (·.setIfInBounds 1 x) o)
def Trc(f:Obj->Prop)(fl:Value)(B h:Heap)(e:Addr):Prop:=∃(o:Obj) (vs:Array Value) (T:Addr) (oT:Obj) (ts:Array Value),
 (h.get? e=some o/\o.data=.fields vs/\vs[1]? =some (.ref T)/\f o)/\(h.get? T=some oT/\oT.data=.fields ts/\ts[3]? =some fl)/\B.get? T=none/\T≠e
structure Fg(f:Obj->Prop)(fl:Value)(B:Heap)(l:List Env)(e:Addr)(h:Heap):Prop where
 st:B.StaysIn h
 nb:B.get? e=none
 ff:h.FunFrames B l
 tr:Trc f fl B h e
theorem ajH{h:Heap}{T:Addr}{oT:Obj}{ts:Array Value}(hT:h.get? T=some oT)(hd:oT.data=.fields ts){b:Addr}{o:Obj}(e:h.get? b=some o)(n:∀vs,o.data≠ .fields vs):b≠T:=fun z=>by
 subst z
 cases hT.symm.trans e
 exact n ts hd
section
variable{M:Model}{A:Around}{E:Value->Shared->Prop}{s:Shared}{f:Obj->Prop}{B:Heap}{env:Env}{outer l:List Env}{L e:Addr}{fl:Value}{Q:Unit->Shared->Prop}
theorem alJ{o:Obj}{vs:Array Value}{head:Value}{had:Bool}(kn:Kn f)(hA:A.frames=some (env::outer))(hL:env.frame=some L)(ff:s.heap.FunFrames B (env::outer))(st:B.StaysIn s.heap)(nb:B.get? e=none)
  (he:s.heap.get? e=some o) (hd:o.data=.fields vs) (sz:1<vs.size) (ho:f o) (k:∀h',Fg f (rawInt L) B (env::outer) e h'->s.heap.UpToSlots h'->Q () {s with heap:=h'}):
  wpAny M A (do let a ←frameOf env;let pl ←entryPlaceOf L had;let b ←EntryCells.newEntry head a .none (rawInt L) .none pl;setField (.ref e) 1 b) Q E s:=by
 have out:e∉(env::outer).filterMap (·.frame):=fun z=>by
  obtain⟨_,o',q,nf⟩:=ff.mem z
  cases he.symm.trans q
  exact nf vs hd
 refine wpAny_bind (wpAny_frameOf_fun hA ff hL fun g sl=>wpAny_bind (wpAny_entryPlaceOf fun pl pok=>?_))
 unfold EntryCells.newEntry newFields
 refine wpAny_bind (wpAny_newObj_type ?_ (pok.sizeOk5 _ _ _ _ _))
 have t3:([head,Value.ref L,.none,rawInt L,.none]++(if pl.isEmpty then List.replicate 6 Value.none else pl)).toArray[3]? =some (rawInt L):=by
  rw[List.getElem?_toArray]
  rfl
 generalize ([head,Value.ref L,.none,rawInt L,.none]++(if pl.isEmpty then List.replicate 6 Value.none else pl)).toArray=ts at t3
 have e1:g.get? e=some o:=(sl.2.1 e out).trans he
 have st1:B.StaysIn g:=fun b ob q=>(sl.2.1 b fun z=>by rw[(ff.mem z).1] at q;cases q).trans (st b ob q)
 have e2:=Heap.get?_push_of_some (h:=g) {cls:=.type "traceback",data:=.fields ts} e1
 have far:g.objs.size≠e:=Nat.ne_of_gt (Heap.lt_size e1)
 have dat:=Obj.data_mapFields hd (·.setIfInBounds 1 (Value.ref g.objs.size))
 have e3:=Heap.get?_update_self (Obj.mapFields (·.setIfInBounds 1 (Value.ref g.objs.size))) e2 (Obj.isFreed_of_fields dat)
 have k1:∀b ob,b≠e->g.get? b=some ob->((g.push {cls:=.type "traceback",data:=.fields ts}).update e (Obj.mapFields (·.setIfInBounds 1 (Value.ref g.objs.size)))).get? b=some ob:=fun b ob n q=>
  (Heap.get?_update_other _ _ (Ne.symm n)).trans (Heap.get?_push_of_some _ q)
 refine wpAny_setField e2 hd sz (k _ ⟨fun b ob q=>k1 b ob (fun z=>by rw[z,nb] at q;cases q) (st1 b ob q),nb,ff.of_keeps fun b ob q n=>?_,?_⟩ fun b ob q n=>?_)
 ·obtain⟨x,q1⟩:=sl.2.2 b ob q
  exact⟨_,k1 b _ (ajH he hd q n) q1,rfl⟩
 ·exact⟨_,_,g.objs.size,_,ts,⟨e3,dat,by simp[sz],kn o vs _ hd ho⟩,⟨(Heap.get?_update_other _ _ (Ne.symm far)).trans (Heap.get?_push_size g rfl),rfl,t3⟩,st1.fresh,far⟩
 ·obtain⟨x,q1⟩:=sl.2.2 b ob q
  exact⟨x,k1 b _ (ajH he hd q n) q1⟩
theorem awX{o:Obj}{vs:Array Value}(kn:Kn f)(hA:A.frames=some (env::outer))(hL:env.frame=some L)(ff:s.heap.FunFrames B (env::outer))(st:B.StaysIn s.heap)(nb:B.get? e=none)
  (he:s.heap.get? e=some o) (hd:o.data=.fields vs) (h1:vs[1]? =some .none) (ho:f o) (k:∀h',Fg f (rawInt L) B (env::outer) e h'->s.heap.UpToSlots h'->Q () {s with heap:=h'}):wpAny M A (noteFrame (.ref e) env) Q E s:=by
 unfold noteFrame
 simp only[hL]
 refine wpAny_bind (wpAny_field he hd h1 ?_)
 rw[if_neg (by decide)]
 exact alJ kn hA hL ff st nb he hd (Array.getElem?_eq_some_iff.mp h1).1 ho k
theorem ahK(v:Option Addr)(F:Fg f fl B l e s.heap)(k:∀h',Fg f (v.elim .none fun q=>rawInt q) B l e h'->s.heap.UpToSlots h'->Q () {s with heap:=h'}):wpAny M A (setFlight (.ref e) v) Q E s:=by
 obtain⟨o,vs,T,oT,ts,⟨he,hd,h1,ho⟩,⟨hT,dT,h3⟩,nT,ne⟩:=F.tr
 have s3:3<ts.size:=(Array.getElem?_eq_some_iff.mp h3).1
 have oth:∀b,b≠T->(s.heap.update T (Obj.mapFields (·.setIfInBounds 3 (v.elim Value.none fun q=>rawInt q)))).get? b=s.heap.get? b:=fun b n=>Heap.get?_update_other _ _ n.symm
 unfold setFlight
 refine wpAny_bind (wpAny_field he hd h1 ?_)
 rw[if_pos (by simp)]
 refine wpAny_setField hT dT s3 (k _ ⟨fun b ob q=>(oth b fun z=>by rw[z,nT] at q;cases q).trans (F.st b ob q),F.nb,F.ff.of_keeps fun b ob q n=>⟨ob,(oth b (ajH hT dT q n)).trans q,rfl⟩,?_⟩ fun b ob q n=>⟨ob.slots,(oth b (ajH hT dT q n)).trans q⟩)
 exact⟨o,vs,T,_,_,⟨(oth e ne.symm).trans he,hd,h1,ho⟩,⟨Heap.get?_update_self _ hT (Obj.isFreed_of_fields (Obj.data_mapFields dT _)),Obj.data_mapFields dT _,by simp[s3]⟩,nT,ne⟩
theorem an6(kn:Kn f)(hA:A.frames=some (env::outer))(hL:env.frame=some L)(F:Fg f .none B (env::outer) e s.heap)(k:∀h',Fg f (rawInt L) B (env::outer) e h'->s.heap.UpToSlots h'->Q () {s with heap:=h'}):
  wpAny M A (noteFrame (.ref e) env) Q E s:=by
 obtain⟨o,vs,T,oT,ts,⟨he,hd,h1,ho⟩,⟨hT,dT,h3⟩,nT,ne⟩:=F.tr
 have oth:∀b,b≠T->(s.heap.update T (Obj.mapFields (·.setIfInBounds 3 Value.none))).get? b=s.heap.get? b:=fun b n=>Heap.get?_update_other _ _ n.symm
 unfold noteFrame
 simp only[hL]
 refine wpAny_bind (wpAny_field he hd h1 ?_)
 rw[if_pos (by simp)]
 refine wpAny_bind (wpAny_field hT dT h3 ?_)
 rw[if_neg (by simp[rawInt])]
 refine wpAny_bind (wpAny_setField hT dT (Array.getElem?_eq_some_iff.mp h3).1 ?_)
 refine alJ kn hA hL (F.ff.of_keeps fun b ob q n=>⟨ob,(oth b (ajH hT dT q n)).trans q,rfl⟩) (fun b ob q=>(oth b fun z=>by rw[z,nT] at q;cases q).trans (F.st b ob q)) F.nb ((oth e ne.symm).trans he) hd (Array.getElem?_eq_some_iff.mp h1).1 ho fun h' F' up=>k h' F' fun b ob q n=>up b ob ((oth b (ajH hT dT q n)).trans q) n
theorem Fg.out{h:Heap}(F:Fg f fl B (env::outer) e h):Fg f fl B outer e h:=⟨F.st,F.nb,F.ff.2.2,F.tr⟩
theorem ap9(kn:Kn f)(hA:A.frames=some (env::outer))(hL:env.frame=some L)(F:Fg f .none B (env::outer) e s.heap)(k:∀h',Fg f .none B outer e h'->s.heap.UpToSlots h'->Q () {s with heap:=h'}):wpAny M A (leaving env (.ref e)) Q E s:=
 wpAny_bind (an6 kn hA hL F fun _ F1 u1=>ahK none F1 fun h2 F2 u2=>k h2 F2.out (u1.trans u2))
theorem amQ{o:Obj}{vs:Array Value}(kn:Kn f)(hA:A.frames=some (env::outer))(hL:env.frame=some L)(ff:s.heap.FunFrames B (env::outer))(st:B.StaysIn s.heap)(nb:B.get? e=none)
  (he:s.heap.get? e=some o) (hd:o.data=.fields vs) (h1:vs[1]? =some .none) (ho:f o) (k:∀h',Fg f .none B outer e h'->s.heap.UpToSlots h'->Q () {s with heap:=h'}):wpAny M A (leaving env (.ref e)) Q E s:=
 wpAny_bind (awX kn hA hL ff st nb he hd h1 ho fun _ F1 u1=>ahK none F1 fun h2 F2 u2=>k h2 F2.out (u1.trans u2))
end
theorem ObjOk.at{P:Program}{w:World}{H:Hp}{h:Heap}{a:Addr}{o:HO}(x:ObjOk P w H h a o):∃ob,h.get? a=some ob:=by
 induction o with
 |lst xs=>obtain⟨_,_,_,_,e⟩:=x;exact⟨_,e⟩
 |tup xs=>obtain⟨_,_,_,ob,e,_⟩:=x;exact⟨_,e⟩
 |dK kvs=>obtain⟨_,_,_,_,ob,_,_,e,_⟩:=x;exact⟨_,e⟩
 |dT kvs=>obtain⟨_,_,_,_,ob,_,_,e,_⟩:=x;exact⟨_,e⟩
 |set S n=>obtain⟨ob,_,_,_,e,_⟩:=x;exact⟨_,e⟩
 |ins C dx fs=>obtain⟨_,_,_,e,_⟩:=x;exact⟨_,e⟩
 |own y=>exact x
 |xd fs=>obtain⟨_,⟨ob,_,_,e,_⟩,_⟩:=x;exact⟨_,e⟩
 |rng lo hi=>obtain⟨_,_,_,e⟩:=x;exact⟨_,e⟩
 |frz ob u ih=>exact⟨_,x.1⟩
 |tbl ps=>exact⟨_,x⟩
 |met f y=>exact⟨_,x⟩
 |ext φ=>exact x.2.1
def Ex(C:Addr)(d:Option Addr)(b:Bool)(o:Obj):Prop:=o.cls=.ref C/\o.dict=d/\∃vs,o.data=.fields vs/\(b=true->vs[2]? =some .none)
theorem awY(C:Addr)(d:Option Addr)(b:Bool):Kn (Ex C d b):=fun o vs x hd ⟨h1,h2,ws,h3,h4⟩=>by
 cases hd.symm.trans h3
 refine⟨(Obj.cls_mapFields _ _).trans h1,?_,_,Obj.data_mapFields hd _,fun z=>?_⟩
 ·rw[←h2]
  obtain⟨c,dd,dt,sl⟩:=o
  cases hd
  rfl
 ·rw[Array.getElem?_setIfInBounds_ne (by decide)]
  exact h4 z
def wc(C:Addr):Value:=.int C 0
def cv(C:Addr):Bool->Value
 |true=>.ref C
 |false=>wc C
theorem aK3{C C':Addr}{b:Bool}(h:cv C b=.ref C'):C=C'/\b=true:=by
 cases b with
 |true=>cases h;exact⟨rfl,rfl⟩
 |false=>cases h
def Fly(g h:Heap)(H:Hp)(a C:Addr)(d:Option Addr)(b:Bool):Prop:=
 H a=none/\g.get? a=none/\∃(o:Obj) (vs:Array Value) (T:Addr) (oT:Obj) (ts:Array Value),(h.get? a=some o/\o.data=.fields vs/\vs[1]? =some (.ref T)/\Ex C d b o)/\
  (h.get? T=some oT/\oT.data=.fields ts/\ts[3]? =some .none)/\(H T=none/\g.get? T=none)/\T≠a
def CX1(P:Program)(w:World):CXT:=fun outer H s E e s'=>
 ∃a C d b H',e=.ref a/\s'.os=s.os/\AllBare s'.gens/\Un (frs outer) [] H H' s.heap s'.heap/\HOk P w H' s'.heap/\Fly s.heap s'.heap H' a C d b/\E (cv C b) d H'
theorem ajX{P:Program}{w:World}{fs:List Addr}{l:List Env}{H0 H:Hp}{g h1 h2:Heap}{hid:List Addr}{a C:Addr}{d:Option Addr}{b0:Bool}(u:Un fs [] H0 H g h1)(hok:HOk P w H h1)(frf:∀b∈fs,H b=none)
  (ff:∀b∈fs,∃o,h1.get? b=some o/\∀vs,o.data≠ .fields vs) (hh:∀b∈hid,b∈fs∨(H b=none/\g.get? b=none)) (fl:Fg (Ex C d b0) .none (PySem.W.hideAll h1 hid) l a h2) (up:h1.UpToSlots h2)
  (hga:g.get? a=none) (Ha:H a=none):Un fs [] H0 H g h2/\HOk P w H h2/\Fly g h2 H a C d b0:=by
 have keep:∀b o,h1.get? b=some o->b∉hid->h2.get? b=some o:=fun b o e n=>fl.st b o (PySem.W.hideAll_get _ e n)
 have nofr:∀b o vs,b∈fs->h2.get? b=some o->o.data≠ .fields vs:=fun b o vs hb e=>by
  obtain⟨o1,e1,nf⟩:=ff b hb
  obtain⟨sl,e2⟩:=up b o1 e1 nf
  rw[e] at e2
  cases e2
  exact nf vs
 have slots:∀b o,b∈fs->h1.get? b=some o->∃sl,h2.get? b=some {o with slots:=sl}:=fun b o hb e=>by
  obtain⟨o1,e1,nf⟩:=ff b hb
  rw[e] at e1
  cases e1
  exact up b o e nf
 have nhid:∀b o,b∉fs->g.get? b=some o->b∉hid:=fun b o nb e hb=>by
  rcases hh b hb with z | ⟨_,z⟩
  ·exact nb z
  ·rw[e] at z;cases z
 have thid:∀b o,H b=some o->b∉hid:=fun b o e hb=>by
  rcases hh b hb with z | ⟨z,_⟩
  ·rw[frf b z] at e;cases e
  ·rw[e] at z;cases z
 refine⟨⟨fun b o e n hb hx=>keep b o (u.keep b o e n hb hx) (nhid b o hb e),fun b o e n hb hx=>?_,u.free,fun b o e hx=>?_,u.tups,u.frzs,u.tbls⟩,fun b ob e=>?_,Ha,hga,?_⟩
 ·obtain⟨sl,e1⟩:=u.slot b o e n hb hx
  obtain⟨sl',e2⟩:=slots b _ hb e1
  exact⟨sl',e2⟩
 ·obtain⟨o',e1⟩:=u.there b o e hx
  by_cases hb:b∈fs
  ·obtain⟨sl,e2⟩:=slots b _ hb e1
   exact⟨_,e2⟩
  ·exact⟨o',keep b o' e1 (nhid b o hb e)⟩
 ·refine (hok b ob e).stay (fun c v hc q=>keep c v q ?_) (fun _ q=>q) fun _ _ q=>q
  rcases hc with z | z
  ·rw[z];exact thid b ob e
  ·exact thid c _ z
 ·obtain⟨o,vs,T,oT,ts,ho,hT,hnT,hTe⟩:=fl.tr
  have nT:T∉fs:=fun z=>nofr T oT ts z hT.1 hT.2.1
  refine⟨o,vs,T,oT,ts,ho,hT,⟨?_,?_⟩,hTe⟩
  ·cases q:H T with
   |none=>rfl
   |some o=>
    obtain⟨ob,e⟩:=(hok T o q).at
    have:=PySem.W.hideAll_get _ e (thid T o q)
    rw[hnT] at this;cases this
  ·cases q:g.get? T with
   |none=>rfl
   |some o=>
    obtain⟨ob,e⟩:=u.there T o q (by simp)
    have:=PySem.W.hideAll_get _ e (nhid T o nT q)
    rw[hnT] at this;cases this
theorem Fly.flying{bs g h:Heap}{H:Hp}{a C:Addr}{d:Option Addr}{b:Bool}{l:List Env}(f:Fly g h H a C d b)(ff:h.FunFrames bs l):∃T,(H T=none/\g.get? T=none)/\Fg (Ex C d b) .none (PySem.W.hideAll h (frs l++[a,T])) l a h:=by
 obtain⟨_,_,o,vs,T,oT,ts,ho,hT,fT,nT⟩:=f
 exact⟨T,fT,fun b o e=>PySem.W.of_hideAll _ e,PySem.W.hideAll_none _ (by simp),PySem.W.funFrames_hide ff fun env he b hb=>List.mem_append_left _ (List.mem_filterMap.mpr ⟨env,he,hb⟩),o,vs,T,oT,ts,ho,hT,PySem.W.hideAll_none _ (by simp),nT⟩
theorem aAW{bs h:Heap}{l:List Env}(ff:h.FunFrames bs l):∀b∈frs l,∃o,h.get? b=some o/\∀vs,o.data≠ .fields vs:=fun b hb=>(ff.mem hb).2
section
variable{P:Program}{w:World}{K:PySem.W.Frag}{mg:Str->Option Value}{base:Heap}{N:List Str}{qual:Str}{scope:Scope}{f:Addr}{cd:Value}{A:Around}{outer:List Env}{s0:Shared}{H0:Hp}{E:XK}
theorem ajE{pins:List (Addr×Obj)}{σ:St}{H:Hp}{s:Shared}(I:Inv (acG (CX1 P w) P w K mg base N qual scope f cd A outer s0 H0 E) pins σ H s):∀b∈frs (acG (CX1 P w) P w K mg base N qual scope f cd A outer s0 H0 E).stack,b∈frs outer∨(H b=none/\s0.heap.get? b=none):=fun b hb=>by
 have hb:b∈frs (envOfC qual scope s0.heap.objs.size f cd::outer):=hb
 have q:b=s0.heap.objs.size∨b∈frs outer:=by
  obtain⟨env,he,hf⟩:=List.mem_filterMap.mp hb
  rcases List.mem_cons.mp he with rfl | he
  ·exact .inl (Option.some.inj hf).symm
  ·exact .inr (List.mem_filterMap.mpr ⟨env,he,hf⟩)
 rcases q with rfl | q
 ·exact .inr ⟨I.free,Heap.get?_none_of_le (Nat.le_refl _)⟩
 ·exact .inl q
theorem Inv.gone{X:Cx}{pins:List (Addr×Obj)}{σ:St}{H:Hp}{s:Shared}(I:Inv X pins σ H s)(hx:X.ex=[]){b:Addr}(e:s.heap.get? b=none):X.s₀.heap.get? b=none:=by
 cases q:X.s₀.heap.get? b with
 |none=>rfl
 |some o=>
  obtain⟨o',z⟩:=I.base.there b o q (by rw[hx];simp)
  rw[e] at z;cases z
theorem aeG:abT (CX1 P w) (acG (CX1 P w) P w K mg base N qual scope f cd A outer s0 H0 E) E:=by
 intro pins σ H s e s' I h
 obtain⟨a,C,d,b,H',rfl,os,bare,un,hok,fly,q⟩:=h
 have I':Inv (acG (CX1 P w) P w K mg base N qual scope f cd A outer s0 H0 E) pins σ H' s':=I.call' os un hok bare (fun _ z=>nomatch z)
 obtain⟨T,hT,fl⟩:=fly.flying I'.stack
 refine ap9 (L:=s0.heap.objs.size) (awY C d b) I.ok.frames rfl fl fun h2 fl2 up=>?_
 obtain⟨u2,hok2,fly2⟩:=ajX (fs:=frs outer) I'.base I'.hok (fun b hb=>I'.stkFree b (by
   obtain⟨env,he,hf⟩:=List.mem_filterMap.mp hb
   exact List.mem_filterMap.mpr ⟨env,List.mem_cons_of_mem _ he,hf⟩)) (aAW I'.funs) (fun b hb=>by
  rcases List.mem_append.mp hb with z | z
  ·exact ajE I' b z
  ·rcases List.mem_cons.mp z with rfl | z
   ·exact .inr ⟨fly.1,I.gone rfl fly.2.1⟩
   ·obtain rfl:b=T:=by simpa using z
    exact .inr ⟨hT.1,I.gone rfl hT.2⟩) fl2 up (I.gone rfl fly.2.1) fly.1
 exact⟨a,C,d,b,H',rfl,I'.os,I'.bare,u2,hok2,fly2,q⟩
theorem aNO{pins:List (Addr×Obj)}{σ:St}{H:Hp}{s:Shared}{a C:Addr}{d:Option Addr}{b:Bool}{o:Obj}{vs:Array Value}(I:Inv (acG (CX1 P w) P w K mg base N qual scope f cd A outer s0 H0 E) pins σ H s)(Ha:H a=none)(ga:s0.heap.get? a=none)
  (ho:s.heap.get? a=some o) (hd:o.data=.fields vs) (h1:vs[1]? =some .none) (hx:Ex C d b o) (q:E (cv C b) d H):(acG (CX1 P w) P w K mg base N qual scope f cd A outer s0 H0 E).xe (.ref a) s:=by
 refine amQ (B:=PySem.W.hideAll s.heap (frs (envOfC qual scope s0.heap.objs.size f cd::outer)++[a])) (L:=s0.heap.objs.size) (awY C d b) I.ok.frames rfl (PySem.W.funFrames_hide I.stack fun env he b hb=>List.mem_append_left _ (List.mem_filterMap.mpr ⟨env,he,hb⟩)) (fun b o e=>PySem.W.of_hideAll _ e) (PySem.W.hideAll_none _ (by simp)) ho hd h1 hx fun h2 fl2 up=>?_
 obtain⟨u2,hok2,fly2⟩:=ajX (fs:=frs outer) I.base I.hok (fun b hb=>I.stkFree b (by
   obtain⟨env,he,hf⟩:=List.mem_filterMap.mp hb
   exact List.mem_filterMap.mpr ⟨env,List.mem_cons_of_mem _ he,hf⟩)) (aAW I.funs) (fun b hb=>by
  rcases List.mem_append.mp hb with z | z
  ·exact ajE I b z
  ·obtain rfl:b=a:=by simpa using z
   exact .inr ⟨Ha,ga⟩) fl2 up ga Ha
 exact⟨a,C,d,b,H,rfl,I.os,I.bare,u2,hok2,fly2,q⟩
end
abbrev aN9:List Value:=[.type "ValueError",.type "Exception",.type "BaseException",.type "object"]
structure Xc(K:PySem.W.Frag)(mg:Str->Option Value)(x:Str)(C:Addr):Prop where
 m:mg x=some (.ref C)
 n:PySem.W.nsIn K mainGlobals x=some (some (.ref C))
 q:PySem.W.excIn K C aN9 "ValueError.__new__"=true
theorem Mod.top{K:PySem.W.Frag}{mg:Str->Option Value}{base:Heap}(m:Mod K mg base)(p:Program):∃loose mb,PySem.W.TopRead p loose mg mb base:=by
 obtain⟨mb,b1,b2⟩:=m.blt
 obtain⟨o,es,ep,ho,hd,hk,hf⟩:=id m.glob
 refine⟨es.toList.filterMap fun e=>match e.key with | .str y _=>some y | _=>none,mb,m.glob,b1,m.nolimit,b2,fun x _ hx _ _ _=>?_⟩
 rw[←hf]
 have none_:es.find? (fun e=>e.key.isStr x)=none:=by
  rw[Array.find?_eq_none]
  intro e he hs
  obtain⟨y,t,ek⟩:=hk e he
  refine hx (List.mem_filterMap.mpr ⟨e,by simpa using he,?_⟩)
  rw[ek] at hs ⊢
  have:y=x:=by simpa [Value.isStr] using hs
  rw[this]
 show (es.find? fun e=>e.key.isStr x).map (·.val)=none
 rw[none_]
 rfl
theorem Xc.own{K:PySem.W.Frag}{mg:Str->Option Value}{base:Heap}{x:Str}{C:Addr}(c:Xc K mg x C)(m:Mod K mg base)(p:Program):OwnCls x C aN9 "ValueError.__new__" mg base:=by
 obtain⟨loose,mb,T⟩:=m.top p
 exact PySem.W.own_of_in m.kin T c.n c.q
def atX(C:Addr)(E:XK)(t:TA):TS:=fun _ σ H=>t σ H fun vs H1=>vs.length<=sizeLine/\E (.ref C) none H1
def aIY(X:Cx)(E:XK):Prop:=∀(pins:List (Addr×Obj)) (σ:St) (H:Hp) (s:Shared) (a C:Addr) (d:Option Addr) (b:Bool) (o:Obj) (vs:Array Value),Inv X pins σ H s->H a=none->X.s₀.heap.get? a=none->s.heap.get? a=some o->o.data=.fields vs->vs[1]? =some .none->Ex C d b o->E (cv C b) d H->X.xe (.ref a) s
theorem Inv.newX{X:Cx}{pins:List (Addr×Obj)}{σ:St}{H:Hp}{s:Shared}{a:Addr}(I:Inv X pins σ H s)(hx:X.ex=[])(e:s.heap.get? a=none):H a=none/\X.s₀.heap.get? a=none:=by
 refine⟨?_,I.gone hx e⟩
 cases q:H a with
 |none=>rfl
 |some o=>
  obtain⟨ob,z⟩:=(I.hok a o q).at
  rw[e] at z;cases z
section
variable{X:Cx}{E:XK}{x:Str}{C:Addr}{e:Expr}{es:List Expr}{t:TA}{np cpos pos:Pos}
theorem axV(hM:aIY X E)(c:Xc X.K X.mg x C)(ha:PA X (e::es) t)(hex:X.ex=[]:=by rfl)(hc:X.calm=true:=by rfl)(hg:Gl X x:=by rfl)(hdb:(x==("__debug__":Str))=false:=by decide)
  (he:starEach (e::es) X.env=(false,eval e X.env)::starEach es X.env:=by rfl) (hpl:(backTo cpos (starEach es X.env)).any (·.1)=false:=by rfl):
  PS X (.Raise (some (.Call (.Name x np) (e::es) [] cpos)) none pos) (atX C E t):=by
 intro pins s σ H D I h
 obtain⟨tl,N,_,_,_,_,_,_,_,_,_,_,_,_,_,_,mN,hC,hN,no,T⟩:=(c.own I.ok.mod X.prog).obj
 have pl:(backTo cpos (starEach (e::es) X.env)).any (·.1)=false:=by
  rw[he]
  exact hpl
 refine' wpAny_Raise_call_subT (N:=N) (bm:=tl) (mN:=mN) PySem.F.excBase_ValueError (T.hasType (by decide)) (I.ok.hd hc) pl no (abY I hg c.m ⟨rfl,?main⟩ hdb)
 case main=>
  have hw:=ha cpos pins s σ H _ I h
  rw[he] at hw ⊢
  exact Calls.evalArgs_plain (thn hw fun us s2 ⟨vs,H2,I2,r,hz,q⟩=>⟨rfl,by rw[←r.length];exact hz,I2.bk _ _ hC,hN.keeps I2.bk,T.keeps I2.bk,fun h' a mk=>by
   obtain⟨t0,there,_,_⟩:=mk.there
   obtain⟨Ha,ga⟩:=I2.newX hex mk.new
   exact hM pins σ H2 {s2 with heap:=h'} a C none true _ _ (I2.kept (t':=s2.toks) mk.keeps) Ha ga there rfl rfl ⟨rfl,rfl,_,rfl,fun _=>rfl⟩ q⟩)
end
section
variable{P:Program}{w:World}{K:PySem.W.Frag}{mg:Str->Option Value}{base:Heap}{N:List Str}{qual:Str}{scope:Scope}{f:Addr}{cd:Value}{A:Around}{outer:List Env}{s0:Shared}{H0:Hp}{E:XK}
theorem ak9:aIY (acG (CX1 P w) P w K mg base N qual scope f cd A outer s0 H0 E) E:=fun _ _ _ _ _ _ _ _ _ _ I h1 h2 h3 h4 h5 h6 q=>aNO I h1 h2 h3 h4 h5 h6 q
end
theorem aa0{X:Cx}{P:Program}{w:World}:abT (CX1 P w) X E0:=fun _ _ _ _ _ _ _ ⟨_,_,_,_,_,_,_,_,_,_,_,q⟩=>q.elim
structure Df1(P:Program)(w:World)(K:PySem.W.Frag)(mg:Str->Option Value)(base:Heap)(x:Str)(k:Nat)(ps:List Str)(sp:Sp):Prop where
 ex:∃(f:Addr) (fd:FuncData),FnOk P w K mg base (CX1 P w) k f fd ps sp/\Binds K fd ps []/\mg x=some (.ref f)/\PySem.W.keepIn K (.ref f)=true
section
variable{P:Program}{w:World}{K:PySem.W.Frag}{mg:Str->Option Value}{base:Heap}{x:Str}{st:Stmt}{ps N:List Str}{k:Nat}{sp:Sp}
theorem Fn.dfs1(F:Fn K mg x st ps)(S':FnScope N ps (aaC st))(len:∀vs H Q E,sp vs H Q E->vs.length=ps.length)
  (hbody:∀(f:Addr) (cdv:Value) (A:Around) (outer:List Env) (s:Shared) (H:Hp) (vs:List V) (Q:VK) (E:XK),Room k (A.deeper (envOfC x (aaC st) s.heap.objs.size f cdv))->sp vs H Q E->
   ∃t,Ss (acG (CX1 P w) P w K mg base N x (aaC st) f cdv A outer s H E) (aaT st) t/\t {nx:=fun _ H'=>Q .non H',rt:=Q} (start N vs) H):Df1 P w K mg base x (k+1) ps sp:=by
 obtain⟨f,fd,F1,hb,hm⟩:=F.ex
 have kp:=F1.kp
 obtain⟨oc,od,kV,doc,pm,an,cdv,ct,osl,rfl,lk,hcd⟩:=F1.ex
 refine⟨⟨f,_,anL lk hcd S' len fun A outer s H vs Q E hr hsp=>?_,hb,hm,kp⟩⟩
 obtain⟨t,h,q⟩:=hbody f cdv A outer s H vs Q E hr hsp
 exact⟨t,h.h,q⟩
end
def XP(X:Cx)(pins:List (Addr×Obj))(σ:St)(E:XK)(e:Value)(s':Shared):Prop:=∃s1 H1,Inv X pins σ H1 s1/\CX1 X.prog X.w X.stack H1 s1 E e s'
abbrev TX:=St->Hp->VK->XK->Prop
structure Px(X:Cx)(e:Expr)(t:TX):Prop where
 h:∀(pins:List (Addr×Obj)) (s:Shared) (σ:St) (H:Hp) (Q:VK) (E:XK),Inv X pins σ H s->t σ H Q E->wpAny (model X.prog X.w) X.A (eval e X.env) (EP X pins σ Q) (XP X pins σ E) s
abbrev TB:=Ends->St->Hp->XK->Prop
structure Pb(X:Cx)(body:List Stmt)(t:TB):Prop where
 h:∀(pins:List (Addr×Obj)) (s:Shared) (σ:St) (H:Hp) (D:Ends) (E:XK),Inv X pins σ H s->t D σ H E->wpAny (model X.prog X.w) X.A (execs body X.env) (SP X pins D) (XP X pins σ E) s
def aMK(sp:Sp)(t:TA):TX:=fun σ H Q E=>t σ H fun vs H1=>sp vs H1 Q E
section
variable{X:Cx}{k k':Nat}{ps:List Str}{sp:Sp}{x:Str}{e:Expr}{es:List Expr}{tA:TA}{p pos:Pos}{t:TX}
theorem xD(D:Df1 X.prog X.w X.K X.mg X.base x k ps sp)(hr:Room k' X.A)(ha:As X.nox (e::es) tA)(hk:k<=k':=by decide)(hg:Gl X x:=by rfl)(hdb:(x==("__debug__":Str))=false:=by decide)
  (he:starEach (e::es) X.env=(false,eval e X.env)::starEach es X.env:=by rfl) (hpl:(backTo pos (starEach es X.env)).any (·.1)=false:=by rfl):Px X (.Call (.Name x p) (e::es) [] pos) (aMK sp tA):=by
 obtain⟨f,fd,F,hb,hm,kp⟩:=D.ex
 refine⟨fun pins s σ H Q E I h=>?_⟩
 refine wpAny_Call_Name_kw (abY I hg hm ?_ hdb)
 refine PySem.W.callWith_K (h₀:=X.base) I.ok.mod.kin kp (wpAny_mono (ha.h pos pins s σ H _ (I.wish _) h) (fun us s1 ⟨vs,H1,I1',r,q⟩=>?_) fun _ _ z=>False.elim z) he hpl
 have I1:Inv X pins σ H1 s1:=I1'.unwish
 refine⟨I1.kIn,?_⟩
 have hl:us.length=ps.length:=by rw[←r.length];exact F.len _ _ _ _ q
 have hbd:=hb s1 us I1.kIn (by rw[List.append_nil];exact hl)
 rw[List.append_nil] at hbd
 refine wpAny_call (codeAny_mono (F.run X.A X.stack s1 H1 ⟨us,[]⟩ us vs Q E (hr.mono hk) I1.env0 hbd r q) fun rr s' hq=>?_)
 cases rr with
 |error e=>exact⟨s1,H1,I1,hq⟩
 |ok fl=>
  cases fl with
  |ret u=>exact I1.after hq
  |next=>exact False.elim hq
  |brk=>exact False.elim hq
  |cont=>exact False.elim hq
def bExp(t:TX):TB:=fun D σ H E=>t σ H (fun _ H'=>D.nx σ H') E
theorem bE(h:Px X e t)(hs:swapsWith e none pos.line X.env=pure false:=by rfl):Pb X [.Expr e pos] (bExp t):=by
 refine⟨fun pins s σ H D E I hw=>?_⟩
 refine wpAny_execs_cons (wpAny_mono (wpAny_Expr_any (thn (h.h pins s σ H _ E I hw) fun v s1 ⟨y,H1,I1,r1,q1⟩=>(show SP X pins D .next s1 from ⟨σ,H1,I1,q1⟩)) I.quiet hs) (fun f s1 q=>?_) fun _ _ z=>z)
 cases f with
 |next=>exact wpAny_execs_nil q
 |ret v=>exact q
 |brk=>exact q
 |cont=>exact q
end
abbrev Cx.hnd(X:Cx)(a:Addr):Cx:={X with A:=X.A.mark (some (.ref a)),calm:=false,xe:=fun _ _=>False}
section
variable{X:Cx}{pins:List (Addr×Obj)}{σ:St}{H:Hp}{s:Shared}
theorem Inv.hnd(I:Inv X pins σ H s)(a:Addr):Inv (X.hnd a) pins σ H s:=
 ⟨⟨I.ok.mod,I.ok.kind,I.ok.glob,I.ok.blt,I.ok.above,I.ok.inj,I.ok.has,I.ok.cab,(fun z=>nomatch z),I.ok.frames,I.ok.stk,I.ok.exf,I.ok.bs,I.ok.bsz,I.ok.noex,I.ok.exfs,I.ok.funs,I.ok.frf⟩,I.os,I.bare,I.base,I.loc,I.cell,I.free,I.freeC,I.pin,I.hok,I.len⟩
theorem Inv.unhnd{a:Addr}(I:Inv (X.hnd a) pins σ H s)(ok:X.Ok):Inv X pins σ H s:=⟨ok,I.os,I.bare,I.base,I.loc,I.cell,I.free,I.freeC,I.pin,I.hok,I.len⟩
theorem Inv.lost{h':Heap}{m':Str->Option Value}{t:Nat}(I:Inv X pins σ H s)(hn:h'.Ns X.env.locals m')(hs:Heap.SameBut X.env.locals s.heap h'):Inv X pins (List.replicate X.N.length none) H {s with heap:=h',toks:=t}:=by
 obtain⟨m,⟨oL,_,_,hoL,_⟩,_⟩:=id I.loc
 have nl:∀b o,X.s₀.heap.get? b=some o->b≠X.env.locals:=fun b o e=>Nat.ne_of_lt (Nat.lt_of_lt_of_le (Heap.lt_size e) I.ok.above)
 refine⟨I.ok,I.os,I.bare,⟨fun b o e n hb hx=>(hs.2 b (nl b o e)).trans (I.base.keep b o e n hb hx),fun b o e n hb hx=>?_,I.base.free,fun b o e hx=>?_,I.base.tups,I.base.frzs,I.base.tbls⟩,⟨m',hn,fun j y v' e1 e2 e3=>?_⟩,fun y c e=>?_,I.free,I.freeC,fun p hp=>?_,fun b ob e=>?_,by rw[List.length_replicate]⟩
 ·obtain⟨sl,e1⟩:=I.base.slot b o e n hb hx
  exact⟨sl,(hs.2 b (nl b o e)).trans e1⟩
 ·obtain⟨o',e1⟩:=I.base.there b o e hx
  exact⟨o',(hs.2 b (nl b o e)).trans e1⟩
 ·rw[List.getElem?_replicate] at e2
  split at e2
  ·cases e2
  ·cases e2
 ·obtain⟨w',z⟩:=I.cell y c e
  exact⟨w',z.sameBut hs (I.cne y c e)⟩
 ·obtain⟨e,n,ne,nf,d⟩:=I.pin p hp
  exact⟨(hs.2 p.1 ne).trans e,n,ne,nf,d⟩
 ·refine (I.hok b ob e).stay (fun c w' hc q=>(hs.2 c ?_).trans q) (fun _ q=>q) fun _ _ q=>q
  rintro rfl
  rcases hc with rfl | hc
  ·rw[I.free] at e;cases e
  ·rw[I.free] at hc;cases hc
end
def xo(a C:Addr)(d:Option Addr)(b:Bool):HO:=.ext fun h=>∃o,h.get? a=some o/\Ex C d b o
theorem aDW{P:Program}{w:World}{fs:List Addr}{H0 H:Hp}{g h:Heap}{a C:Addr}{d:Option Addr}{b0:Bool}(u:Un fs [] H0 H g h)(hok:HOk P w H h)(f:Fly g h H a C d b0):Un fs [] H0 (upd H a (xo a C d b0)) g h/\HOk P w (upd H a (xo a C d b0)) h:=by
 obtain⟨Ha,ga,oe,vs,T,oT,ts,⟨he,hd,_,hx⟩,_⟩:=f
 have ne:∀b o,H b=some o->b≠a:=fun b o e z=>by rw[z,Ha] at e;cases e
 have same:∀b o,H b=some o->upd H a (xo a C d b0) b=some o:=fun b o e=>by rw[aaE (ne b o e)];exact e
 refine⟨⟨u.keep,u.slot,fun b o e n hx=>?_,u.there,fun b xs e=>same _ _ (u.tups b xs e),fun b o v e=>same _ _ (u.frzs b o v e),fun b ps e=>?_⟩,fun b o e=>?_⟩
 ·rw[aaE (fun z=>by rw[z,ga] at e;cases e)]
  exact u.free b o e n hx
 ·obtain⟨more,z⟩:=u.tbls b ps e
  exact⟨more,same _ _ z⟩
 ·by_cases hb:b=a
  ·subst hb
   rw[aaA] at e
   cases e
   exact⟨⟨oe,he,hx⟩,⟨oe,he⟩,fun h1 h2 ⟨o,e,r⟩ k=>⟨o,k o e,r⟩⟩
  ·rw[aaE hb] at e
   exact (hok b o e).stay (fun _ _ _ q=>q) (fun c q=>same _ _ q) fun c xs q=>same _ _ q
theorem al7{M:Model}{A:Around}{E:Value->Shared->Prop}{s:Shared}{K:PySem.W.Frag}{C CF a:Addr}{oe:Obj}{b:Bool}{Q:Bool->Shared->Prop}(X:K.In s.heap)(e:PySem.W.kitCls K (.ref C) (.ref CF)=some b)
  (eB:PySem.W.subIn K (.ref CF) (.type "BaseException")=some true) (he:s.heap.get? a=some oe) (hc:oe.cls=.ref C) (hq:Q b s):wpAny M A (excMatches (.ref a) (.ref CF)) Q E s:=by
 obtain⟨h,g,d,t,os⟩:=s
 obtain⟨hty,his,hsub⟩:=PySem.W.kit_cls (M:=M) X e
 have hB:=PySem.W.looks_subIn (M:=M) X eB
 have L0:PySem.W.Looks M h (typeOf (.ref a)) (.ref C):=hc▸(PySem.W.Looks.ld he).andThen .now
 have f:=tc_notTuple
 unfold excMatches isExcClass isInstance
 repeat lk
 cases b<;>repeat lk
 all_goals exact hq
def auA(ok:Addr->Prop)(i:Nat)(tb:TB)(th:Addr->TS):TS:=fun D σ H=>∃E:XK,tb D σ H E/\∀C d b H',E (cv C b) d H'->ok C/\∀a,H' a=none->th a {nx:=fun _ _=>False,rt:=D.rt} (σ.set i (some (.ref a))) (upd H' a (xo a C d b))
section
variable{X:Cx}{body suite:List Stmt}{b0:Stmt}{tb:TB}{th:Addr->TS}{cx n:Str}{np hpos pos:Pos}{CF:Addr}
theorem ayK(i:Nat)(hm:X.mg cx=some (.ref CF))(hB:PySem.W.subIn X.K (.ref CF) (.type "BaseException")=some true)(hb:Pb X body tb)(hs:∀a,Ss (X.hnd a) (b0::suite) (th a))(hN:X.N.Nodup)
  (hi:X.N[i]? =some n:=by rfl) (hl:X.env.kindOf n=some .local:=by rfl) (hst:X.stack=X.env::X.outer:=by rfl) (hfr:X.env.frame=some X.env.locals:=by rfl) (hg:Gl X cx:=by rfl) (hdb:(cx==("__debug__":Str))=false:=by decide):
  PS X (.Try body [.ExceptHandler (some (.Name cx np)) (some n) (b0::suite) hpos] [] [] pos) (auA (fun C=>PySem.W.kitCls X.K (.ref C) (.ref CF)=some true) i tb th):=by
 intro pins s σ H D I ⟨E,hw,hh⟩
 refine wpAny_Try_except (wpAny_mono (hb.h pins s σ H D E I hw) (fun f s1 q=>?_) fun e s1 hx=>?_)
 ·cases f with
  |next=>exact wpAny_execs_nil q
  |ret v=>exact q
  |brk=>exact q
  |cont=>exact q
 obtain⟨s0,H0,I0,a,C,d,bb,H',rfl,os,bare,un,hok,fly,qE⟩:=hx
 obtain⟨hC,hh⟩:=hh C d bb H' qE
 have I1:Inv X pins σ H' s1:=I0.call' os un hok bare (fun _ z=>nomatch z)
 obtain⟨T,hT,fl⟩:=fly.flying I1.stack
 have hid:∀b∈frs X.stack++[a,T],b∈frs X.stack∨(H' b=none/\s0.heap.get? b=none):=fun b hb=>by
  rcases List.mem_append.mp hb with z | z
  ·exact .inl z
  ·rcases List.mem_cons.mp z with rfl | z
   ·exact .inr ⟨fly.1,fly.2.1⟩
   ·obtain rfl:b=T:=by simpa using z
    exact .inr hT
 have frames:X.A.frames=some (X.env::X.outer):=by rw[I.ok.frames,hst]
 have fl':=fl
 rw[hst] at fl'
 refine an6 (awY C d bb) frames hfr (hst▸fl) fun h4 held4 sm4=>?_
 refine ahK none held4 fun h5 fl5 sm5=>?_
 obtain⟨u5,hok5,fly5⟩:=ajX (fs:=frs X.stack) un hok I1.stkFree (aAW I1.stack) (by rw[hst] at hid ⊢;exact hid) fl5 (sm4.trans sm5) fly.2.1 fly.1
 have I5:Inv X pins σ H' {s1 with heap:=h5}:=I0.call' os u5 hok5 bare (fun _ z=>nomatch z)
 refine wpAny_handleBy_cons (codeAny_handlers_test ?_) (by intro q;cases q)
 have J5:=I5.hnd a
 refine abY (X:=X.hnd a) J5 hg hm ?_ hdb
 obtain⟨_,_,oe,vs5,_,_,_,⟨he5,_,_,hc5,_⟩,_⟩:=fly5
 refine al7 J5.kIn hC hB he5 hc5 ?_
 refine codeAny_handlers_suite_as ?_
 refine ahK none fl5 fun h6 fl6 sm6=>?_
 obtain⟨u6,hok6,fly6⟩:=ajX (fs:=frs X.stack) un hok I1.stkFree (aAW I1.stack) (by rw[hst] at hid ⊢;exact hid) fl6 ((sm4.trans sm5).trans sm6) fly.2.1 fly.1
 obtain⟨u7,hok7⟩:=aDW u6 hok6 fly6
 have I7:Inv X pins σ (upd H' a (xo a C d bb)) {s1 with heap:=h6}:=I0.call' os u7 hok7 bare (fun _ z=>nomatch z)
 refine acD (X:=X.hnd a) (I7.hnd a) hN hi (.inl hl) (show RelV (.ref a) (.ref a) from rfl) (fun s8 I8=>?_) (.inr hl)
 refine wpAny_mono ((hs a).h pins s8 _ _ _ I8 (hh a fly.1)) (fun f s9 q=>?_) fun _ _ z=>False.elim z
 cases f with
 |next=>obtain⟨_,_,_,q⟩:=q;exact False.elim q
 |brk=>obtain⟨_,_,_,q⟩:=q;exact False.elim q
 |cont=>obtain⟨_,_,_,q⟩:=q;exact False.elim q
 |ret u=>
  obtain⟨v,σ',H3,I9,r,q⟩:=q
  have I9':Inv X pins σ' H3 s9:=I9.unhnd I.ok
  obtain⟨m9,hn9,_⟩:=I9'.loc
  refine wpAny_nameGoes hl hn9 (by rw[I.ok.kind];rfl) fun h' m' hn' hs'=>?_
  exact⟨v,_,H3,I9'.lost hn' hs',r,q⟩
theorem aFR(i:Nat)(hm:X.mg cx=some (.ref CF))(hB:PySem.W.subIn X.K (.ref CF) (.type "BaseException")=some true)(hb:Pb X body tb)(hs:∀a,Ss (X.hnd a) (b0::suite) (th a))(hN:X.N.Nodup)
  (hi:X.N[i]? =some n:=by rfl) (hl:X.env.kindOf n=some .local:=by rfl) (hst:X.stack=X.env::X.outer:=by rfl) (hfr:X.env.frame=some X.env.locals:=by rfl) (hg:Gl X cx:=by rfl) (hdb:(cx==("__debug__":Str))=false:=by decide):
  S X (.Try body [.ExceptHandler (some (.Name cx np)) (some n) (b0::suite) hpos] [] [] pos) (auA (fun C=>PySem.W.kitCls X.K (.ref C) (.ref CF)=some true) i tb th):=⟨ayK i hm hB hb hs hN hi hl hst hfr hg hdb⟩
end
section
variable{X:Cx}{E:XK}{x:Str}{C:Addr}{e:Expr}{es:List Expr}{tA:TA}{np cpos pos p:Pos}{k k':Nat}{ps:List Str}{sp:Sp}
theorem sRz(hM:aIY X E)(c:Xc X.K X.mg x C)(ha:As X (e::es) tA)(hex:X.ex=[]:=by rfl)(hc:X.calm=true:=by rfl)(hg:Gl X x:=by rfl)(hdb:(x==("__debug__":Str))=false:=by decide)
  (he:starEach (e::es) X.env=(false,eval e X.env)::starEach es X.env:=by rfl) (hpl:(backTo cpos (starEach es X.env)).any (·.1)=false:=by rfl):
  S X (.Raise (some (.Call (.Name x np) (e::es) [] cpos)) none pos) (atX C E tA):=⟨axV hM c ha.h hex hc hg hdb he hpl⟩
theorem eD1(D:Df1 X.prog X.w X.K X.mg X.base x k ps sp)(hr:Room k' X.A)(hp:abT (CX1 X.prog X.w) X E)(ha:As X (e::es) tA)(hk:k<=k':=by decide)(hg:Gl X x:=by rfl)
  (hdb:(x==("__debug__":Str))=false:=by decide) (he:starEach (e::es) X.env=(false,eval e X.env)::starEach es X.env:=by rfl) (hpl:(backTo pos (starEach es X.env)).any (·.1)=false:=by rfl):
  L2.E X (.Call (.Name x p) (e::es) [] pos) (agN sp [] E tA):=by
 obtain⟨f,fd,F,hb,hm,kp⟩:=D.ex
 exact⟨anJ F (hr.mono hk) hg hm kp hb .nil hp ha.h hdb he hpl⟩
end
structure XF(K:PySem.W.Frag)(C:Addr):Prop where
 cls:(PySem.W.clsIn K C).isSome=true
 ga:PySem.W.findIn K (.ref C) "__getattribute__"=some (some (.builtin "BaseException.__getattribute__"))
 nga:PySem.W.findIn K (.ref C) "__getattr__"=some none
 ca:PySem.W.findIn K (.ref C) "__class__"=some (some (.builtin "object.__class__"))
 cg:PySem.W.specialIn K (.builtin "object.__class__") "__get__"=some (some (.builtin "getset_descriptor.__get__"))
 ct:PySem.W.takesIn K (.builtin "object.__class__")=some true
 mo:PySem.W.mroIn K C (.type "object")=some true
 mb:PySem.W.mroIn K C (.type "BaseException")=some true
def AtC(a C:Addr)(h:Heap):Prop:=∃o vs,h.get? a=some o/\o.cls=.ref C/\o.data=.fields vs
theorem AtC.of{a C:Addr}{d:Option Addr}{b:Bool}{h:Heap}(x:∃o,h.get? a=some o/\Ex C d b o):AtC a C h:=by
 obtain⟨o,e,h1,_,vs,h2,_⟩:=x
 exact⟨o,vs,e,h1,h2⟩
theorem AtC.ty{M:Model}{a C:Addr}{h:Heap}(x:AtC a C h):PySem.W.Looks M h (typeOf (.ref a)) (.ref C):=by
 obtain⟨o,vs,h1,h2,_⟩:=x
 exact h2▸(PySem.W.Looks.ld h1).andThen .now
section
open PySem.W
variable{prog:Program}{w:World}{A:Around}{E:Value->Shared->Prop}{s:Shared}{K:PySem.W.Frag}{a C:Addr}
open Builtin Builtin.ObjectAttr Builtin.Getset_descriptor in
theorem ajD{tp:Value}{R:Result->Shared->Prop}(F:XF K C)(X:K.In s.heap)(I:AtC a C s.heap)(h:R (.ok (.ret (.ref C))) s):
  codeAny (model prog w) A (.call (.builtin "getset_descriptor.__get__") ⟨[.builtin "object.__class__",.ref a,tp],[]⟩) R s:=by
 obtain⟨hh,g,dr,t,os⟩:=s
 have ofC:=I.ty (M:=model prog w)
 have obj:=PySem.W.looks_mroIn (M:=model prog w) X F.mo
 have gs:=KF.slot_gs
 refine codeAny_call_builtin gs.plain KF.entry_gs (gs.check _ _ _ _ _ _ _ _ KF.type_class (KF.args_gs _ _ _) ?_)
 simp only[Builtin.«getset_descriptor.__get__»,descrGet,dga_obj]
 refine wpAny_bind (wpAny_pure ?_)
 simp only[descrGetter,descrCheckInstance,descrNameAndClass,isInstance,KF.owner_class]
 repeat lk
 constructor
 ·exact Code.quiet_builtin _ (by decide +kernel)
 ·apply codeAny_builtin KF.entry_class
  simp only[Builtin.«object.__class__»,shownTypeOf]
  repeat lk
  exact h
theorem akV{M:Model}{nameV:Value}{Q:Unit->Shared->Prop}(F:XF K C)(X:K.In s.heap)(I:AtC a C s.heap)(hq:Q () s):wpAny M A (checkBuiltinCall "BaseException.__getattribute__" ⟨[.ref a,nameV],[]⟩) Q E s:=by
 obtain⟨hh,g,d,t,os⟩:=s
 have L0:=I.ty (M:=M)
 have L1:=PySem.W.looks_mroIn (M:=M) X F.mb
 have hk:builtinKind "BaseException.__getattribute__"=some .slot:=by decide +kernel
 have hsplit:splitId "BaseException.__getattribute__"=some ("BaseException","__getattribute__"):=by decide +kernel
 have ha:=PySem.F.args_bexc_ga (.ref a) nameV
 simp only[checkBuiltinCall,hk,hsplit]
 refine wpAny_bind ?_
 unfold isInstance
 repeat (first | lk | wp_step)
 exact hq
open Builtin Builtin.ObjectAttr in
theorem ayN{M:Model}{h:Heap}(F:XF K C)(X:K.In h):Looks M h (Builtin.ObjectAttr.find (.ref a) (.ref C) "__class__") (.bind (.builtin "getset_descriptor.__get__") (.builtin "object.__class__")):=by
 have L1:=PySem.W.looks_findIn (M:=M) X F.ca
 have L2:Looks M h (getOf (some (.builtin "object.__class__"))) (some (.builtin "getset_descriptor.__get__")):=PySem.W.looks_specialIn X F.cg
 have L3:=PySem.W.looks_takesIn (M:=M) X F.ct
 intro A Q E s k q
 unfold Builtin.ObjectAttr.find
 refine wpAny_bind (L1 A _ E s k ?_)
 refine wpAny_bind (L2 A _ E s k ?_)
 refine wpAny_bind (wpAny_bind (L3 A _ E s k ?_))
 simp only[if_true]
 refine wpAny_pure ?_
 exact wpAny_bind (wpAny_rule (wpAny_pure q))
theorem aiT{Q:Option Value->Shared->Prop}(F:XF K C)(X:K.In s.heap)(I:AtC a C s.heap)(h:Q (some (.ref C)) {s with toks:=s.toks+1}):wpAny (model prog w) A (getAttr? (.ref a) "__class__") Q E s:=by
 obtain⟨hh,g,d,t,os⟩:=s
 have L0:=I.ty (M:=model prog w)
 have L1:=PySem.W.looks_findIn (M:=model prog w) X F.ga
 have L2:=PySem.W.looks_findIn (M:=model prog w) X F.nga
 have f3:=PySem.F.attr_ValueError.ga.bind (.ref a)
 unfold getAttr? getAttrBy? getAttrBy
 refine wpAny_bind (wpAny_mkText (wpAny_bind (wpAny_attempt (wpAny_holding ?_))))
 refine wpAny_bind (L0.at ?_)
 refine wpAny_bind (L1.at ?_)
 show wpAny _ _ (getAttrByItsOwn _ _ _ _ _ _) _ _ _
 unfold getAttrByItsOwn
 repeat (first | assumption | with_reducible refine Looks.at (by assumption) ?_ | wp_step)
 refine codeAny_call_builtin PySem.F.attr_ValueError.ga.plain PySem.F.entry_bexc_ga (akV F X I ?_)
 have L4:=ayN (a:=a) (M:=model prog w) F X
 unfold Builtin.«object.__getattribute__»
 repeat (first | assumption | with_reducible refine Looks.at (by assumption) ?_ | wp_step)
 refine ajD F X I ?_
 exact wpAny_pure (wpAny_of_eq (PySem.W.handedOut_of rfl) (wpAny_pure h))
theorem aiE(F:XF K C):KitX K (.ref a) (.ref C) (AtC a C) where
 ty:=fun _ _ _ I=>I.ty
 it:=fun _ _ X _=>by
  obtain⟨cdD,hcD⟩:=Option.isSome_iff_exists.mp F.cls
  unfold clsIn at hcD
  split at hcD
  ·next ho=>
   intro A' Q' E' s' k q
   unfold isType loadHead
   exact wpAny_bind (wpAny_loadPart (k _ _ (X _ _ ho)) (wpAny_pure q))
  ·cases hcD
 ne:=fun h tp dd its n sl X htp=>by
  obtain⟨cdD,hcD⟩:=Option.isSome_iff_exists.mp F.cls
  refine Bool.eq_false_iff.mpr fun q=>?_
  obtain rfl:C=tp:=Value.ref.inj (beq_iff_eq.mp q)
  unfold clsIn at hcD
  split at hcD
  ·next ho=>
   have z:=(X _ _ ho).symm.trans htp
   cases z
  ·cases hcD
 ca:=fun X I k=>aiT F X I k
end
theorem cXi{X:Cx}:Cl1 X (.builtin "isinstance") (fun xs H Q=>∃(a C C':Addr) (d:Option Addr) (b0 b:Bool),xs=[.ref a,.ref C']/\H a=some (xo a C d b0)/\XF X.K C/\PySem.W.kitOne X.K (.ref C) (.ref C')=some b/\Q (.bl b) H):=by
 refine⟨fun pins s σ H xs us Q I r h=>?_⟩
 obtain⟨a,C,C',d,b0,b,rfl,ha,F,e,q⟩:=h
 obtain⟨u,w',rfl,r1,r2⟩:=aiJ r
 cases r1
 cases r2
 exact PySem.W.kia_one (aiE F) I.kIn (AtC.of (I.hok a _ ha).1) e (fun z=>nomatch z) fun tk=>⟨.bl b,H,I.tok _,rfl,q⟩
theorem cXy{X:Cx}:Cl1 X (.builtin "isinstance") (fun xs H Q=>∃(a C:Addr) (T:String) (d:Option Addr) (b0 b:Bool),xs=[.ref a,.ty T]/\H a=some (xo a C d b0)/\XF X.K C/\PySem.W.kitOne X.K (.ref C) (.type T)=some b/\Q (.bl b) H):=by
 refine⟨fun pins s σ H xs us Q I r h=>?_⟩
 obtain⟨a,C,T,d,b0,b,rfl,ha,F,e,q⟩:=h
 obtain⟨u,w',rfl,r1,r2⟩:=aiJ r
 cases r1
 cases r2
 exact PySem.W.kia_one (aiE F) I.kIn (AtC.of (I.hok a _ ha).1) e (fun z=>nomatch z) fun tk=>⟨.bl b,H,I.tok _,rfl,q⟩
theorem ad0:∀{Cs:List Addr} {us:List Value},Vals (Cs.map V.ref) us->us=Cs.map Value.ref
 |[],_,.nil=>rfl
 |c::Cs,_,.cons h r=>by
  cases h
  rw[ad0 r]
  rfl
theorem cXt{X:Cx}:Cl1 X (.builtin "isinstance") (fun xs H Q=>∃(a C tp:Addr) (Cs:List Addr) (d:Option Addr) (b0 b:Bool),xs=[.ref a,.ref tp]/\H a=some (xo a C d b0)/\XF X.K C/\SqT X.K H tp (Cs.map V.ref)/\PySem.W.kitAny X.K (.ref C) (Cs.map Value.ref)=some b/\Q (.bl b) H):=by
 refine⟨fun pins s σ H xs us Q I r h=>?_⟩
 obtain⟨a,C,tp,Cs,d,b0,b,rfl,ha,F,hS,e,q⟩:=h
 obtain⟨u,w',rfl,r1,r2⟩:=aiJ r
 cases r1
 cases r2
 obtain⟨its,rv,⟨o,ho,hc,n,hd⟩,_⟩:=I.tuple hS
 obtain⟨oc,od,oda,osl⟩:=o
 cases hc
 cases hd
 rw[←ad0 rv] at e
 exact PySem.W.kia_tup (aiE F) I.kIn (AtC.of (I.hok a _ ha).1) ho e (fun z=>nomatch z) fun tk=>⟨.bl b,H,I.tok _,rfl,q⟩
section
variable{X:Cx}{body suite:List Stmt}{b0:Stmt}{tb:TB}{th:Addr->TS}{cx:Str}{np hpos pos:Pos}{CF:Addr}
end
section
variable{prog:Program}{w:World}{A:Around}{E:Value->Shared->Prop}{s:Shared}{e C a:Addr}{d:Option Addr}
end
section
variable{prog:Program}{w:World}{A:Around}{E:Value->Shared->Prop}{s:Shared}{env:Env}{e C a:Addr}{d:Option Addr}
end
section
variable{P:Program}{w:World}{K:PySem.W.Frag}{mg:Str->Option Value}{base:Heap}{N:List Str}{qual:Str}{scope:Scope}{f:Addr}{cd:Value}{A:Around}{outer:List Env}{s0:Shared}{H0:Hp}{E:XK}
end
section
variable{X:Cx}{E:XK}{x:Str}{C a:Addr}{e:Expr}{es:List Expr}{t:TA}{np cpos pos p2:Pos}{j:Nat}
end
theorem ahE:bootBuiltins "ValueError"=some (.type "ValueError"):=by decide +kernel
def tDi:TE:=fun _ H Q=>∀p,H p=none->Q (.ref p) (upd H p (.dK []))
section
variable{X:Cx}{pos:Pos}{o i:Expr}{to ti:TE}
theorem Inv.bigM{pins:List (Addr×Obj)}{σ:St}{H:Hp}{s:Shared}(I:Inv X pins σ H s):sysModules<s.heap.objs.size:=by
 have h:mainGlobals<s.heap.objs.size:=(I.mod.glob.keeps I.bk).lt
 exact Nat.lt_trans (by decide) h
theorem eDi:E X (.Dict [] [] pos) tDi:=⟨fun pins s σ H Q I h=>wpAny_Dict_empty ⟨.ref s.heap.objs.size,_,I.laid (a:=s.heap.objs.size) (o:=.dK []) (t':=s.toks) (fun _ _ q=>Heap.get?_push_of_some _ q) (Nat.le_refl _)
 ⟨Nat.zero_le _,beq_eq_false_iff_ne.mpr (Ne.symm (Nat.ne_of_lt I.bigM)),[],.nil,Heap.DictOf.new s.heap⟩,rfl,h _ (I.hok.fresh (Nat.le_refl _))⟩⟩
end
theorem KindV.same{K:PySem.W.Frag}{H H':Hp}{v:V}{k:Kd}(h:KindV K H v k)(s:Same H H'):KindV K H' v k:=by
 cases v with
 |ref a=>
  rcases h with ⟨e,xs,h⟩ | ⟨e,xs,h⟩ | ⟨e,xs,h⟩
  ·exact .inl ⟨e,xs,s.seq h⟩
  ·refine .inr (.inl ⟨e,xs,?_⟩)
   rcases h with (h | ⟨o,h⟩) | h
   ·exact .inl (.inl (s _ _ h))
   ·exact .inl (.inr ⟨o,s _ _ h⟩)
   ·exact .inr h
  ·exact .inr (.inr ⟨e,xs,s _ _ h⟩)
 |int i=>exact h
 |bl b=>exact h
 |str x=>exact h
 |non=>exact h
 |byt b=>exact h
 |flt b=>exact h
 |ty n=>exact h
section
variable{X:Cx}
end
section
variable{js:List Nat}{σ:St}{tt:TT}{te:TE}{Q:VK}{H1:Hp}
end
def ad4(l:List Nat)(lo hi:Option Int):List Nat:=(l.drop (HT.sIx l.length 0 lo)).take (HT.sIx l.length l.length hi-HT.sIx l.length 0 lo)
theorem aE2(v:Option Int)(n d:Nat):(match v with | none=>(d:Int) | some i=>max 0 (min (if i<0 then i+(n:Int) else i) (n:Int)))=((HT.sIx n d v:Nat):Int):=by
 cases v with
 |none=>rfl
 |some i=>
  show max 0 (min (if i<0 then i+(n:Int) else i) (n:Int))=(((if i<0 then (i+(n:Int)).toNat else min i.toNat n):Nat):Int)
  by_cases h:i<0
  ·rw[if_pos h,if_pos h];omega
  ·rw[if_neg h,if_neg h];omega
theorem avB(lo hi:Option Int)(n:Nat):Builtin.Str.strSliceIndices lo hi 1 n=sliceRange ((HT.sIx n 0 lo:Nat):Int) ((HT.sIx n n hi:Nat):Int) 1:=by
 unfold Builtin.Str.strSliceIndices
 simp only[show ((1:Int)>0)=True from by simp,if_true]
 rw[←aE2 lo n 0,←aE2 hi n n]
 cases lo<;>cases hi<;>rfl
theorem amF(a b:Nat):sliceRange (a:Int) (b:Int) 1=(List.range (b-a)).map fun k=>a+k:=by
 rcases Nat.lt_or_ge a b with c | c
 ·have up:(a:Int)<b:=by omega
  have many:(((b:Int)-a+1-1) / 1).toNat=b-a:=by rw[Int.ediv_one];omega
  have e:∀k:Nat,((a:Int)+1*(k:Int)).toNat=a+k:=fun k=>by omega
  simp only[sliceRange,gt_iff_lt,Int.one_pos,if_true,up,many,e]
 ·have no:¬((a:Int)<b):=by omega
  have z:b-a=0:=by omega
  simp only[sliceRange,gt_iff_lt,Int.one_pos,if_true,no,if_false,z,List.range_zero,List.map_nil]
  rfl
theorem asO(l:List Nat)(n a:Nat):((List.range n).map fun k=>a+k).filterMap (fun i=>(Tx l).cps[i]?)=(l.drop a).take n:=by
 rw[List.filterMap_map]
 induction n with
 |zero=>rw[List.take_zero];rfl
 |succ n ih=>
  have one:[n].filterMap ((fun i=>(Tx l).cps[i]?) ∘ fun k=>a+k)=(l[a+n]?).toList:=by
   show List.filterMap _ [n]=_
   cases e:l[a+n]? <;>simp[e]
  rw[List.range_succ,List.filterMap_append,ih,one,List.take_add_one,List.getElem?_drop]
theorem aIT(l:List Nat)(lo hi:Option Int):(Builtin.Str.strSliceIndices lo hi 1 l.length).filterMap (fun i=>(Tx l).cps[i]?)=ad4 l lo hi:=by
 rw[avB,amF,asO]
 rfl
theorem aoV(l:List Nat)(lo hi:Option Int)(h:(Builtin.Str.strSliceIndices lo hi 1 l.length).length=l.length):ad4 l lo hi=l:=by
 rw[avB,amF,List.length_map,List.length_range] at h
 have h1:=HT.sIx_le l.length l.length (Nat.le_refl _) hi
 have e1:HT.sIx l.length 0 lo=0∨l.length=0:=by omega
 unfold ad4
 rcases e1 with e | e
 ·rw[e]
  have:HT.sIx l.length l.length hi=l.length:=by omega
  rw[this]
  simp
 ·have:l=[]:=List.eq_nil_of_length_eq_zero e
  subst this
  simp
theorem afG(l:List Nat)(lo hi:Option Int):(ad4 l lo hi).length<=l.length:=by
 unfold ad4
 rw[List.length_take,List.length_drop]
 omega
section
variable{X:Cx}
def rSlX:V->Option Int->Option Int->Hp->VK->Prop:=fun x lo hi H Q=>∃l:List Nat,x=.str (Tx l)/\l.length<=sizeLine/\Q (.str (Tx (ad4 l lo hi))) H
theorem slX:Sls X rSlX:=by
 refine⟨fun pins s σ H x v vl vu lo hi sl Q I rx hs pl pu h=>?_⟩
 obtain⟨l,rfl,hz,q⟩:=h
 obtain⟨t,rfl⟩:=rx
 refine⟨"str",_,PySem.F.slot_str_getitem.lookup,typeIs_str _ _ _,?_⟩
 obtain⟨o,ho,hc,hd⟩:=hs
 have fin:∀(a b:Option (Int×Tok)),o.data=.fields #[partValue a,partValue b,.none]->a.map (·.1)=lo->b.map (·.1)=hi->wpAny (model X.prog X.w) X.A (getItem (.str (Tx l) t) (.ref sl)) (EP X pins σ Q) X.xe s:=fun a b hd ea eb=>by
  refine wpAny_getItem_str_slice (l:=a) (u:=b) (st:=none) ⟨o,ho,hc,hd⟩ rfl ?_
  have ep:slicePicked (Tx l) a b none=Builtin.Str.strSliceIndices lo hi 1 l.length:=by unfold slicePicked;rw[ea,eb,abL];rfl
  unfold sliceMade
  rw[ep]
  split
  ·next hw=>
   have hw2:(Builtin.Str.strSliceIndices lo hi 1 l.length).length=l.length:=by
    have:=(Bool.and_eq_true_iff.mp hw).2
    rw[abL] at this
    exact beq_iff_eq.mp this
   show EP X pins σ Q _ s
   rw[aoV l lo hi hw2] at q
   exact⟨.str (Tx l),H,I,⟨t,rfl⟩,q⟩
  ·rw[aIT]
   exact⟨by rw[abL];exact Nat.le_trans (afG l lo hi) hz,⟨.str (Tx (ad4 l lo hi)),H,I.tok _,⟨_,rfl⟩,q⟩⟩
 cases pl with
 |none=>
  cases pu with
  |none=>exact fin none none hd rfl rfl
  |int j tj=>exact fin none (some (j,tj)) hd rfl rfl
 |int i ti=>
  cases pu with
  |none=>exact fin (some (i,ti)) none hd rfl rfl
  |int j tj=>exact fin (some (i,ti)) (some (j,tj)) hd rfl rfl
def two(n:Nat):List Nat:=(num (100+n)).drop 1
theorem aGJ(m:Nat):num m≠[]:=fun e=>Nat.toDigits_ne_nil (List.map_eq_nil_iff.mp e)
end
section
variable{prog:Program}{w:World}{A:Around}{E:Value->Shared->Prop}{s:Shared}{I:Addr}{fp wr:List Addr}{G:Array GenState->Array GenState->Prop}{n:Nat}{P:Nat->Value->Prop}{St:Nat->Shared->Prop}
end
section
variable{X:Cx}{o e:Expr}{to te:TE}{p rpos apos cpos:Pos}
end
theorem abE{X:Cx}{e:Expr}{t u:TE}(h:E X e t)(h':E X e u):E X e (fun σ H Q=>t σ H Q∨u σ H Q):=
 ⟨fun pins s σ H Q I z=>z.elim (fun z=>h.h pins s σ H Q I z) fun z=>h'.h pins s σ H Q I z⟩
section
variable{X:Cx}
end
section
variable{κ:Type}[DecidableEq κ]
def aCO(kvs:List (κ×V))(k:κ):Option V:=(kvs.find? fun kv=>decide (kv.1=k)).map (·.2)
def aD7(kvs:List (κ×V))(k:κ)(v:V):List (κ×V):=
 if (kvs.any fun kv=>decide (kv.1=k))=true then kvs.map (fun kv=>if kv.1=k then (kv.1,v) else kv) else kvs++[(k,v)]
def aFA(kvs:List (κ×V))(k:κ):List (κ×V):=kvs.filter fun kv=>decide (kv.1≠k)
theorem KV.any{kvs:List (κ×V)}{vs:List (κ×Value)}(r:KV kvs vs)(k:κ):(kvs.any fun kv=>decide (kv.1=k))=vs.any fun kv=>decide (kv.1=k):=by
 unfold KV at r
 induction r with
 |nil=>rfl
 |cons h t ih=>rw[List.any_cons,List.any_cons,ih,h.1]
theorem KV.drop{kvs:List (κ×V)}{vs:List (κ×Value)}(r:KV kvs vs)(k:κ):KV (aFA kvs k) (without vs k):=by
 unfold KV at r ⊢
 unfold aFA without
 induction r with
 |nil=>exact .nil
 |@cons p q ps qs h t ih=>
  obtain⟨h1,h2⟩:=h
  rw[List.filter_cons,List.filter_cons]
  by_cases e:p.1=k
  ·have a:¬decide (p.1≠k)=true:=by simp[e]
   have b:¬decide (q.1≠k)=true:=by simp[h1.symm.trans e]
   rw[if_neg a,if_neg b];exact ih
  ·have e':¬q.1=k:=fun z=>e (h1.trans z)
   have a:decide (p.1≠k)=true:=by simp[e]
   have b:decide (q.1≠k)=true:=by simp[e']
   rw[if_pos a,if_pos b];exact .cons ⟨h1,h2⟩ ih
theorem KV.length{kvs:List (κ×V)}{vs:List (κ×Value)}(r:KV kvs vs):kvs.length=vs.length:=Paired.length r
end
theorem aN2{P:Program}{w:World}{k:Key}{u:Value}(r:RelV (kV k) u):(ab5 P w).is k u=true:=by
 cases k with
 |inl i=>obtain⟨t,e⟩:=(show ∃t,u=Value.int i t from r);subst e;exact al5 P w i t
 |inr x=>obtain⟨t,e⟩:=(show ∃t,u=Value.str x t from r);subst e;exact alX P w x t
section
variable{P:Program}{w:World}{H:Hp}{h:Heap}{a:Addr}
end
def DGet(H:Hp)(a:Addr)(y:V)(r:Option V):Prop:=
 (∃kvs k,Rd H a (.dK kvs)/\y=kV k/\r=aCO kvs k)∨∃kvs k b,Rd H a (.dT kvs)/\y=.ref b/\H b=some (.tup (k.map kV))/\r=aCO kvs k
def DPut(H:Hp)(a:Addr)(y v:V)(H':Hp):Prop:=
 (∃kvs k,H a=some (.dK kvs)/\y=kV k/\kvs.length<sizeLine/\H'=upd H a (.dK (aD7 kvs k v)))∨
 ∃kvs k b,H a=some (.dT kvs)/\y=.ref b/\H b=some (.tup (k.map kV))/\kvs.length<sizeLine/\H'=upd H a (.dT (aD7 kvs k v))
theorem DGet.k{H:Hp}{a:Addr}{kvs:List (Key×V)}{k:Key}(e:H a=some (.dK kvs)):DGet H a (kV k) (aCO kvs k):=.inl ⟨kvs,k,.inl e,rfl,rfl⟩
theorem DGet.t{H:Hp}{a b:Addr}{kvs:List (List Key×V)}{k:List Key}(e:H a=some (.dT kvs))(eb:H b=some (.tup (k.map kV))):DGet H a (.ref b) (aCO kvs k):=.inr ⟨kvs,k,b,.inl e,rfl,eb,rfl⟩
theorem DPut.k{H:Hp}{a:Addr}{kvs:List (Key×V)}{k:Key}{v:V}(e:H a=some (.dK kvs))(hl:kvs.length<sizeLine):DPut H a (kV k) v (upd H a (.dK (aD7 kvs k v))):=.inl ⟨kvs,k,e,rfl,hl,rfl⟩
theorem DPut.t{H:Hp}{a b:Addr}{kvs:List (List Key×V)}{k:List Key}{v:V}(e:H a=some (.dT kvs))(eb:H b=some (.tup (k.map kV)))(hl:kvs.length<sizeLine):
  DPut H a (.ref b) v (upd H a (.dT (aD7 kvs k v))):=.inr ⟨kvs,k,b,e,rfl,eb,hl,rfl⟩
section
variable{X:Cx}{pins:List (Addr×Obj)}{σ:St}{H:Hp}{s:Shared}{a:Addr}{y v:V}{u r:Value}{o:Option V}{A:Around}{E:Value->Shared->Prop}
end
section
variable{X:Cx}{pins:List (Addr×Obj)}{σ:St}{H:Hp}{s:Shared}{a:Addr}{kvs:List (Key×V)}{k:Key}{u:Value}{A:Around}{E:Value->Shared->Prop}
end
def aOM(i:Expr):Prop:=∀ov iv,subscripted i false ov iv=operate [ov,iv] (getItem ov iv)
theorem aEQ{prog:Program}{w:World}{A:Around}{E:Value->Shared->Prop}{s:Shared}{env:Env}{value slice:Expr}{pos:Pos}{T id:String}{Q:Value->Shared->Prop}
  (hl:typeLookup (.type T) "__getitem__"=pure (some (.builtin id))) (hs:aOM slice)
  (h:wpAny (model prog w) A (eval value env) (fun o s₁=>wpAny (model prog w) A (eval slice env) (fun i s₂=>s₂.TypeIs o T/\wpAny (model prog w) A (getItem o i) Q E s₂) E s₁) E s):
  wpAny (model prog w) A (eval (.Subscript value slice pos) env) Q E s:=by
 refine Subscript_ (wpAny_mono h (fun o s₁ h₁=>wpAny_mono h₁ (fun i s₂ h₂=>?_) fun _ _ x=>x) fun _ _ x=>x)
 obtain⟨hT,h₂⟩:=h₂
 unfold subscriptTail
 refine wpAny_bind ?_
 rw[getitemInPython_of_ne hT.not_modules]
 refine wpAny_bind (wpAny_specialOf hT hl ?_)
 have fin:wpAny (model prog w) A (subscripted slice false o i) (fun r s₃=>wpAny (model prog w) A (letTemporaryGo value o r >>=fun _=>pure r) Q E s₃) E s₂:=by
  rw[hs o i]
  exact wpAny_operating (wpAny_mono h₂ (fun r s₃ h₃=>wpAny_bind (wpAny_letTemporaryGo (wpAny_pure h₃))) fun _ _ x=>x)
 first
  |exact wpAny_pure (wpAny_bind fin)
  |exact wpAny_bind (wpAny_pure (wpAny_bind fin))
  |exact wpAny_bind fin
section
variable{X:Cx}{o i e value:Expr}{pos pos' tpos:Pos}{td ty tv:TE}
end
section
variable{X:Cx}{pos:Pos}
end
section
variable{X:Cx}{pins:List (Addr×Obj)}{σ:St}{H:Hp}{s:Shared}{a:Addr}{y d:V}{u r:Value}{o:Option V}{A:Around}{E:Value->Shared->Prop}
end
section
variable{X:Cx}{o e f:Expr}{apos cpos:Pos}{td ty tx:TE}
end
section
variable{X:Cx}{pins:List (Addr×Obj)}{σ:St}{H:Hp}{s:Shared}{a:Addr}{kvs:List (Key×V)}{A:Around}{E:Value->Shared->Prop}
end
section
variable{X:Cx}{pins:List (Addr×Obj)}{σ:St}{H:Hp}{s:Shared}{a:Addr}{y:V}{u:Value}{A:Around}{E:Value->Shared->Prop}
end
section
variable{X:Cx}{k:Nat}{o i kx vx:Expr}{td ty tk tv:TE}{pos:Pos}{keys:List (Option Expr)}{values:List Expr}{trs:List (TE×TE)}
theorem anV:Op2 X (binaryOp .Mult) aM5:=⟨aJB⟩
end
section
variable{prog:Program}{w:World}{A:Around}{E:Value->Shared->Prop}{s:Shared}{a:Addr}{es:Array (Int×Value)}{ep:Nat}{t:SetTable}{z:Int}{tk:Tok}
end
section
variable{prog:Program}{w:World}{A:Around}{R:Result->Shared->Prop}{I:Addr}{fp wr:List Addr}{G:Array GenState->Array GenState->Prop}{n:Nat}{P:Nat->Value->Prop}{St:Nat->Shared->Prop}
end
section
variable{prog:Program}{w:World}{A:Around}{E:Value->Shared->Prop}{s:Shared}
end
section
variable{M:Model}{A:Around}{E:Value->Shared->Prop}{s:Shared}
end
section
variable{prog:Program}{w:World}{A:Around}{E:Value->Shared->Prop}{s:Shared}{a I:Addr}{es:Array (Int×Value)}{ep:Nat}{t:SetTable}
end
section
variable{prog:Program}{w:World}{A:Around}{E:Value->Shared->Prop}{s:Shared}{a I:Addr}{es:Array (Int×Value)}{ep:Nat}{t:SetTable}
end
section
variable{X:Cx}
end
section
variable{X:Cx}
end
section
variable{js:List Nat}{σ:St}{tt:TT}{te:TE}{Q:VK}{H1:Hp}
end
theorem ifX{a b:List Nat}{A B:Prop}(h1:a=b->A)(h2:¬a=b->B):if decide (V.str (Tx a)=V.str (Tx b))=true then A else B:=by
 rw[auK]
 exact ifD h1 h2
theorem ay1{a:List Nat}{A B:Prop}(h:A):if decide (V.str (Tx a)=V.str (Tx a))=true then A else B:=ifX (fun _=>h) fun c=>absurd rfl c
theorem ajC{a b:List Nat}{A B:Prop}(c:¬a=b)(h:B):if decide (V.str (Tx a)=V.str (Tx b))=true then A else B:=ifX (fun e=>absurd e c) fun _=>h
end L2
namespace KM
open PySem PySem.Spec PyProof.Rows L2
inductive Mk where
 |num (m:Int) | lst (b:Int) | nea (d:Int) | wrk | wkd (m:Int) | nth (w m:Int) | one (w:Int) | nil
 deriving DecidableEq
def wk(f:Int)(n:Nat):Bool:=decide (1<=(f+(1+(n:Int))-1)%7)&&decide ((f+(1+(n:Int))-1)%7<=5)
def ab(i:Int):Int:=if i<0 then -i else i
theorem rng{l:Int}(hl:28<=l/\l<=31):(-(2^62)<=(1:Int)/\(1:Int)<2^62/\ -(2^62)<=l+1/\l+1<2^62)/\(l+1-1).toNat=l.toNat/\(l+1-1).toNat<=sizeLine:=by
 obtain⟨h0,h1⟩:=hl
 refine⟨⟨by decide,by decide,by omega,by omega⟩,by omega,?_⟩
 rw[sizeLine_eq]
 omega
def aOP(w m:Int):List (Str×V):=aaP "many" (.int m) (aaP "weekday" (.int w) [])
def Mk.ok:Mk->Prop
 |.num m=>0<=m
 |.lst b=>0<=b/\b<=30
 |.nea d=>1<=d/\d<=31
 |.wrk=>True
 |.wkd m=>0<=m/\m<=127
 |.nth w m=>(0<=w/\w<=6)/\1<=m/\m<=5
 |.one w=>0<=w/\w<=6
 |.nil=>True
def Mk.wk:Mk->Bool
 |.wkd _ | .nth _ _ | .one _=>true
 |_=>false
def Mk.tup:Mk->List V
 |.num m=>[.str (Tx [112,108,97,105,110]),.int m,.int 0]
 |.wkd m=>[.str (Tx [112,108,97,105,110]),.int m,.int 0]
 |.lst b=>[.str (Tx [108,97,115,116]),.int b,.int 0]
 |.nea d=>[.str (Tx [110,101,97,114]),.int d,.int 0]
 |.wrk=>[.str (Tx [119,111,114,107]),.int 0,.int 0]
 |.nth w m=>[.str (Tx [110,116,104]),.int w,.int m]
 |.one w=>[.str (Tx [108,97,115,116,111,110,101]),.int w,.int 0]
 |.nil=>[]
def Mk.sp:Mk->Bool
 |.nil=>false
 |_=>true
structure Cs where
 (nu la ne lw we nt lo ma:Addr)
def MkAt(c:Cs)(H:Hp)(x:Addr):Mk->Prop
 |.num m=>∃dx,H x=some (.ins c.nu dx [("mask",.int m)])
 |.lst b=>∃dx,H x=some (.ins c.la dx [("back",.int b)])
 |.nea d=>∃dx,H x=some (.ins c.ne dx [("day",.int d)])
 |.wrk=>∃dx,H x=some (.ins c.lw dx [])
 |.wkd m=>∃dx,H x=some (.ins c.we dx [("mask",.int m)])
 |.nth w m=>∃dx,H x=some (.ins c.nt dx (aOP w m))
 |.one w=>∃dx,H x=some (.ins c.lo dx [("weekday",.int w)])
 |.nil=>∃dx,H x=some (.ins c.ma dx [])
theorem MkAt.keep{c:Cs}{H H':Hp}(s:Keep H H'){x:Addr}{k:Mk}(h:MkAt c H x k):MkAt c H' x k:=by
 cases k<;>(obtain⟨dx,h⟩:=h;exact⟨dx,s.ins h⟩)
def PrAt(H:Hp)(p:Addr)(k:Mk):Prop:=k.ok/\k.sp=true/\∃u,H p=some (.tup [.ref u,.bl k.wk])/\H u=some (.tup k.tup)
theorem PrAt.keep{H H':Hp}(s:Keep H H'){p:Addr}{k:Mk}(h:PrAt H p k):PrAt H' p k:=by
 obtain⟨o,e,u,h1,h2⟩:=h
 exact⟨o,e,u,s.tup h1,s.tup h2⟩
abbrev Ft(R:Addr->Mk->Prop):List Addr->List Mk->Prop:=Paired R
theorem Ft.keepM{c:Cs}{H H':Hp}(s:Keep H H'){ps:List Addr}{ks:List Mk}(h:Ft (MkAt c H) ps ks):Ft (MkAt c H') ps ks:=Paired.imp' (fun _ _ z=>z.keep s) h
theorem Ft.app{R:Addr->Mk->Prop}:∀{ps:List Addr} {ks:List Mk} {ps':List Addr} {ks':List Mk},Ft R ps ks->Ft R ps' ks'->Ft R (ps++ps') (ks++ks')
 |_,_,_,_,.nil,h=>h
 |_,_,_,_,.cons r t,h=>.cons r (Ft.app t h)
end KM
namespace L2
open PySem
theorem abG{us:List Value}(h:us.length=1):∃a,us=[a]:=by
 cases us with
 |nil=>cases h
 |cons a r=>cases r with
  |nil=>exact⟨a,rfl⟩
  |cons b r=>cases h
theorem aG2{us:List Value}{n:Nat}(h:us.length=n+1):∃a r,us=a::r/\r.length=n:=by
 cases us with
 |nil=>cases h
 |cons a r=>exact⟨a,r,rfl,Nat.succ.inj h⟩
theorem ad3{us:List Value}(h:us.length=2):∃a b,us=[a,b]:=by
 obtain⟨a,r,rfl,h'⟩:=aG2 h
 obtain⟨b,rfl⟩:=abG h'
 exact⟨a,b,rfl⟩
theorem ahG{us:List Value}(h:us.length=3):∃a b c,us=[a,b,c]:=by
 obtain⟨a,r,rfl,h'⟩:=aG2 h
 obtain⟨b,c,rfl⟩:=ad3 h'
 exact⟨a,b,c,rfl⟩
theorem aIU{us:List Value}(h:us.length=4):∃a b c d,us=[a,b,c,d]:=by
 obtain⟨a,r,rfl,h'⟩:=aG2 h
 obtain⟨b,c,d,rfl⟩:=ahG h'
 exact⟨a,b,c,d,rfl⟩
structure DfA(P:Program)(w:World)(K:PySem.W.Frag)(mg:Str->Option Value)(base:Heap)(f:Addr)(k:Nat)(ps:List Str)(sp:Sp):Prop where
 ex:∃fd:FuncData,FnOk P w K mg base CX0 k f fd ps sp/\Binds K fd ps []/\PySem.W.keepIn K (.ref f)=true
theorem Df.at_{P:Program}{w:World}{K:PySem.W.Frag}{mg:Str->Option Value}{base:Heap}{x:Str}{k:Nat}{ps:List Str}{sp:Sp}{f:Addr}(D:Df P w K mg base x k ps sp)(hm:mg x=some (.ref f)):DfA P w K mg base f k ps sp:=by
 obtain⟨f',fd,F,hb,hm',kp⟩:=D.ex
 rw[hm] at hm'
 cases hm'
 exact⟨fd,F,hb,kp⟩
def aK4(f:Addr)(sp:Sp)(tv:TE)(t:TA):TE:=fun σ H Q=>tv σ H fun v H1=>v=.ref f/\agN sp [] E0 t σ H1 Q
section
variable{X:Cx}{f:Addr}{k k':Nat}{ps:List Str}{sp:Sp}{y:Str}{e:Expr}{es:List Expr}{t:TA}{tv:TE}{p pos:Pos}
theorem eDV(D:DfA X.prog X.w X.K X.mg X.base f k ps sp)(hr:Room k' X.A)(hv:E X (.Name y p) tv)(ha:As X (e::es) t)(hk:k<=k':=by decide)
  (he:starEach (e::es) X.env=(false,eval e X.env)::starEach es X.env:=by rfl) (hpl:(backTo pos (starEach es X.env)).any (·.1)=false:=by rfl):E X (.Call (.Name y p) (e::es) [] pos) (aK4 f sp tv t):=by
 obtain⟨fd,F,hb,kp⟩:=D.ex
 refine⟨fun pins s σ H Q I h=>?_⟩
 refine wpAny_Call_Name_kw (thn (hv.h pins s σ H _ I h) fun v s1 ⟨x,H1,I1,r1,ex,q⟩=>?_)
 subst ex
 cases r1
 refine PySem.W.callWith_K (h₀:=X.base) I1.ok.mod.kin kp (thn (ha.h pos pins s1 σ H1 _ I1 q) fun us s2 ⟨vs,H2,I2,r,q2⟩=>⟨I2.kIn,?_⟩) he hpl
 exact akO F (hr.mono hk) hb .nil ajU I2 r q2
end
section
variable{X:Cx}
def aM0:V->List V->Hp->VK->Prop:=fun x vs H Q=>∃l p:List Nat,x=.str (Tx l)/\vs=[.str (Tx p)]/\Q (.bl (decide (l.take p.length=p))) H
theorem aF9(l p:List Nat):(decide (0+(Tx p).length<=(Tx l).length)&&Builtin.Str.subAt (Tx l) (Tx p) 0)=decide (l.take p.length=p):=by
 rw[abL,abL]
 have e:(Tx l).cps.extract 0 (0+(Tx p).length)=(l.take p.length).toArray:=by
  rw[abL]
  show l.toArray.extract 0 (0+p.length)=_
  simp
 have e2:(((l.take p.length).toArray==p.toArray:Bool))=decide (l.take p.length=p):=by
  by_cases h:l.take p.length=p
  ·rw[h];simp
  ·rw[decide_eq_false h]
   exact beq_eq_false_iff_ne.mpr fun z=>h (by simpa using congrArg Array.toList z)
 unfold Builtin.Str.subAt
 rw[e]
 show (_&&((l.take p.length).toArray==p.toArray))=_
 rw[e2]
 by_cases h:l.take p.length=p
 ·have:0+p.length<=l.length:=by
   have:=congrArg List.length h
   rw[List.length_take] at this
   omega
  rw[decide_eq_true this,Bool.true_and]
 ·rw[decide_eq_false h,Bool.and_false]
theorem aF6:MtR X "str.startswith" aM0:=by
 intro pins s σ H x xs v us Q I rx rv h
 obtain⟨l,p,rfl,rfl,q⟩:=h
 obtain⟨u,rfl,r1⟩:=ab8 rv
 obtain⟨t',rfl⟩:=r1
 obtain⟨t,rfl⟩:=rx
 refine call_gives PySem.F.slot_str_startswith (typeIs_str _ _ _) PySem.F.entry_str_startswith (PySem.F.args_str_startswith_2 _ _) (gives_str_startswith (Tx l) (Tx p) t t') ?_
 rw[aF9]
 exact⟨.bl _,H,I,rfl,q⟩
theorem eSwN{o e:Expr}{to te:TE}{apos cpos:Pos}(ho:E X o to)(he:E X e te)(hbase:attributeBase o "startswith" X.env (eval o X.env)=eval o X.env:=by rfl)
  (hfew:((backTo cpos (starEach [e] X.env)).all (fun x=> !x.1)&&(backToKw cpos (keywordEach [] X.env)).all (fun x=>x.1.isSome)&&decide (([e]:List Expr).length+([]:List Keyword).length+(if ([]:List Keyword).isEmpty then 0 else 1)<30))=true:=by rfl)
  (hline:(apos.endLine==cpos.line)=true:=by rfl) (hs:starEach [e] X.env=(false,eval e X.env)::starEach [] X.env:=by rfl) (hplain:(backTo cpos (starEach [] X.env)).any (·.1)=false:=by rfl):
  E X (.Call (.Attribute o "startswith" apos) [e] [] cpos) (tBM X.K "str" aM0 to (aiH te ae4)):=
 ⟨an2 PySem.F.plainAttrs_str PySem.F.slot_str_startswith PySem.F.type_str_startswith aF6 ho.h (acR he.h aeT hs) hbase hfew hline hs hplain⟩
def rEw:V->List V->Hp->VK->Prop:=fun x vs H Q=>∃(l:List Nat) (c:Nat),x=.str (Tx l)/\vs=[.str (Tx [c])]/\Q (.bl (decide (l.getLast? =some c))) H
theorem aOK(l:List Nat)(c:Nat):(decide (0+(Tx [c]).length<=(Tx l).length)&&Builtin.Str.subAt (Tx l) (Tx [c]) ((Tx l).length-(Tx [c]).length))=decide (l.getLast? =some c):=by
 rw[abL,abL]
 rcases List.eq_nil_or_concat l with rfl | ⟨r,x,rfl⟩
 ·simp
 ·rw[List.concat_eq_append]
  have e:(Tx (r++[x])).cps.extract ((r++[x]).length - [c].length) ((r++[x]).length - [c].length+(Tx [c]).length)= #[x]:=by
   show (r++[x]).toArray.extract ((r++[x]).length-1) ((r++[x]).length-1+1)= #[x]
   rw[List.length_append,List.length_singleton,Nat.add_sub_cancel]
   simp
  unfold Builtin.Str.subAt
  rw[e]
  have e2:decide (0+[c].length<=(r++[x]).length)=true:=by simp
  rw[e2,Bool.true_and,List.getLast?_append,List.getLast?_singleton]
  show (#[x]== #[c])=decide (some x=some c)
  by_cases h:x=c
  ·subst h;simp
  ·have h2:¬some x=some c:=fun z=>h (Option.some.inj z)
   rw[decide_eq_false h2]
   exact beq_eq_false_iff_ne.mpr fun z=>h (by simpa using z)
theorem aN3:MtR X "str.endswith" rEw:=by
 intro pins s σ H x xs v us Q I rx rv h
 obtain⟨l,c,rfl,rfl,q⟩:=h
 obtain⟨u,rfl,r1⟩:=ab8 rv
 obtain⟨t',rfl⟩:=r1
 obtain⟨t,rfl⟩:=rx
 refine call_gives PySem.F.slot_str_endswith (typeIs_str _ _ _) PySem.F.entry_str_endswith (PySem.F.args_str_endswith_2 _ _) (gives_str_endswith (Tx l) (Tx [c]) t t') ?_
 rw[aOK]
 exact⟨.bl _,H,I,rfl,q⟩
theorem eEw{o e:Expr}{to te:TE}{apos cpos:Pos}(ho:E X o to)(he:E X e te)(hbase:attributeBase o "endswith" X.env (eval o X.env)=eval o X.env:=by rfl)
  (hfew:((backTo cpos (starEach [e] X.env)).all (fun x=> !x.1)&&(backToKw cpos (keywordEach [] X.env)).all (fun x=>x.1.isSome)&&decide (([e]:List Expr).length+([]:List Keyword).length+(if ([]:List Keyword).isEmpty then 0 else 1)<30))=true:=by rfl)
  (hline:(apos.endLine==cpos.line)=true:=by rfl) (hs:starEach [e] X.env=(false,eval e X.env)::starEach [] X.env:=by rfl) (hplain:(backTo cpos (starEach [] X.env)).any (·.1)=false:=by rfl):
  E X (.Call (.Attribute o "endswith" apos) [e] [] cpos) (tBM X.K "str" rEw to (aiH te ae4)):=
 ⟨an2 PySem.F.plainAttrs_str PySem.F.slot_str_endswith PySem.F.type_str_endswith aN3 ho.h (acR he.h aeT hs) hbase hfew hline hs hplain⟩
end
end L2
namespace KM
open PySem PySem.Spec PyProof.Rows L2
def acF(t:List Nat):Option Mk:=
 if t=[76] then some (.lst 0) else if t=[76,87] then some .wrk
 else if t.take ([76,45]:List Nat).length=[76,45] then (aaU 1 30 (ad4 t (some 2) none)).map Mk.lst
 else if t.getLast? =some 87 then (aaU 1 31 (ad4 t none (some (-1)))).map Mk.nea else none
def wdN(t:List Nat):Option Int:=(aaU 0 7 t).map fun n=>if n=7 then 0 else n
def aE3:Option Int->Option Int->Option Mk
 |some w,some m=>some (.nth w m)
 |_,_=>none
def akS(t:List Nat):Option Mk:=
 if t.getLast? =some 76 then (wdN (ad4 t none (some (-1)))).map Mk.one
 else match spl 35 t with
  |[a,b]=>aE3 (wdN a) (aaU 1 5 b)
  |_=>none
def rdM(wk:Bool)(t:List Nat):Option Mk:=if wk=true then akS t else acF t
def MkV(c:Cs)(H:Hp)(v:V):Option Mk->Prop
 |none=>v=.non
 |some k=>∃x,v=.ref x/\MkAt c H x k
theorem abH(c:Nat):∀(l:List Nat),∀w∈spl c l,w.length<=l.length
 |[],w,hw=>by simp[spl] at hw;simp[hw]
 |x::r,w,hw=>by
  have ih:=abH c r
  unfold spl at hw
  split at hw
  ·rcases List.mem_cons.mp hw with z | z
   ·subst z;simp
   ·have:=ih w z;simp;omega
  ·split at hw
   ·rename_i h t e
    rcases List.mem_cons.mp hw with z | z
    ·subst z
     have:=ih h (by rw[e];simp)
     simp;omega
    ·have:=ih w (by rw[e];simp[z])
     simp;omega
   ·have:w=[x]:=by simpa using hw
    subst this;simp
def plP(lo hi:Int)(ws:List (List Nat)):List Int:=ws.filterMap (aaG lo hi)
def mkP(wk:Bool)(lo hi:Int)(ws:List (List Nat)):List Mk:=ws.filterMap fun w=>if (aaG lo hi w).isSome=true then none else rdM wk w
theorem aCQ{lo hi:Int}{ws:List (List Nat)}{w:List Nat}{m:Int}(h:aaG lo hi w=some m):plP lo hi (ws++[w])=plP lo hi ws++[m]:=by
 unfold plP
 rw[List.filterMap_append]
 simp[h]
theorem awM{lo hi:Int}{ws:List (List Nat)}{w:List Nat}(h:aaG lo hi w=none):plP lo hi (ws++[w])=plP lo hi ws:=by
 unfold plP
 rw[List.filterMap_append]
 simp[h]
theorem aIG{wk:Bool}{lo hi:Int}{ws:List (List Nat)}{w:List Nat}{m:Int}(h:aaG lo hi w=some m):mkP wk lo hi (ws++[w])=mkP wk lo hi ws:=by
 unfold mkP
 rw[List.filterMap_append]
 simp[h]
theorem ahL{wk:Bool}{lo hi:Int}{ws:List (List Nat)}{w:List Nat}{k:Mk}(h:aaG lo hi w=none)(hk:rdM wk w=some k):mkP wk lo hi (ws++[w])=mkP wk lo hi ws++[k]:=by
 unfold mkP
 rw[List.filterMap_append]
 simp[h,hk]
theorem ak7(wk:Bool)(lo hi:Int)(ws:List (List Nat))(i:Nat):(mkP wk lo hi (ws.take i)).length<=(mkP wk lo hi ws).length:=((List.take_sublist i ws).filterMap _).length_le
structure ItemsOk(wk:Bool)(lo hi:Int)(l:List Nat):Prop where
 len:l.length<=300
 few:(spl 44 l).length<=40
 all:∀w∈spl 44 l,(aaG lo hi w).isSome=true∨(rdM wk w).isSome=true
 most:(mkP wk lo hi (spl 44 l)).length<=20
theorem aE8{xs:List V}(h:xs.length<=40):ac1 xs none (some 40)=xs:=by
 unfold ac1
 have e1:HT.sIx xs.length 0 none=0:=rfl
 have e2:xs.length<=HT.sIx xs.length xs.length (some 40):=by
  show xs.length<=HT.sIx xs.length xs.length (some 40)
  unfold HT.sIx
  simp
  omega
 rw[e1,List.drop_zero,Nat.sub_zero]
 exact List.take_of_length_le e2
def RunV(H:Hp)(r:V):Option (Int×Int)->Prop
 |none=>r=.non
 |some (a,b)=>∃p,r=.ref p/\H p=some (.tup [.int a,.int b])
theorem az2(es:List (Option Int)):(es.map oV).all aeB=true:=by
 rw[List.all_map]
 refine List.all_eq_true.mpr fun x _=>?_
 cases x<;>rfl
def wk7(m:Int):Int:=Builtin.bitAnd (Builtin.bitOr m (m / 2^(7:Int).toNat)) 127
def aeE(wk:Bool)(m:Int):List Mk:=if m=0 then [] else if wk=true then [.wkd (wk7 m)] else [.num m]
def aiF(wk:Bool)(lo hi:Int)(l:List Nat):List Mk:=aeE wk (orM (plP lo hi (spl 44 l)))++mkP wk lo hi (spl 44 l)
def Cl(t:List Nat):Prop:=(44∉t/\32∉t)/\t≠[]/\t.length<=8
instance (t:List Nat):Decidable (Cl t):=by unfold Cl;exact inferInstance
def aiS(lo hi:Int)(t:List Nat)(ns:List Int):Prop:=aaG lo hi t=some (abV ns)/\Cl t/\(∀n∈ns,lo<=n/\n<=hi)/\ns≠[]/\ns.length<=64
theorem ah3{c:Nat}{a b:List Nat}{d:Nat}(h1:c∉a)(h2:c∉b)(h3:c≠d):c∉a++d::b:=by
 simp only[List.mem_append,List.mem_cons,not_or]
 exact⟨h1,h3,h2⟩
theorem anC{a b:List Nat}{d:Nat}(ha:(44∉a/\32∉a)/\a≠[]/\a.length<=5)(hb:(44∉b/\32∉b)/\b.length<=2)(h1:44≠d)(h2:32≠d):Cl (a++d::b):=by
 refine⟨⟨ah3 ha.1.1 hb.1.1 h1,ah3 ha.1.2 hb.1.2 h2⟩,by simp,?_⟩
 have:=ha.2.2
 have:=hb.2
 rw[List.length_append,List.length_cons]
 omega
theorem afW{n:Nat}(h:n<100):(44∉num n/\32∉num n)/\num n≠[]/\(num n).length<=2:=⟨⟨abA h (by decide),abA h (by decide)⟩,aGJ n,(ajW n h).2.2.2⟩
theorem aiD{a b s lo hi:Int}(h0:0<=a)(h1:b<=63)(hab:a<=b)(hs:0<s)(hl:lo<=a)(hb:b<=hi):(∀n∈adH a b s,lo<=n/\n<=hi)/\adH a b s≠[]/\(adH a b s).length<=64:=by
 refine⟨fun n hn=>?_,fun e=>?_,?_⟩
 ·have:=(aj4 hs).mp hn
  omega
 ·have:a∈adH a b s:=(aj4 hs).mpr ⟨Int.le_refl _,hab,by rw[Int.sub_self];rfl⟩
  rw[e] at this
  cases this
 ·rw[ahJ,List.length_map,List.length_range,ahN hs,if_pos hab]
  have:=Int.ediv_le_self (a:=b-a) s (by omega)
  omega
theorem aED(a:Int):adH a a 1=[a]:=by
 rw[ahJ,ahN (by decide),if_pos (Int.le_refl a),Int.sub_self]
 show [a+((0:Nat):Int)*1]=[a]
 simp
theorem i1{lo hi a:Int}(h0:0<=lo)(h1:lo<=a)(h2:a<=hi)(h3:hi<=63):aiS lo hi (num a.toNat) [a]:=by
 have ha:a.toNat<100:=by omega
 have e:=an3 (lo:=lo) (hi:=hi) ha (by omega) (by omega)
 rw[Int.toNat_of_nonneg (by omega)] at e
 have c:=afW ha
 have r:=aiD (a:=a) (b:=a) (s:=1) (lo:=lo) (hi:=hi) (by omega) (by omega) (by omega) (by decide) h1 h2
 have e2:=aiQ (abA ha (by decide)) e
 unfold ahD at e2
 rw[aED] at e2 r
 exact⟨e2,⟨c.1,c.2.1,by have:=c.2.2;omega⟩,r⟩
theorem i2{lo hi a b:Int}(h0:0<=lo)(h1:lo<=a)(h2:a<=b)(h4:b<=hi)(h3:hi<=63):aiS lo hi (num a.toNat++45::num b.toNat) (adH a b 1):=by
 have ha:a.toNat<100:=by omega
 have hb:b.toNat<100:=by omega
 have e:=azP (lo:=lo) (hi:=hi) ha hb (by omega) (by omega) (by omega)
 rw[Int.toNat_of_nonneg (by omega),Int.toNat_of_nonneg (by omega)] at e
 have ca:=afW ha
 have cb:=afW hb
 exact⟨aiQ (ah3 (abA ha (by decide)) (abA hb (by decide)) (by decide)) e,anC ⟨ca.1,ca.2.1,by have:=ca.2.2;omega⟩ ⟨cb.1,cb.2.2⟩ (by decide) (by decide),aiD (by omega) (by omega) h2 (by decide) h1 h4⟩
theorem i0{lo hi:Int}(h0:0<=lo)(h1:lo<=hi)(h3:hi<=63):aiS lo hi [42] (adH lo hi 1):=
 ⟨aiQ (by decide) alA,by decide,aiD h0 h3 h1 (by decide) (Int.le_refl _) (Int.le_refl _)⟩
theorem i3{lo hi s:Int}(h0:0<=lo)(h1:lo<=hi)(h3:hi<=63)(hs:1<=s/\s<=99):aiS lo hi ([42]++47::num s.toNat) (adH lo hi s):=by
 have hs':s.toNat<100:=by omega
 have e:=al4 (show 47∉[42] by decide) (alA (lo:=lo) (hi:=hi)) hs' (by omega)
 rw[if_neg (by decide),Int.toNat_of_nonneg (by omega)] at e
 have cs:=afW hs'
 exact⟨e,anC (by decide) ⟨cs.1,cs.2.2⟩ (by decide) (by decide),aiD h0 h3 h1 (by omega) (Int.le_refl _) (Int.le_refl _)⟩
theorem i4{lo hi a s:Int}(h0:0<=lo)(h1:lo<=a)(h2:a<=hi)(h3:hi<=63)(hs:1<=s/\s<=99):aiS lo hi (num a.toNat++47::num s.toNat) (adH a hi s):=by
 have ha:a.toNat<100:=by omega
 have hs':s.toNat<100:=by omega
 have e1:=an3 (lo:=lo) (hi:=hi) ha (by omega) (by omega)
 have e:=al4 (abA ha (by decide)) e1 hs' (by omega)
 rw[if_pos (ajW _ ha).1,Int.toNat_of_nonneg (by omega),Int.toNat_of_nonneg (by omega)] at e
 have ca:=afW ha
 have cs:=afW hs'
 exact⟨e,anC ⟨ca.1,ca.2.1,by have:=ca.2.2;omega⟩ ⟨cs.1,cs.2.2⟩ (by decide) (by decide),aiD (by omega) h3 h2 (by omega) h1 (Int.le_refl _)⟩
theorem ae2{m:Int}(h:0<=m)(i:Nat):0<=wk7 m/\tb (wk7 m) i=((tb m i||tb m (7+i))&&decide (i<7)):=by
 have h1:(0:Int)<=m / 2^(7:Int).toNat:=Int.ediv_nonneg h (by decide)
 unfold wk7
 refine⟨aI8 (alP h h1) (by decide),?_⟩
 rw[aIR (alP h h1) (by decide),ayQ h h1,aF7 h]
 have e:tb 127 i=decide (i<7):=aCV 7 i
 rw[e]
 rfl
theorem alO{ms:List Int}(h:∀m∈ms,0<=m):orM ms=0↔∀m∈ms,m=0:=by
 constructor
 ·intro e m hm
  refine ah6 (h m hm) (Int.le_refl 0) fun i=>?_
  have z:=aeU h i
  rw[e,ad1] at z
  have:=List.any_eq_false.mp z.symm m hm
  rw[ad1]
  simpa using this
 ·intro e
  refine ah6 (aeS h) (Int.le_refl 0) fun i=>?_
  rw[aeU h,ad1,List.any_eq_false]
  intro m hm
  rw[e m hm,ad1]
  exact Bool.false_ne_true
theorem at5{ms:List Int}(h:∀m∈ms,0<=m):wk7 (orM ms)=orM (ms.map wk7):=by
 have h':∀m∈ms.map wk7,0<=m:=fun m hm=>by
  obtain⟨z,hz,rfl⟩:=List.mem_map.mp hm
  exact (ae2 (h z hz) 0).1
 refine ah6 (ae2 (aeS h) 0).1 (aeS h') fun i=>?_
 rw[(ae2 (aeS h) i).2,aeU h,aeU h,aeU h',List.any_map,Bool.eq_iff_iff]
 simp only[Bool.and_eq_true,Bool.or_eq_true,List.any_eq_true,decide_eq_true_eq,Function.comp]
 constructor
 ·rintro⟨⟨m,hm,e⟩ | ⟨m,hm,e⟩,hi⟩
  ·exact⟨m,hm,by rw[(ae2 (h m hm) i).2,e,decide_eq_true hi];rfl⟩
  ·exact⟨m,hm,by rw[(ae2 (h m hm) i).2,e,decide_eq_true hi,Bool.or_true];rfl⟩
 ·rintro⟨m,hm,e⟩
  rw[(ae2 (h m hm) i).2,Bool.and_eq_true,Bool.or_eq_true,decide_eq_true_eq] at e
  rcases e with ⟨e | e,hi⟩
  ·exact⟨.inl ⟨m,hm,e⟩,hi⟩
  ·exact⟨.inr ⟨m,hm,e⟩,hi⟩
theorem aOI{m:Int}(h0:0<m)(h1:m<=255):wk7 m≠0/\0<=wk7 m/\wk7 m<=127:=by
 have all:∀n:Nat,n<256->0<n->wk7 (n:Int)≠0/\0<=wk7 (n:Int)/\wk7 (n:Int)<=127:=by decide +kernel
 have e:m=((m.toNat:Nat):Int):=by omega
 rw[e]
 exact all m.toNat (by omega) (by omega)
def SpT(b:Bool)(t:List Nat):Mk->Prop
 |.num m=>b=false/\aaG 1 31 t=some m/\0<m
 |.wkd m=>b=true/\∃M,aaG 0 7 t=some M/\(0<M/\M<=255)/\m=wk7 M
 |.nil=>False
 |k=>aaG (if b=true then 0 else 1) (if b=true then 7 else 31) t=none/\rdM b t=some k
end KM
namespace L2
open PySem PySem.Spec PyProof.Rows PySem.SeqAt
section
variable{X:Cx}
theorem cIn:Cl1 X (.builtin "isinstance") (fun xs H Q=>∃(v:V) (t:Value) (C':Addr) (b:Bool),xs=[v,.ref C']/\TyOf X.K H v t/\PySem.W.kitOne X.K t (.ref C')=some b/\Q (.bl b) H):=by
 refine⟨fun pins s σ H xs us Q I r h=>?_⟩
 obtain⟨v,t,C',b,rfl,ty,e,q⟩:=h
 obtain⟨u,w',rfl,r1,r2⟩:=aiJ r
 cases r2
 exact aqK I r1 ty e fun tk=>⟨.bl b,H,I.tok _,rfl,q⟩
structure IsC(K:PySem.W.Frag)(C:Addr):Prop where
 ha:PySem.W.findIn K (.ref C) "__class__"=some (some (.builtin "object.__class__"))
 hn:PySem.W.specialIn K (.builtin "object.__class__") "__get__"=some (some (.builtin "getset_descriptor.__get__"))
 htk:PySem.W.takesIn K (.builtin "object.__class__")=some true
 hm:PySem.W.mroIn K C (.type "object")=some true
theorem IsC.ty{K:PySem.W.Frag}{C a dx:Addr}{H:Hp}{fs:List (Str×V)}(i:IsC K C)(c:Cls K C)(h:H a=some (.ins C dx fs)):TyOf K H (.ref a) (.ref C):=.ins h c i.ha i.hn i.htk i.hm
end
end L2
namespace KM
open PySem PySem.Spec PyProof.Rows L2
def TpAt(b:Bool)(H:Hp)(u:Addr)(k:Mk):Prop:=H u=some (.tup k.tup)/\k.sp=true/\k.wk=b/\k.ok
theorem TpAt.keep{b:Bool}{H H':Hp}(s:Keep H H'){u:Addr}{k:Mk}(h:TpAt b H u k):TpAt b H' u k:=⟨s.tup h.1,h.2⟩
theorem Ft.keepT{b:Bool}{H H':Hp}(s:Keep H H'){ps:List Addr}{ks:List Mk}(h:Ft (TpAt b H) ps ks):Ft (TpAt b H') ps ks:=Paired.imp' (fun _ _ z=>z.keep s) h
def Mk.pl:Mk->Option Int
 |.num m=>some m
 |.wkd m=>some m
 |_=>none
def plK(ks:List Mk):List Int:=ks.filterMap Mk.pl
def otK(ks:List Mk):List Mk:=ks.filter fun k=>k.pl.isNone
def anS(b:Bool)(M:Int):List Mk:=if M=0 then [] else if b=true then [.wkd M] else [.num M]
def axU(b:Bool)(ks:List Mk):List Mk:=anS b (orM (plK ks))++otK ks
theorem aOV{b:Bool}{ks:List Mk}(h:∀k∈ks,k.sp=true/\k.wk=b/\k.ok):∀m∈plK ks,0<=m/\(b=true->m<=127):=by
 intro m hm
 obtain⟨k,hk,e⟩:=List.mem_filterMap.mp hm
 have:=h k hk
 cases k with
 |num z=>cases e;exact⟨this.2.2,fun hb=>by rw[←this.2.1] at hb;cases hb⟩
 |wkd z=>cases e;exact⟨this.2.2.1,fun _=>this.2.2.2⟩
 |lst z=>cases e
 |nea z=>cases e
 |wrk=>cases e
 |nth z y=>cases e
 |one z=>cases e
 |nil=>cases e
theorem aKK{ms:List Int}{n:Nat}(h:∀m∈ms,0<=m/\m<2^n):orM ms<2^n:=by
 have h0:∀m∈ms,0<=m:=fun m hm=>(h m hm).1
 have e:orM ms=mk_ (tb (orM ms)) n:=by
  refine ah6 (aeS h0) (aNW _ _) fun i=>?_
  rw[aOJ]
  by_cases c:i<n
  ·rw[decide_eq_true c,Bool.true_and]
  ·rw[decide_eq_false c,Bool.false_and,aeU h0,List.any_eq_false]
   intro m hm
   rw[aoA (h m hm).2 (by omega)]
   exact Bool.false_ne_true
 rw[e]
 exact aNM _ _
theorem aD5{b:Bool}{ks:List Mk}(h:∀k∈ks,k.sp=true/\k.wk=b/\k.ok):∀k∈anS b (orM (plK ks)),k.sp=true/\k.wk=b/\k.ok:=by
 have hp:=aOV h
 have h0:0<=orM (plK ks):=aeS fun m hm=>(hp m hm).1
 intro k hk
 unfold anS at hk
 split at hk
 ·cases hk
 ·split at hk
  ·rename_i hb
   rw[List.mem_singleton.mp hk,hb]
   have e:(2:Int)^7=128:=by decide
   have:=aKK (n:=7) (ms:=plK ks) fun m hm=>⟨(hp m hm).1,by have:=(hp m hm).2 hb;omega⟩
   exact⟨rfl,rfl,h0,by omega⟩
  ·rename_i hb
   rw[List.mem_singleton.mp hk]
   exact⟨rfl,by cases b with | true=>exact absurd rfl hb | false=>rfl,h0⟩
abbrev Ws(b:Bool):List (List Nat)->List Mk->Prop:=Paired fun w k=>Cl w/\SpT b w k
def lo_(b:Bool):Int:=if b=true then 0 else 1
def hi_(b:Bool):Int:=if b=true then 7 else 31
theorem aC6(k:Mk)(ks:List Mk):plK (k::ks)=(match k.pl with | some m=>m::plK ks | none=>plK ks)/\otK (k::ks)=(match k.pl with | some _=>otK ks | none=>k::otK ks):=by
 unfold plK otK
 rw[List.filterMap_cons,List.filter_cons]
 cases k.pl<;>exact⟨rfl,rfl⟩
theorem aAS(b:Bool)(lo hi:Int)(w:List Nat)(ws:List (List Nat)):plP lo hi (w::ws)=(match aaG lo hi w with | some m=>m::plP lo hi ws | none=>plP lo hi ws)/\mkP b lo hi (w::ws)=(match aaG lo hi w with | some _=>mkP b lo hi ws | none=>match rdM b w with | some k=>k::mkP b lo hi ws | none=>mkP b lo hi ws):=by
 unfold plP mkP
 rw[List.filterMap_cons,List.filterMap_cons]
 cases aaG lo hi w with
 |some m=>exact⟨rfl,rfl⟩
 |none=>exact⟨rfl,by cases rdM b w<;>rfl⟩
def WsI(b:Bool)(ws:List (List Nat))(ks:List Mk):Prop:=mkP b (lo_ b) (hi_ b) ws=otK ks/\plK ks=(plP (lo_ b) (hi_ b) ws).map (fun m=>if b=true then wk7 m else m)/\(∀m∈plP (lo_ b) (hi_ b) ws,0<m/\(b=true->m<=255))/\∀w∈ws,(aaG (lo_ b) (hi_ b) w).isSome=true∨(rdM b w).isSome=true
theorem at2(b:Bool):∀{ws:List (List Nat)} {ks:List Mk},Ws b ws ks->WsI b ws ks
 |_,_,.nil=>⟨rfl,rfl,fun m hm=>(nomatch hm),fun w hw=>(nomatch hw)⟩
 |w::ws,k::ks,.cons r t=>by
  obtain⟨i1,i2,i3,i4⟩:=at2 b t
  have c1:=aC6 k ks
  have c2:=aAS b (lo_ b) (hi_ b) w ws
  have plain:∀(m M:Int),k.pl=some m->aaG (lo_ b) (hi_ b) w=some M->(m=if b=true then wk7 M else M)->(0<M/\(b=true->M<=255))->WsI b (w::ws) (k::ks):=fun m M e1 e2 e3 e4=>by
   unfold WsI
   rw[e1] at c1
   rw[e2] at c2
   rw[c1.1,c1.2,c2.1,c2.2]
   refine⟨i1,by rw[List.map_cons,←e3,←i2],fun z hz=>?_,fun v hv=>?_⟩
   ·rcases List.mem_cons.mp hz with rfl | hz
    ·exact e4
    ·exact i3 z hz
   ·rcases List.mem_cons.mp hv with rfl | hv
    ·exact .inl (by rw[e2];rfl)
    ·exact i4 v hv
  have mark:k.pl=none->aaG (lo_ b) (hi_ b) w=none->rdM b w=some k->WsI b (w::ws) (k::ks):=fun e1 e2 e3=>by
   unfold WsI
   rw[e1] at c1
   rw[e2,e3] at c2
   rw[c1.1,c1.2,c2.1,c2.2]
   refine⟨by rw[i1],i2,i3,fun v hv=>?_⟩
   rcases List.mem_cons.mp hv with rfl | hv
   ·exact .inr (by rw[e3];rfl)
   ·exact i4 v hv
  cases k with
  |num m=>
   obtain⟨_,hb,hr,h0⟩:=r
   subst hb
   exact plain m m rfl hr rfl ⟨h0,fun z=>nomatch z⟩
  |wkd m=>
   obtain⟨_,hb,M,hr,h0,hm⟩:=r
   subst hb
   exact plain m M rfl hr hm ⟨h0.1,fun _=>h0.2⟩
  |lst z=>exact mark rfl r.2.1 r.2.2
  |nea z=>exact mark rfl r.2.1 r.2.2
  |wrk=>exact mark rfl r.2.1 r.2.2
  |nth z y=>exact mark rfl r.2.1 r.2.2
  |one z=>exact mark rfl r.2.1 r.2.2
  |nil=>exact r.2.elim
theorem atO{b:Bool}{ws:List (List Nat)}{ks:List Mk}{l:List Nat}(h:Ws b ws ks)(hl:spl 44 l=ws):aiF b (lo_ b) (hi_ b) l=axU b ks:=by
 obtain⟨i1,i2,i3,_⟩:=at2 b h
 have hz:∀m∈plP (lo_ b) (hi_ b) ws,0<=m:=fun m hm=>Int.le_of_lt (i3 m hm).1
 unfold aiF axU
 rw[hl,i1,i2]
 congr 1
 cases b with
 |false=>
  have e:(plP (lo_ false) (hi_ false) ws).map (fun m=>if false=true then wk7 m else m)=plP (lo_ false) (hi_ false) ws:=List.map_id'' (fun _=>rfl) _
  rw[e]
  rfl
 |true=>
  have e:orM ((plP (lo_ true) (hi_ true) ws).map (fun m=>if true=true then wk7 m else m))=wk7 (orM (plP (lo_ true) (hi_ true) ws)):=(at5 hz).symm
  rw[e]
  unfold aeE anS
  by_cases c:orM (plP (lo_ true) (hi_ true) ws)=0
  ·rw[if_pos c,c]
   rfl
  ·have c2:¬wk7 (orM (plP (lo_ true) (hi_ true) ws))=0:=fun z=>c (by
    rw[at5 hz] at z
    have h0:∀m∈(plP (lo_ true) (hi_ true) ws).map wk7,0<=m:=fun m hm=>by
     obtain⟨y,hy,rfl⟩:=List.mem_map.mp hm
     exact (ae2 (hz y hy) 0).1
    rw[alO hz]
    intro m hm
    have:=(alO h0).mp z (wk7 m) (List.mem_map.mpr ⟨m,hm,rfl⟩)
    exact absurd this (aOI (i3 m hm).1 ((i3 m hm).2 rfl)).1)
   rw[if_neg c,if_neg c2]
   rfl
theorem none_of{H H':Hp}(s:Same H H'){p:Addr}(h:H' p=none):H p=none:=by
 cases e:H p with
 |none=>rfl
 |some o=>rw[s _ _ e] at h;cases h
theorem aiO:∀(ws:List (List Nat)),(∀w∈ws,w.length<=8)->(abM 44 ws).length<=9*ws.length
 |[],_=>Nat.zero_le _
 |[w],h=>by
  have:=h w (List.mem_cons_self ..)
  show w.length<=9
  omega
 |w::v::ws,h=>by
  have ih:=aiO (v::ws) fun z hz=>h z (List.mem_cons_of_mem _ hz)
  have:=h w (List.mem_cons_self ..)
  show (w++44::abM 44 (v::ws)).length<=_
  rw[List.length_append,List.length_cons,List.length_cons]
  omega
theorem Ws.cl{b:Bool}:∀{ws:List (List Nat)} {ks:List Mk},Ws b ws ks->∀w∈ws,Cl w
 |_,_,.nil,w,hw=>nomatch hw
 |_,_,.cons r t,w,hw=>by
  rcases List.mem_cons.mp hw with rfl | hw
  ·exact r.1
  ·exact Ws.cl t w hw
theorem aE4{b:Bool}{ws:List (List Nat)}{ks:List Mk}(h:Ws b ws ks)(hne:ws≠[])(hn:ws.length<=20):spl 44 (abM 44 ws)=ws/\ItemsOk b (lo_ b) (hi_ b) (abM 44 ws):=by
 have hs:=ac8 44 ws hne fun w hw=>(h.cl w hw).1.1
 have hl:=aiO ws fun w hw=>(h.cl w hw).2.2
 refine⟨hs,by omega,by rw[hs];omega,?_,?_⟩
 ·rw[hs]
  exact (at2 b h).2.2.2
 ·rw[hs]
  exact Nat.le_trans (List.length_filterMap_le ..) hn
def PrT(H:Hp)(ts:List Addr)(prs:List (Nat×Nat)):Prop:=Paired (fun (t:Addr) (pr:Nat×Nat)=>H t=some (.tup [.int pr.1,.int pr.2])) ts prs
theorem PrT.keep{H H':Hp}{ts:List Addr}{prs:List (Nat×Nat)}(h:PrT H ts prs)(k:Keep H H'):PrT H' ts prs:=Paired.mapP h fun _ _ z=>k.tup z
theorem Paired.at{α β:Type}{F:α->β->Prop}:∀{l:List α} {r:List β} {i:Nat} {a:α},Paired F l r->l[i]? =some a->∃b,r[i]? =some b/\F a b
 |_,_,_,_,.nil,e=>by simp at e
 |_,_,0,_,.cons h _,e=>by
  have:=Option.some.inj e
  subst this
  exact⟨_,rfl,h⟩
 |_,_,i+1,_,.cons _ t,e=>Paired.at (i:=i) t e
def rt(x:Nat×Nat):List Nat:=if x.1=x.2 then num x.1 else num x.1++45::num x.2
theorem alU{α:Type}{p q:α->Bool}:∀{l:List α},(∀x∈l,p x=q x)->l.any p=l.any q
 |[],_=>rfl
 |x::r,h=>by rw[List.any_cons,List.any_cons,h x (List.mem_cons_self ..),alU fun y hy=>h y (List.mem_cons_of_mem _ hy)]
theorem alH{b:Bool}{ks:List Mk}(h:∀k∈ks,k.sp=true/\k.wk=b/\k.ok):∀k∈axU b ks,k.sp=true/\k.wk=b/\k.ok:=fun k hk=>by
 rcases List.mem_append.mp hk with z | z
 ·exact aD5 h k z
 ·exact h k ((List.mem_filter.mp z).1)
end KM
namespace L2
open PySem PySem.Spec PyProof.Rows
section
variable{X:Cx}{f:Addr}{k k':Nat}{ps:List Str}{sp:Sp}{x y e:Expr}{es:List Expr}{t:TA}{tv:TE}{p pos:Pos}
end
section
variable{X:Cx}{C:Addr}{m:Str}{k k':Nat}{ps:List Str}{sp:Sp}{o:Expr}{ta:TE}{apos pos:Pos}
theorem aeZ{pl:Sem Bool}(c:Cls X.K C)(D:DfM X.prog X.w X.K X.mg X.base C m k ps sp)(hr:Room k' X.A)(ho:E X o ta)(hk:k<=k':=by decide)
  (ht:eval (.Call (.Attribute o m apos) [] [] pos) X.env=(do
   let ov ←eval o X.env
   standAt apos.atName
   let (f,first) ←holding [ov] (getMethod ov m pl)
   callWith pos f first (backTo pos (starEach [] X.env)) (backToKw pos (keywordEach [] X.env))):=by rfl):E X (.Call (.Attribute o m apos) [] [] pos) (au3 C m sp [] E0 ta ae4):=by
 obtain⟨f,fd,F,hb,hm⟩:=D.ex
 exact⟨au1 ho.h c hm F (hr.mono hk) hb .nil ajU ht⟩
end
section
variable{X:Cx}{body:List Stmt}{tb:TS}{h:ExceptHandler}{hs:List ExceptHandler}{pos:Pos}
theorem aMF(hb:Ss X.nox body tb):S X (.Try body (h::hs) [] [] pos) tb:=by
 refine⟨fun pins s σ H D I hw=>?_⟩
 refine wpAny_Try_except (wpAny_mono (hb.h pins s σ H D (I.wish _) hw) (fun f s1 q=>?_) fun e s1 hx=>False.elim hx)
 cases f with
 |next=>exact wpAny_execs_nil q.unwish
 |ret v=>exact q.unwish
 |brk=>exact q.unwish
 |cont=>exact q.unwish
end
section
variable{js:List Nat}{σ:St}{tt:TT}{te:TE}{Q:VK}{H1:Hp}
theorem amM{K K':PySem.W.Frag}{a:Addr}{xs:List V}(R:Addr->Nat->List V->Hp->Prop)(hm:∀D i l H l',R D i l H->R D i l (upd H D (.lst l')))(hS:∀D i l H H',Same H H'->R D i l H->R D i l H')(hn:xs.length<=sizeLine)(h0:∀D,H1 D=none->R D 0 [] H1)(hq:SqL K H1 a xs)
  (hs:∀(i:Nat) (x:V) (l:List V) (D:Addr) (H2:Hp) (E:V->Hp->Prop) (F:Hp->Prop),xs[i]? =some x->R D i l H2->H1 D=none->Same H1 H2->H2 D=some (.lst l)->(∀y H5,Same H2 H5->R D (i+1) (l++[y]) H5->E y H5)->(∀H4,Same H2 H4->R D (i+1) l H4->F H4)->
   tt (some (.int i)::some x::aaW js σ) H2 fun b H4=>if b=true then te (some (.int i)::some x::aaW js σ) H4 E else F H4)
  (hd:∀(D:Addr) (H2:Hp) (l:List V),R D xs.length l H2->H1 D=none->Same H1 H2->H2 D=some (.lst l)->Q (.ref D) H2):
  awS (Ite K a) 2 js (aBW K' 2 (an0 (afK 0) (an0 (afK 1) aLU))) σ tt te Q H1:=by
 intro D hD
 refine⟨fun i m H2=>m=xs.length-i/\i<=xs.length/\Same H1 H2/\∃l,H2 D=some (.lst l)/\l.length<=i/\R D i l H2,⟨xs.length,by simp,Nat.zero_le _,aaB hD _,[],aaA,Nat.le_refl _,hm _ _ _ _ _ (h0 D hD)⟩,?_⟩
 rintro i m H2 ⟨rfl,hi,s2,l,h2,hll,hR⟩
 by_cases hlt:i<xs.length
 ·refine .inr ⟨⟨xs,xs[i],s2.seq hq,by simp[hlt]⟩,fun v H3 y τ hτ=>?_⟩
  obtain⟨T,rfl,hT,ev⟩:=y
  obtain⟨x,hx,rfl⟩:=ev xs (s2.seq hq)
  have sT:=aaB hT (.tup [.int i,x])
  have s3:=s2.trans sT
  have h3:=sT _ _ h2
  obtain⟨t0,t1,rfl⟩:∃t0 t1,τ=[t0,t1]:=by
   match τ,hτ with
   |[a,b],_=>exact⟨a,b,rfl⟩
  have h:=hs i x l D _ (fun y H5=>∃ys,H5 D=some (.lst ys)/\ys.length<sizeLine/\∃m',m'<xs.length-i/\(m'=xs.length-(i+1)/\i+1<=xs.length/\Same H1 (upd H5 D (.lst (ys++[y])))/\∃l,(upd H5 D (.lst (ys++[y]))) D=some (.lst l)/\l.length<=i+1/\R D (i+1) l (upd H5 D (.lst (ys++[y]))))) (fun H4=>∃m',m'<xs.length-i/\(m'=xs.length-(i+1)/\i+1<=xs.length/\Same H1 H4/\∃l,H4 D=some (.lst l)/\l.length<=i+1/\R D (i+1) l H4)) hx (hS _ _ _ _ _ sT hR) hD s3 h3
   (fun z H5 s5 r5=>by
    refine⟨l,s5 _ _ h3,Nat.lt_of_le_of_lt hll (Nat.lt_of_lt_of_le hlt hn),xs.length-(i+1),by omega,rfl,hlt,fun b o hb=>?_,l++[z],aaA,by rw[List.length_append,List.length_singleton];omega,hm _ _ _ _ _ r5⟩
    rw[aaE (aaJ hb hD)]
    exact s5 _ _ (s3 _ _ hb))
   (fun H4 s4 r4=>⟨xs.length-(i+1),by omega,rfl,hlt,s3.trans s4,l,s4 _ _ h3,by omega,r4⟩)
  exact⟨T,[.int i,x],rfl,SqT.of aaA,rfl,.int i,[x],rfl,x,[],rfl,rfl,⟨[some (.int i),some x],rfl,rfl⟩,h⟩
 ·have e:i=xs.length:=by omega
  subst e
  exact .inl ⟨⟨xs,s2.seq hq,rfl⟩,hd D H2 l hR hD s2 h2⟩
end
def KD(K:PySem.W.Frag)(a:Addr)(kvs:List (Int×V)):Prop:=
 ∃(es:Array DictEntry) (ep:Nat) (vs:List (Key×Value)),K.lookup a=some ⟨.type "dict",none,.dict es ep,#[]⟩/\KV (kvs.map fun x=>((Sum.inl x.1:Key),x.2)) vs/\(vs.map (·.1)).Nodup/\∀(P:Program) (w:World),KeysOf (ab5 P w) es/\PySem.Pairs (ab5 P w) es.toList vs
def aFP(K:PySem.W.Frag)(td ty:TE):TE:=fun σ H Q=>td σ H fun x H1=>ty σ H1 fun y H2=>∃a kvs k v,x=.ref a/\KD K a kvs/\y=.int k/\kvs.lookup k=some v/\Q v H2
theorem aEX{k:Int}{v:V}:∀{kvs:List (Int×V)} {vs:List (Key×Value)},KV (kvs.map fun x=>((Sum.inl x.1:Key),x.2)) vs->kvs.lookup k=some v->∃w',valueAt vs (Sum.inl k:Key)=some w'/\RelV v w'
 |[],_,_,h=>by cases h
 |(k0,v0)::r,_,.cons (b:=(k1,w1)) h t,hl=>by
  obtain⟨e1,e2⟩:=h
  have e1:(Sum.inl k0:Key)=k1:=e1
  subst e1
  rw[List.lookup_cons] at hl
  unfold valueAt
  by_cases c:k=k0
  ·subst c
   rw[show (k==k)=true from beq_self_eq_true k] at hl
   cases hl
   refine⟨w1,?_,e2⟩
   rw[List.find?_cons_of_pos (by simp)]
   rfl
  ·rw[show (k==k0)=false from beq_false_of_ne c] at hl
   obtain⟨w',h1,h2⟩:=aEX t hl
   refine⟨w',?_,h2⟩
   rw[List.find?_cons_of_neg (by simp;exact fun z=>c z.symm)]
   exact h1
section
variable{X:Cx}{o i:Expr}{td ty:TE}{pos:Pos}
theorem eDgK(ho:E X o td)(hi:E X i ty)(hs:aOM i:=by intro _ _;rfl):E X (.Subscript o i pos) (aFP X.K td ty):=by
 refine⟨fun pins s σ H Q I h=>?_⟩
 refine aEQ PySem.F.slot_dict_getitem.lookup hs (thn (ho.h pins s σ H _ I h) fun u s1 ⟨x,H1,I1,rx,q1⟩=>thn (hi.h pins s1 σ H1 _ I1 q1) fun iv s2 ⟨y,H2,I2,ry,a,kvs,k,v,ex,hk,ey,l,q2⟩=>?_)
 subst ex
 subst ey
 obtain rfl:u=Value.ref a:=rx
 obtain⟨es,ep,vs,lk,kv,nd,kp⟩:=hk
 obtain⟨k1,k2⟩:=kp X.prog X.w
 have dd:s2.heap.DictOf (ab5 X.prog X.w) a vs:=⟨_,es,ep,I2.kIn _ _ lk,⟨rfl,rfl,rfl⟩,rfl,k1,k2,nd⟩
 obtain⟨w',hw,rw'⟩:=aEX kv l
 exact⟨dd.typeIs,wpAny_getItem_of (aN2 (k:=Sum.inl k) ry) dd.mapOf hw ⟨v,H2,I2.tok _,rw',q2⟩⟩
end
end L2
namespace KM
open PySem PySem.Spec PyProof.Rows L2
def DV(c:Cs)(H:Hp)(v:V):Option (List Mk)->Prop
 |none=>v=.non
 |some ks=>∃p qs,v=.ref p/\H p=some (.lst (qs.map V.ref))/\Ft (MkAt c H) qs ks/\∀k∈ks,k.ok
theorem DV.keep{c:Cs}{H H':Hp}(s:Same H H'){v:V}:∀{ko:Option (List Mk)},DV c H v ko->DV c H' v ko
 |none,h=>h
 |some _,⟨p,qs,e,h1,h2,h3⟩=>⟨p,qs,e,s _ _ h1,h2.keepM s.keep,h3⟩
def DT(b:Bool)(t:List Nat)(ko:Option (List Mk)):Prop:=(32∉t/\t≠[])/\ItemsOk b (lo_ b) (hi_ b) t/\match ko with
 |none=>t=[42]
 |some ks=>t≠[42]/\(∀k∈ks,k.sp=true/\k.wk=b/\k.ok)/\aiF b (lo_ b) (hi_ b) t=axU b ks
def gO(b:Bool):Option (List Mk)->Option (List Mk)
 |none=>none
 |some ks=>some (axU b ks)
theorem af1{c d:Nat}(hcd:c≠d):∀{ws:List (List Nat)},(∀w∈ws,c∉w)->c∉abM d ws
 |[],_=>List.not_mem_nil
 |[w],h=>h w (List.mem_cons_self ..)
 |w::v::ws,h=>by
  show c∉w++d::abM d (v::ws)
  rw[List.mem_append,List.mem_cons,not_or,not_or]
  exact⟨h w (List.mem_cons_self ..),hcd,af1 hcd fun z hz=>h z (List.mem_cons_of_mem _ hz)⟩
theorem aoD:∀{ws:List (List Nat)},ws≠[]->(∀w∈ws,w≠[])->∀d,abM d ws≠[]
 |[],h,_,_=>absurd rfl h
 |[w],_,h,_=>h w (List.mem_cons_self ..)
 |w::v::ws,_,h,d=>fun e=>by
  have e:w++d::abM d (v::ws)=[]:=e
  rw[List.append_eq_nil_iff] at e
  cases e.2
theorem aMS{b:Bool}{ws:List (List Nat)}{ks:List Mk}(h:Ws b ws ks)(hne:ws≠[])(hn:ws.length<=20)(hs:∀w∈ws,w≠[42])(ho:∀k∈ks,k.sp=true/\k.wk=b/\k.ok):DT b (abM 44 ws) (some ks):=by
 have w:=aE4 h hne hn
 refine⟨⟨af1 (by decide) fun x hx=>(h.cl x hx).1.2,aoD hne (fun x hx=>(h.cl x hx).2.1) 44⟩,w.2,fun e=>?_,ho,atO h w.1⟩
 have e1:=w.1
 rw[e] at e1
 have e2:spl 44 [42]=[[42]]:=rfl
 rw[e2] at e1
 exact hs [42] (by rw[←e1];exact List.mem_singleton.mpr rfl) rfl
theorem afS(b:Bool):DT b [42] none:=by
 refine⟨by decide,?_,rfl⟩
 have c:Cl [42]/\SpT b [42] (if b=true then .wkd 127 else .num 4294967294):=by
  cases b with
  |true=>exact⟨by decide,rfl,255,by decide +kernel,by decide,by decide +kernel⟩
  |false=>exact⟨by decide,rfl,by decide +kernel,by decide⟩
 exact (aE4 (.cons c .nil:Ws b [[42]] _) (List.cons_ne_nil _ _) (by show 1<=20;decide)).2
structure FT(lo hi:Int)(t:List Nat)(m:Int):Prop where
 ok:anR lo hi t
 len:t.length<=300
 is:orM (acO lo hi t)=m
 sp:32∉t
 ne:t≠[]
 nn:0<=m
theorem akY{lo hi:Int}{ws:List (List Nat)}{nss:List (List Int)}(h:Paired (aiS lo hi) ws nss)(hne:ws≠[])(hn:ws.length<=20):FT lo hi (abM 44 ws) (abV nss.flatten):=by
 have all:∀{ws:List (List Nat)} {nss:List (List Int)},Paired (aiS lo hi) ws nss->(∀w∈ws,Cl w/\(aaG lo hi w).isSome=true)/\(ws.map fun w=>(aaG lo hi w).getD 0)=nss.map abV:=by
  intro ws nss h
  induction h with
  |nil=>exact⟨fun w hw=>(nomatch hw),rfl⟩
  |cons r t ih=>
   refine⟨fun w hw=>?_,?_⟩
   ·rcases List.mem_cons.mp hw with z | z
    ·subst z;exact⟨r.2.1,by rw[r.1];rfl⟩
    ·exact ih.1 w z
   ·rw[List.map_cons,List.map_cons,ih.2,r.1];rfl
 have a:=all h
 have hs:=ac8 44 ws hne fun w hw=>(a.1 w hw).1.1.1
 have hl:=aiO ws fun w hw=>(a.1 w hw).1.2.2
 refine⟨⟨by rw[hs];omega,by rw[hs];exact fun w hw=>(a.1 w hw).2⟩,by omega,?_,af1 (by decide) fun x hx=>(a.1 x hx).1.1.2,aoD hne (fun x hx=>(a.1 x hx).1.2.1) 44,ahU _⟩
 unfold acO
 rw[hs,a.2]
 have nn:∀m∈nss.map abV,0<=m:=fun m hm=>by
  obtain⟨z,_,rfl⟩:=List.mem_map.mp hm
  exact ahU _
 refine ah6 (aeS nn) (ahU _) fun i=>?_
 rw[aeU nn,amJ,List.any_map,List.any_flatten]
 exact alU fun z _=>amJ z i
end KM
namespace L2
open PySem PySem.Spec PyProof.Rows
section
open PySem.W Builtin Builtin.ObjectAttr
variable{prog:Program}{w:World}{A:Around}{E:Value->Shared->Prop}{s:Shared}{K:PySem.W.Frag}{x C:Addr}{f:Str}{v:Value}{o:Obj}{vs:Array Value}
end
def PY(e C:Addr)(d:Option Addr)(h:Heap):Prop:=∃(vs:Array Value) (sl:Array (Option Value)),h.get? e=some ⟨.ref C,d,.fields vs,sl⟩/\vs[1]? =some .none/\vs[2]? =some .none/\4<vs.size
def xn(a C:Addr)(d:Option Addr):HO:=.ext (PY a C d)
theorem PY.ok{P:Program}{w:World}{H:Hp}{h:Heap}{a C:Addr}{d:Option Addr}(x:PY a C d h):ObjOk P w H h a (xn a C d):=by
 obtain⟨vs,sl,e,r⟩:=id x
 exact⟨x,⟨_,e⟩,fun h1 h2 ⟨vs,sl,e,r⟩ k=>⟨vs,sl,k _ e,r⟩⟩
section
variable{X:Cx}{pins:List (Addr×Obj)}{σ:St}{H:Hp}{s:Shared}{a C:Addr}{f:Str}
end
section
variable{X:Cx}{o e value:Expr}{ta tv:TE}{f:Str}{pos pos':Pos}
end
section
open PySem.W
variable{prog:Program}{w:World}{A:Around}{E:Value->Shared->Prop}{s:Shared}{K:PySem.W.Frag}{C fI:Addr}
end
section
variable{X:Cx}{pins:List (Addr×Obj)}{σ:St}{H:Hp}{s:Shared}
end
section
variable{prog:Program}{w:World}{A:Around}{E:Value->Shared->Prop}{s:Shared}{env:Env}
end
section
variable{X:Cx}{E:XK}{x:Str}{C:Addr}{e:Expr}{es:List Expr}{t:TA}{np cpos pos:Pos}{k k':Nat}{ps:List Str}{sp:Sp}
end
structure RoomQ(k:Nat)(A:Around):Prop where
 dp:A.depth+3*k+5<recursionLimit
 un:A.units+16*k+200<cLine
theorem Room.q{k:Nat}{A:Around}(r:Room k A):RoomQ k A:=⟨r.dp,r.un⟩
section
variable{P:Program}{w:World}{K:PySem.W.Frag}{mg:Str->Option Value}{base:Heap}{N ps:List Str}{qual:Str}{scope:Scope}{f:Addr}{cd:Value}{A:Around}{outer:List Env}{s s1:Shared}{H:Hp}{us:List Value}{vs:List V}
end
section
variable{P:Program}{w:World}{K:PySem.W.Frag}{mg:Str->Option Value}{base:Heap}{x:Str}{st:Stmt}{ps N:List Str}{k:Nat}{sp:Sp}
end
section
variable{X:Cx}{k k':Nat}{ps:List Str}{sp:Sp}{x:Str}{e:Expr}{es:List Expr}{tA:TA}{p pos:Pos}
end
section
variable{X:Cx}{f:Addr}{k k':Nat}{ps:List Str}{sp:Sp}{x y e:Expr}{es:List Expr}{tA:TA}{tv:TE}{p pos:Pos}{t u:TX}
end
section
variable{M:Model}{A:Around}{E:Value->Shared->Prop}{s:Shared}{f:Obj->Prop}{B:Heap}{env:Env}{outer:List Env}{L e:Addr}{fl:Value}{Q:Unit->Shared->Prop}
end
section
variable{P:Program}{w:World}{K:PySem.W.Frag}{mg:Str->Option Value}{base:Heap}{N:List Str}{qual:Str}{scope:Scope}{f:Addr}{cd:Value}{A:Around}{outer:List Env}{s0:Shared}{H0:Hp}{E:XK}
end
section
variable{X:Cx}{elt iter tg:Expr}{xs:List Str}{pos:Pos}{ifs:List Expr}{scope:Scope}{cl:List (Str×Addr)}{N':List Str}{js:List Nat}{tt:TT}{g:TG}{wi:TI}
end
section
variable{P:Program}{w:World}{K:PySem.W.Frag}{mg:Str->Option Value}{base:Heap}{N:List Str}{qual:Str}{scope0:Scope}{f:Addr}{cd:Value}{A:Around}{outer:List Env}{s0:Shared}{H0:Hp}{E:XK}
variable{elt iter tg:Expr}{pos:Pos}{ifs:List Expr}{scope:Scope}{js:List Nat}{tt:TT}{te:TX}{g:TG}{wi:TI}
end
section
variable{js:List Nat}{σ:St}{tt:TT}{te:TX}{E:XK}{Q:VK}{H1:Hp}
end
section
variable{P:Program}{w:World}{K:PySem.W.Frag}{mg:Str->Option Value}{base:Heap}{m qual:Str}{st:Stmt}{ps N:List Str}{k:Nat}{sp:Sp}{C:Addr}
end
section
variable{X:Cx}{pins:List (Addr×Obj)}{σ:St}{H:Hp}{s:Shared}
end
section
variable{X:Cx}{E:XK}{x:Str}{C a:Addr}{e:Expr}{es:List Expr}{t:TA}{np cpos pos p2:Pos}{j k k':Nat}{ps:List Str}{sp:Sp}
end
theorem RoomQ.units{k:Nat}{A:Around}(r:RoomQ k A):A.units+64<cLine:=by have:=r.un;omega
section
variable{prog:Program}{w:World}{A:Around}{E:Value->Shared->Prop}{s:Shared}
end
section
variable{X:Cx}{elt iter:Expr}{x:Str}{px pos:Pos}{ifs:List Expr}{scope:Scope}{cl:List (Str×Addr)}{N':List Str}{js:List Nat}{tt:TT}{te:TE}
end
section
variable{X:Cx}{elt a1:Expr}{x:Str}{px pos p rpos:Pos}{ifs:List Expr}{scope:Scope}{js:List Nat}{tt:TT}{te:TE}{tA:TA}
end
section
variable{X:Cx}{pins:List (Addr×Obj)}{σ:St}{H:Hp}{s:Shared}
end
section
variable{X:Cx}{body suite:List Stmt}{b0:Stmt}{tb:TB}{th:Addr->TS}{cx n:Str}{np hpos pos:Pos}{CF:Addr}
end
section
variable{X:Cx}{E:XK}{x:Str}{C:Addr}{np cpos pos:Pos}
end
end L2
namespace L2
open PySem PySem.Spec PyProof.Rows PySem.SeqAt
section
variable{X:Cx}
end
structure DfM1(P:Program)(w:World)(K:PySem.W.Frag)(mg:Str->Option Value)(base:Heap)(C:Addr)(m:Str)(k:Nat)(ps:List Str)(sp:Sp):Prop where
 ex:∃(f:Addr) (fd:FuncData),FnOk P w K mg base (CX1 P w) k f fd ps sp/\Binds K fd ps []/\Meth K C m f
section
variable{P:Program}{w:World}{K:PySem.W.Frag}{mg:Str->Option Value}{base:Heap}{m qual:Str}{st:Stmt}{ps N:List Str}{k:Nat}{sp:Sp}{C:Addr}
theorem FnM.dfs1(F:FnM K C m qual st ps)(S':FnScope N ps (aaC st))(len:∀vs H Q E,sp vs H Q E->vs.length=ps.length)
  (hbody:∀(f:Addr) (cdv:Value) (A:Around) (outer:List Env) (s:Shared) (H:Hp) (vs:List V) (Q:VK) (E:XK),Room k (A.deeper (envOfC qual (aaC st) s.heap.objs.size f cdv))->sp vs H Q E->
   ∃t,Ss (acG (CX1 P w) P w K mg base N qual (aaC st) f cdv A outer s H E) (aaT st) t/\t {nx:=fun _ H'=>Q .non H',rt:=Q} (start N vs) H):DfM1 P w K mg base C m (k+1) ps sp:=by
 obtain⟨f,fd,F1,hb,hm⟩:=F.ex
 obtain⟨oc,od,kV,doc,pm,an,cdv,ct,osl,rfl,lk,hcd⟩:=F1.ex
 refine⟨⟨f,_,anL lk hcd S' len fun A outer s H vs Q E hr hsp=>?_,hb,hm⟩⟩
 obtain⟨t,h,q⟩:=hbody f cdv A outer s H vs Q E hr hsp
 exact⟨t,h.h,q⟩
end
section
variable{X:Cx}{x:Str}{C:Addr}{k k':Nat}{ps:List Str}{sp:Sp}{e:Expr}{es:List Expr}{t:TA}{p pos:Pos}{E:XK}
theorem abO(c:Cd X.K X.mg x C)(D:DfM1 X.prog X.w X.K X.mg X.base C "__init__" k ps sp)(hr:Room k' X.A)(hp:abT (CX1 X.prog X.w) X E)(ha:As X (e::es) t)(hk:k+1<=k':=by decide)(hg:Gl X x:=by rfl)(hdb:(x==("__debug__":Str))=false:=by decide)
  (he:starEach (e::es) X.env=(false,eval e X.env)::starEach es X.env:=by rfl) (hpl:(backTo pos (starEach es X.env)).any (·.1)=false:=by rfl):L2.E X (.Call (.Name x p) (e::es) [] pos) (ak6 C sp [] E t):=by
 obtain⟨f,fd,F,hb,hm⟩:=D.ex
 exact⟨anP ⟨c.makes,hm.at_,hm.fn,c.kp⟩ F (hr.mono hk) hg c.at_ hb .nil hp ha.h hdb he hpl⟩
end
end L2
namespace L2
open PySem PySem.Spec PyProof.Rows PySem.SeqAt
theorem aNE{X:Cx}(hc:X.calm=true:=by rfl):Cl1 X (.builtin "max") (fun xs H Q=>∃(p:Addr) (is:List Int),xs=[.ref p]/\SqL X.K H p (is.map V.int)/\0<is.length/\∀M∈is,(∀a∈is,a<=M)->Q (.int M) H):=by
 refine⟨fun pins s σ H xs us Q I r h=>?_⟩
 obtain⟨p,is,rfl,hq,hpos,q⟩:=h
 obtain⟨u,rfl,r1⟩:=ab8 r
 cases r1
 obtain⟨its,rv,pl,_⟩:=I.list hq
 have hi:=abK rv
 obtain⟨ys,hy⟩:=hi.allInts.items
 have ei:is=ys.toList.map (·.1):=by
  rw[←nums_intItems,←hy]
  exact hi.numsOf.symm
 have ln:is.length=ys.size:=by rw[ei,List.length_map,Array.length_toList]
 have best:=argBest_gt (numAt ys) (ys.size-1)
 refine max_intList (I.ok.hd hc) (by rw[←hy];exact pl.isList) (by omega) fun v h' tk hv hk=>?_
 obtain⟨t,rfl⟩:=intItems_at hv
 refine⟨.int _,H,I.kept hk,⟨_,rfl⟩,q _ ?_ fun a ha=>?_⟩
 ·rw[numAt_eq,←ei]
  exact getD_mem (by have:=best.1;omega)
 ·rw[ei] at ha
  obtain⟨j,hj,rfl⟩:=mem_getD ha
  rw[←ei] at hj
  rw[←numAt_eq]
  exact best.2 j (by omega)
section
variable{X:Cx}{m:Str}{C:Addr}{k:Nat}{ps:List Str}{sp:Sp}{o:Expr}{ta:TE}{pos apos:Pos}
theorem eDr{x:Str}{e:Expr}{es:List Expr}{tA:TA}{p pos:Pos}(D:Df X.prog X.w X.K X.mg X.base x k ps sp)(hr:Room k X.A)(ha:As X (e::es) tA)(hg:Gl X x:=by rfl)
  (hdb:(x==("__debug__":Str))=false:=by decide) (he:starEach (e::es) X.env=(false,eval e X.env)::starEach es X.env:=by rfl) (hpl:(backTo pos (starEach es X.env)).any (·.1)=false:=by rfl):
  E X (.Call (.Name x p) (e::es) [] pos) (agN sp [] E0 tA):=eD D hr ha (Nat.le_refl _) hg hdb he hpl
theorem aa8{pl:Sem Bool}(c:Cls X.K C)(D:DfM X.prog X.w X.K X.mg X.base C m k ps sp)(hr:Room k X.A)(ho:E X o ta)
  (ht:eval (.Call (.Attribute o m apos) [] [] pos) X.env=(do
   let ov ←eval o X.env
   standAt apos.atName
   let (f,first) ←holding [ov] (getMethod ov m pl)
   callWith pos f first (backTo pos (starEach [] X.env)) (backToKw pos (keywordEach [] X.env))):=by rfl):E X (.Call (.Attribute o m apos) [] [] pos) (au3 C m sp [] E0 ta ae4):=
 aeZ c D hr ho (Nat.le_refl _) ht
end
section
variable{X:Cx}
theorem aOB(hu:X.A.units+64<cLine):Op2 X (compareOp .NotEq) (fun x y H Q=>∃(a b:Addr) (ps:List Addr),x=.ref a/\y=.ref b/\SqL X.K H a (ps.map V.ref)/\SqL X.K H b (ps.map V.ref)/\Q (.bl false) H):=by
 refine⟨fun pins s σ H x y v u Q I rx ry h=>?_⟩
 obtain⟨a,b,ps,rfl,rfl,ha,hb,q⟩:=h
 cases rx
 cases ry
 obtain⟨its,rv,pl,_⟩:=I.list ha
 obtain⟨its',rv',pl',_⟩:=I.list hb
 cases ad0 rv
 cases ad0 rv'
 refine SeqAt.RcNeAt.lists (e:=fun _=>true) pl.isList pl'.isList rfl (by omega) (fun i h1 h2=>SeqAt.EqAt.same _) _ _ _ _ ?_
 exact⟨.bl false,H,I,by show Value.bool _=Value.bool false;congr 1;simp,q⟩
theorem E.as{e:Expr}{t u:TE}(h:E X e t)(w:∀σ H Q,u σ H Q->t σ H Q):E X e u:=⟨fun pins s σ H Q I z=>h.h pins s σ H Q I (w σ H Q z)⟩
theorem eD0{x:Str}{k k':Nat}{sp:Sp}{p pos:Pos}(D:Df X.prog X.w X.K X.mg X.base x k [] sp)(hr:Room k' X.A)(hk:k<=k':=by decide)(hg:Gl X x:=by rfl)
  (hdb:(x==("__debug__":Str))=false:=by decide):E X (.Call (.Name x p) [] [] pos) (agN sp [] E0 ae4):=by
 obtain⟨f,fd,F,hb,hm,kp⟩:=D.ex
 exact⟨avN F (hr.mono hk) hg hm kp hb .nil ajU hdb⟩
end
theorem aOH{us:List Value}(h:us.length=0):us=[]:=List.eq_nil_of_length_eq_zero h
theorem anM{K:PySem.W.Frag}{H H':Hp}{v:V}{t:Value}(s:Same H H')(h:TyOf K H v t):TyOf K H' v t:=by
 cases h with
 |non=>exact .non
 |bl x=>exact .bl x
 |int i=>exact .int i
 |str x=>exact .str x
 |flt x=>exact .flt x
 |lst e=>exact .lst (s _ _ e)
 |frz e=>exact .frz (s _ _ e)
 |tup e=>exact .tup (s _ _ e)
 |dK e=>exact .dK (s _ _ e)
 |dT e=>exact .dT (s _ _ e)
 |ins e c a n k m=>exact .ins (s _ _ e) c a n k m
def IsB(K:PySem.W.Frag)(C:Addr)(H:Hp)(v:V)(b:Bool):Prop:=∃t,TyOf K H v t/\PySem.W.kitOne K t (.ref C)=some b
theorem IsB.keep{K:PySem.W.Frag}{C:Addr}{H H':Hp}{v:V}{b:Bool}(h:IsB K C H v b)(s:Same H H'):IsB K C H' v b:=by
 obtain⟨t,h1,h2⟩:=h
 exact⟨t,anM s h1,h2⟩
def BF(K:PySem.W.Frag)(B C:Addr)(b:Bool):Prop:=IsC K C/\Cls K C/\PySem.W.kitOne K (.ref C) (.ref B)=some b
theorem BF.is{K:PySem.W.Frag}{B C x dx:Addr}{b:Bool}{H:Hp}{fs:List (Str×V)}(f:BF K B C b)(h:H x=some (.ins C dx fs)):IsB K B H (.ref x) b:=⟨_,f.1.ty f.2.1 h,f.2.2⟩
theorem ahR{H1 H':Hp}{x dx:Addr}{a b:HO}(nx:H1 x=none)(ndx:H1 dx=none)(hs:∀b' o,upd (upd H1 dx a) x b b'=some o->b'≠x->H' b'=some o):Same H1 H':=fun b' o hb=>
 hs b' o (aaF nx ndx _ _ hb) fun e=>by rw[e,nx] at hb;cases hb
theorem alE{α:Type}{R:α->Bool->Prop}:∀{us:List α},(∀v∈us,∃b,R v b)->∃bs,Paired R us bs
 |[],_=>⟨[],.nil⟩
 |v::us,h=>by
  obtain⟨b,hb⟩:=h v (List.mem_cons_self ..)
  obtain⟨bs,hbs⟩:=alE fun u hu=>h u (List.mem_cons_of_mem _ hu)
  exact⟨b::bs,.cons hb hbs⟩
theorem al1{α:Type}{R:α->Bool->Prop}:∀{us:List α},(∀v∈us,∃b,R v b)->(∃v∈us,R v false)->∃bs,Paired R us bs/\bs.all id=false
 |[],_,⟨_,h,_⟩=>nomatch h
 |v::us,h,⟨u,hu,hf⟩=>by
  rcases List.mem_cons.mp hu with rfl | hu'
  ·obtain⟨bs,hbs⟩:=alE fun z hz=>h z (List.mem_cons_of_mem _ hz)
   exact⟨false::bs,.cons hf hbs,rfl⟩
  ·obtain⟨b,hb⟩:=h v (List.mem_cons_self ..)
   obtain⟨bs,hbs,e⟩:=al1 (fun z hz=>h z (List.mem_cons_of_mem _ hz)) ⟨u,hu',hf⟩
   refine⟨b::bs,.cons hb hbs,?_⟩
   show (b&&bs.all id)=false
   rw[e,Bool.and_false]
theorem ajL{α:Type}{R:α->Bool->Prop}:∀{us:List α},(∀v∈us,R v true)->∃bs,Paired R us bs/\bs.all id=true
 |[],_=>⟨[],.nil,rfl⟩
 |v::us,h=>by
  obtain⟨bs,hbs,e⟩:=ajL fun u hu=>h u (List.mem_cons_of_mem _ hu)
  exact⟨true::bs,.cons (h v (List.mem_cons_self ..)) hbs,e⟩
theorem alS{xs:List V}{lo hi:Option Int}{v:V}(h:v∈ac1 xs lo hi):v∈xs:=List.mem_of_mem_drop (List.mem_of_mem_take h)
theorem aeP{α β:Type}{F:α->β->Prop}:∀{l:List α} {r:List β},Paired F l r->∀v∈l,∃b,F v b
 |_,_,.nil,v,h=>nomatch h
 |_,_,.cons f t,v,h=>(List.mem_cons.mp h).elim (fun e=>by rw[e];exact⟨_,f⟩) fun z=>aeP t v z
theorem acQ{α β:Type}{F:α->β->Prop}:∀{l:List α} {r:List β},Paired F l r->∀c∈r,∃u∈l,F u c
 |_,_,.nil,v,h=>nomatch h
 |_,_,.cons f t,v,h=>(List.mem_cons.mp h).elim (fun e=>by rw[e];exact⟨_,List.mem_cons_self ..,f⟩) fun z=>let ⟨u,hu,hf⟩:=acQ t v z;⟨u,List.mem_cons_of_mem _ hu,hf⟩
theorem avI:∀{is:List Int},(∀i∈is,0<=i)->0<=is.sum
 |[],_=>Int.le_refl 0
 |i::is,h=>by
  rw[List.sum_cons]
  have:=h i (List.mem_cons_self ..)
  have:=avI fun j hj=>h j (List.mem_cons_of_mem _ hj)
  omega
theorem cInc{X:Cx}{K:PySem.W.Frag}(hK:X.K=K:=by rfl):Cl1 X (.builtin "isinstance") (fun xs H Q=>∃(v:V) (t:Value) (C':Addr) (b:Bool),xs=[v,.ref C']/\TyOf K H v t/\PySem.W.kitOne K t (.ref C')=some b/\Q (.bl b) H):=hK▸cIn
def tCut(t u:TS):TS:=fun D σ H=>∃I:St->Hp->Prop,t {D with nx:=I} σ H/\∀σ' H',I σ' H'->u D σ' H'
theorem ssK{X:Cx}{st:Stmt}{rest:List Stmt}{t u:TS}(h1:S X st t)(h2:Ss X rest u):Ss X (st::rest) (tCut t u):=by
 refine⟨fun pins s σ H D I h=>?_⟩
 obtain⟨J,h,hJ⟩:=h
 refine wpAny_execs_cons (thn (h1.h pins s σ H {D with nx:=J} I h) fun f s1 q=>?_)
 cases f with
 |next=>
  obtain⟨σ',H',I',q⟩:=q
  exact h2.h pins s1 σ' H' D I' (hJ _ _ q)
 |ret v=>exact q
 |brk=>exact q
 |cont=>exact q
theorem Digs.five{ds:List Int}{a b c d e:Int}(h:Digs ds [a,b,c,d,e]):∃x0 x1 x2 x3 x4:Int,ds=[x0,x1,x2,x3,x4]/\(0<=x0/\x0<a)/\(0<=x1/\x1<b)/\(0<=x2/\x2<c)/\(0<=x3/\x3<d)/\0<=x4/\x4<e:=by
 match ds,h with
 |[x0,x1,x2,x3,x4],.cons h0 (.cons h1 (.cons h2 (.cons h3 (.cons h4 .nil))))=>exact⟨x0,x1,x2,x3,x4,rfl,h0,h1,h2,h3,h4⟩
theorem Digs.six{ds:List Int}{a b c d e f:Int}(h:Digs ds [a,b,c,d,e,f]):∃x0 x1 x2 x3 x4 x5:Int,ds=[x0,x1,x2,x3,x4,x5]/\(0<=x0/\x0<a)/\(0<=x1/\x1<b)/\(0<=x2/\x2<c)/\(0<=x3/\x3<d)/\(0<=x4/\x4<e)/\0<=x5/\x5<f:=by
 match ds,h with
 |[x0,x1,x2,x3,x4,x5],.cons h0 (.cons h1 (.cons h2 (.cons h3 (.cons h4 (.cons h5 .nil)))))=>exact⟨x0,x1,x2,x3,x4,x5,rfl,h0,h1,h2,h3,h4,h5⟩
theorem sPar{X:Cx}{x y:Str}{a b:Expr}{ta:TA}{px py pt pos:Pos}{kt k2 pt2}(i j:Nat)(ha:As X [a,b] ta)(hN:X.N.Nodup)(hc:X.calm=true:=by rfl)(hi:X.N[i]? =some x:=by rfl)(hj:X.N[j]? =some y:=by rfl)(hij:i≠j:=by decide)
  (hx:X.env.scope.names.lookup x=some .local:=by rfl) (hy:X.env.scope.names.lookup y=some .local:=by rfl)
  (hw:swappedStores [.Tuple [.Name x px,.Name y py] kt pt] (.Tuple [a,b] k2 pt2) X.env=pure (some [x,y]):=by rfl)
  (hs:swapsWithSole [.Tuple [.Name x px,.Name y py] kt pt] (.Tuple [a,b] k2 pt2) pos.line X.env=pure false:=by rfl):
  S X (.Assign [.Tuple [.Name x px,.Name y py] kt pt] (.Tuple [a,b] k2 pt2) pos) (aNX i j ta):=⟨aLO hc hN hi hj hij hx hy ha.h hw hs⟩
end L2
namespace K62
open PySem PySem.Spec PyProof.Rows L2 KM
def top(i:Nat):Stmt:=PySem.Challenge.pw_fivefields_k62_books_refused.main.body.getD i (.Pass ⟨0,0,0,0⟩)
abbrev aeH:Stmt:=top 28
abbrev afL:Stmt:=top 29
abbrev aEZ:Stmt:=top 42
abbrev ajP:Stmt:=top 52
abbrev afJ:Stmt:=top 53
abbrev ahY:Stmt:=top 54
abbrev aeK:Stmt:=top 55
abbrev ah4:Stmt:=top 56
abbrev ac7:Stmt:=top 57
abbrev agT:Stmt:=top 58
abbrev afH:Stmt:=top 59
abbrev ab1:Stmt:=aaQ (top 74) 0
abbrev aa1:Stmt:=aaQ (top 75) 0
abbrev acV:Stmt:=aaQ (top 76) 0
abbrev abX:Stmt:=aaQ (top 78) 0
abbrev ac9:Stmt:=aaQ (top 79) 0
abbrev ab4:Stmt:=aaQ (top 80) 0
abbrev acW:Stmt:=top 82
abbrev adA:Stmt:=top 83
abbrev abW:Stmt:=top 84
abbrev ae7:Stmt:=top 85
abbrev agI:Stmt:=top 86
abbrev acZ:Stmt:=top 87
abbrev ah9:Stmt:=top 97
abbrev adB:Stmt:=aaQ (top 99) 0
abbrev agS:Stmt:=top 100
abbrev ajF:Stmt:=top 101
abbrev ah1:Stmt:=top 102
abbrev ae5:Stmt:=aaQ (top 109) 1
abbrev ahZ:Stmt:=aaQ (top 109) 1
abbrev adE:Stmt:=aaQ (top 113) 2
abbrev agO:Stmt:=aaQ (top 114) 2
abbrev ae9:Stmt:=aaQ (top 115) 2
abbrev adV:Stmt:=aaQ (top 116) 2
abbrev afA:Stmt:=aaQ (top 109) 2
abbrev aiK:Stmt:=aaQ (top 109) 2
abbrev adG:Stmt:=aaQ (top 113) 3
abbrev agF:Stmt:=aaQ (top 114) 3
abbrev afD:Stmt:=aaQ (top 115) 3
abbrev adQ:Stmt:=aaQ (top 116) 3
abbrev aiM:Stmt:=top 107
abbrev ahW:Stmt:=top 108
abbrev ajT:Stmt:=top 110
abbrev adR:Stmt:=top 111
abbrev aeJ:Stmt:=aaQ (top 112) 0
abbrev ab9:Stmt:=aaQ (top 113) 0
abbrev adX:Stmt:=aaQ (top 114) 0
abbrev acU:Stmt:=aaQ (top 115) 0
abbrev ab6:Stmt:=aaQ (top 116) 0
abbrev adU:Stmt:=top 118
abbrev agG:Stmt:=top 119
abbrev aeC:Stmt:=top 120
abbrev agP:Stmt:=top 121
abbrev adO:Stmt:=top 122
abbrev aiC:Stmt:=top 123
abbrev ac0:Stmt:=top 124
abbrev agJ:Stmt:=top 125
abbrev agL:Stmt:=top 126
abbrev acH:Stmt:=top 127
abbrev acA:Stmt:=top 128
abbrev ab7:Stmt:=top 129
abbrev afM:Stmt:=top 130
abbrev ajK:Stmt:=top 131
def mb(y s:Int):Int:=(y+s-1) / s
def db(y:Int):Int:=365*y+(mb y 4-mb y 100+mb y 400)
def DVn(c:Cs)(D:Addr)(H:Hp)(v:V)(ko:Option (List Mk)):Prop:=DV c H v ko/\∀p,v=.ref p->p≠D
theorem DVn.keep{c:Cs}{D:Addr}{H H':Hp}(s:Same H H'){v:V}{ko:Option (List Mk)}(h:DVn c D H v ko):DVn c D H' v ko:=⟨h.1.keep s,h.2⟩
theorem DVn.upd{c:Cs}{D:Addr}{H:Hp}{l':List V}{v:V}:∀{ko:Option (List Mk)},DVn c D H v ko->(∃l,H D=some (.lst l))->DVn c D (upd H D (.lst l')) v ko
 |none,h,_=>h
 |some ks,⟨⟨p,qs,e,h1,h2,h3⟩,hn⟩,⟨l,hl⟩=>⟨⟨p,qs,e,by rw[aaE (hn p e)];exact h1,h2.keepM (ah2 hl),h3⟩,hn⟩
def RR(c:Cs)(m0 m1 m3:Int)(kd kw:Option (List Mk))(D:Addr)(i:Nat)(l:List V)(H:Hp):Prop:=match i with
 |0=>l=[]
 |1=>l=[.int m0]
 |2=>l=[.int m0,.int m1]
 |3=>∃dv,l=[.int m0,.int m1,dv]/\DVn c D H dv kd
 |4=>∃dv,l=[.int m0,.int m1,dv,.int m3]/\DVn c D H dv kd
 |_=>∃dv wv,l=[.int m0,.int m1,dv,.int m3,wv]/\DVn c D H dv kd/\DVn c D H wv kw
theorem RR.keep{c:Cs}{m0 m1 m3:Int}{kd kw:Option (List Mk)}{D:Addr}{l:List V}{H H':Hp}(s:Same H H'):∀{i:Nat},RR c m0 m1 m3 kd kw D i l H->RR c m0 m1 m3 kd kw D i l H'
 |0,h=>h
 |1,h=>h
 |2,h=>h
 |3,⟨dv,e,h⟩=>⟨dv,e,h.keep s⟩
 |4,⟨dv,e,h⟩=>⟨dv,e,h.keep s⟩
 |_+5,⟨dv,wv,e,h,h'⟩=>⟨dv,wv,e,h.keep s,h'.keep s⟩
theorem RR.upd{c:Cs}{m0 m1 m3:Int}{kd kw:Option (List Mk)}{D:Addr}{l l':List V}{H:Hp}(hl:∃l,H D=some (.lst l)):∀{i:Nat},RR c m0 m1 m3 kd kw D i l H->RR c m0 m1 m3 kd kw D i l (upd H D (.lst l'))
 |0,h=>h
 |1,h=>h
 |2,h=>h
 |3,⟨dv,e,h⟩=>⟨dv,e,h.upd hl⟩
 |4,⟨dv,e,h⟩=>⟨dv,e,h.upd hl⟩
 |_+5,⟨dv,wv,e,h,h'⟩=>⟨dv,wv,e,h.upd hl,h'.upd hl⟩
theorem azS{ws:List (List Nat)}(h:∀w∈ws,w≠[]):inV (.str (Tx [])) (ws.map fun q=>V.str (Tx q))=false:=by
 unfold inV
 rw[List.any_map,List.any_eq_false]
 intro w hw hc
 have e:Tx w=Tx []:=beq_iff_eq.mp (show (Tx w==Tx [])=true from hc)
 exact h w hw (by have:=congrArg (fun z=>z.cps.toList) e;simpa [Tx] using this)
def amH(m0 m1:Int)(dv:V)(m3:Int)(wv:V)(tm:Int):List (Str×V):=aaP "time_mask" (.int tm) (aaP "weekday_marks" wv (aaP "month_mask" (.int m3) (aaP "day_marks" dv (aaP "hour_mask" (.int m1) (aaP "minute_mask" (.int m0) [])))))
theorem agA(m0 m1:Int)(dv:V)(m3:Int)(wv:V)(tm:Int):(amH m0 m1 dv m3 wv tm).lookup ("minute_mask":Str)=some (.int m0):=by
 unfold amH
 rw[aaM,if_neg (by decide +kernel),aaM,if_neg (by decide +kernel),aaM,if_neg (by decide +kernel),aaM,if_neg (by decide +kernel),aaM,if_neg (by decide +kernel),aaM,if_pos rfl]
theorem aiV(m0 m1:Int)(dv:V)(m3:Int)(wv:V)(tm:Int):(amH m0 m1 dv m3 wv tm).lookup ("hour_mask":Str)=some (.int m1):=by
 unfold amH
 rw[aaM,if_neg (by decide +kernel),aaM,if_neg (by decide +kernel),aaM,if_neg (by decide +kernel),aaM,if_neg (by decide +kernel),aaM,if_pos rfl]
def SV(b:Bool)(H:Hp)(v:V):Option (List Mk)->Prop
 |none=>v=.non
 |some ks=>∃p us,v=.ref p/\H p=some (.lst (us.map V.ref))/\Ft (TpAt b H) us ks
theorem SV.keep{b:Bool}{H H':Hp}(s:Same H H'){v:V}:∀{ko:Option (List Mk)},SV b H v ko->SV b H' v ko
 |none,h=>h
 |some _,⟨p,us,e,h1,h2⟩=>⟨p,us,e,s _ _ h1,h2.keepT s.keep⟩
theorem adJ{α β:Type}{F:α->β->Prop}:∀{l:List α} {r:List β} {a:α} {b:β},Paired F l r->F a b->Paired F (l++[a]) (r++[b])
 |_,_,_,_,.nil,h=>.cons h .nil
 |_,_,_,_,.cons x t,h=>.cons x (adJ t h)
def aaS(CB CO CJ CM CL CT:Addr):Nat->Hp->V->Int×Int->Prop
 |0,_,_,_=>False
 |n+1,H,v,td=>∃(x dx:Addr),v=.ref x/\
   ((td=(1,1)/\(H x=some (.ins CB dx [])∨∃r,H x=some (.ins CO dx [("row",r)])))
   ∨(∃(C t:Addr) (vs:List V) (tds:List (Int×Int)),(C=CJ∨C=CM)/\H x=some (.ins C dx [("books",.ref t)])/\H t=some (.tup vs)/\Paired (aaS CB CO CJ CM CL CT n H) vs tds/\0<vs.length/\vs.length<=8/\td.1=1+(tds.map Prod.fst).sum/\(∀m∈tds.map Prod.snd,m<td.2)/\td.2-1∈tds.map Prod.snd)
   ∨(∃(v1 v2:V) (a b:Int×Int),H x=some (.ins CL dx [("one",v1),("other",v2)])/\aaS CB CO CJ CM CL CT n H v1 a/\aaS CB CO CJ CM CL CT n H v2 b/\td.1=1+(a.1+b.1)/\(a.2<td.2/\b.2<td.2)/\(td.2-1=a.2∨td.2-1=b.2))
   ∨(∃(v1:V) (a:Int×Int),H x=some (.ins CT dx [("one",v1)])/\aaS CB CO CJ CM CL CT n H v1 a/\td=(1+a.1,1+a.2)))
def sp1(C:Addr):Sp:=fun vs H Q _=>∃(x dx:Addr) (fs:List (Str×V)),vs=[.ref x]/\H x=some (.ins C dx fs)/\Q (.int 1) H
def spT(C:Addr)(sp0:Sp):Sp:=fun vs H Q _=>∃(x dx t:Addr),vs=[.ref x]/\H x=some (.ins C dx [("books",.ref t)])/\sp0 [.ref t] H Q E0
def tyT(K:PySem.W.Frag)(CB CO CJ CM CL CT:Addr)(n:Nat):Sp:=fun vs H Q _=>∃(a:Addr) (us:List V) (tds:List (Int×Int)),vs=[.ref a]/\(SqL K H a us∨SqT K H a us)/\Paired (aaS CB CO CJ CM CL CT n H) us tds/\us.length<=9/\∀H',Same H H'->Q (.int (1+(tds.map Prod.fst).sum)) H'
def tyD(K:PySem.W.Frag)(CB CO CJ CM CL CT:Addr)(n:Nat):Sp:=fun vs H Q _=>∃(a:Addr) (us:List V) (tds:List (Int×Int)),vs=[.ref a]/\(SqL K H a us∨SqT K H a us)/\Paired (aaS CB CO CJ CM CL CT n H) us tds/\0<us.length/\us.length<=9/\∀(M:Int) (H':Hp),Same H H'->M∈tds.map Prod.snd->(∀m∈tds.map Prod.snd,m<=M)->Q (.int (1+M)) H'
theorem aaD{CB CO CJ CM CL CT:Addr}{H H':Hp}(s:Same H H'):∀(n:Nat) {v:V} {td:Int×Int},aaS CB CO CJ CM CL CT n H v td->aaS CB CO CJ CM CL CT n H' v td
 |0,_,_,h=>h
 |n+1,_,_,h=>by
  obtain⟨x,dx,rfl,h⟩:=h
  refine⟨x,dx,rfl,?_⟩
  rcases h with ⟨e,hx | ⟨r,hx⟩⟩ | ⟨C,t,vs,tds',hC,hx,ht,hp,z⟩ | ⟨v1,v2,a',b',hx,h1,h2,z⟩ | ⟨v1,a',hx,h1,e⟩
  ·exact .inl ⟨e,.inl (s _ _ hx)⟩
  ·exact .inl ⟨e,.inr ⟨r,s _ _ hx⟩⟩
  ·exact .inr (.inl ⟨C,t,vs,tds',hC,s _ _ hx,s _ _ ht,Paired.mapP hp fun _ _ z=>aaD s n z,z⟩)
  ·exact .inr (.inr (.inl ⟨v1,v2,a',b',s _ _ hx,aaD s n h1,aaD s n h2,z⟩))
  ·exact .inr (.inr (.inr ⟨v1,a',s _ _ hx,aaD s n h1,e⟩))
theorem lk1{a b:Str}{v:V}(h:(a==b)=false):([(b,v)]:List (Str×V)).lookup a=none:=by simp[List.lookup,h]
theorem lk2{a b c:Str}{v u:V}(h:(a==b)=false)(h':(a==c)=false):([(b,v),(c,u)]:List (Str×V)).lookup a=none:=by simp[List.lookup,h,h']
def spL(C:Addr)(sp0:Sp):Sp:=fun vs H Q _=>∃(x dx:Addr) (v1 v2:V),vs=[.ref x]/\H x=some (.ins C dx [("one",v1),("other",v2)])/\∀l,H l=none->sp0 [.ref l] (upd H l (.lst [v1,v2])) Q E0
def spU(C:Addr)(sp0:Sp):Sp:=fun vs H Q _=>∃(x dx:Addr) (v1:V),vs=[.ref x]/\H x=some (.ins C dx [("one",v1)])/\∀l,H l=none->sp0 [.ref l] (upd H l (.lst [v1])) Q E0
theorem ahP{α β:Type}{F G:α->β->Prop}:∀{l:List α} {r:List β},Paired F l r->(∀a b,b∈r->F a b->G a b)->Paired G l r
 |_,_,.nil,_=>.nil
 |_,_,.cons f t,h=>.cons (h _ _ (List.mem_cons_self ..) f) (ahP t fun a b hb=>h a b (List.mem_cons_of_mem _ hb))
theorem abS{CB CO CJ CM CL CT:Addr}{H:Hp}:∀{n:Nat} {v:V} {td:Int×Int},aaS CB CO CJ CM CL CT n H v td->1<=td.2/\1<=td.1/\∀k:Nat,td.2<=(k:Int)->aaS CB CO CJ CM CL CT k H v td
 |0,_,_,h=>h.elim
 |n+1,v,td,h=>by
  obtain⟨x,dx,rfl,h⟩:=h
  rcases h with ⟨e,hx⟩ | ⟨C,t,vs,tds',hC,hx,ht,hp,h0,h8,e1,e2,e3⟩ | ⟨v1,v2,a',b',hx,h1,h2,e1,e2,e3⟩ | ⟨v1,a',hx,h1,e⟩
  ·refine⟨by rw[e];decide,by rw[e];decide,fun k hk=>?_⟩
   rw[e] at hk
   match k,hk with
   |k+1,_=>exact⟨x,dx,rfl,.inl ⟨e,hx⟩⟩
  ·obtain⟨c,hc,ec⟩:=List.mem_map.mp e3
   obtain⟨u,_,hu⟩:=acQ hp c hc
   have z:=abS hu
   refine⟨by omega,?_,fun k hk=>?_⟩
   ·have:0<=(tds'.map Prod.fst).sum:=avI fun i hi=>by
     obtain⟨c,hc,ec⟩:=List.mem_map.mp hi
     obtain⟨u,_,hu⟩:=acQ hp c hc
     have:=(abS hu).2.1
     omega
    omega
   ·match k,hk with
    |0,hk=>have:((0:Nat):Int)=0:=rfl;omega
    |k+1,hk=>exact⟨x,dx,rfl,.inr (.inl ⟨C,t,vs,tds',hC,hx,ht,ahP hp fun a b hb z=>(abS z).2.2 k (by have:=e2 b.2 (List.mem_map.mpr ⟨b,hb,rfl⟩);omega),h0,h8,e1,e2,e3⟩)⟩
  ·have z1:=abS h1
   have z2:=abS h2
   refine⟨by omega,by omega,fun k hk=>?_⟩
   match k,hk with
   |0,hk=>have:((0:Nat):Int)=0:=rfl;omega
   |k+1,hk=>exact⟨x,dx,rfl,.inr (.inr (.inl ⟨v1,v2,a',b',hx,z1.2.2 k (by omega),z2.2.2 k (by omega),e1,e2,e3⟩))⟩
  ·have z1:=abS h1
   have ea:td.1=1+a'.1/\td.2=1+a'.2:=by rw[e];exact⟨rfl,rfl⟩
   refine⟨by omega,by omega,fun k hk=>?_⟩
   match k,hk with
   |0,hk=>have:((0:Nat):Int)=0:=rfl;omega
   |k+1,hk=>exact⟨x,dx,rfl,.inr (.inr (.inr ⟨v1,a',hx,z1.2.2 k (by omega),e⟩))⟩
theorem aj7{CB CO CJ CM CL CT:Addr}{K:PySem.W.Frag}{H:Hp}{n:Nat}{v:V}{td:Int×Int}(fB:BF K CB CB true)(fO:BF K CB CO true)(fJ:BF K CB CJ true)(fM:BF K CB CM true)(fL:BF K CB CL true)(fT:BF K CB CT true)(h:aaS CB CO CJ CM CL CT n H v td):IsB K CB H v true:=by
 cases n with
 |zero=>exact h.elim
 |succ n=>
  obtain⟨x,dx,rfl,h⟩:=h
  rcases h with ⟨e,hx | ⟨r,hx⟩⟩ | ⟨C,t,vs,tds',rfl | rfl,hx,_⟩ | ⟨v1,v2,a',b',hx,_⟩ | ⟨v1,a',hx,_⟩
  ·exact fB.is hx
  ·exact fO.is hx
  ·exact fJ.is hx
  ·exact fM.is hx
  ·exact fL.is hx
  ·exact fT.is hx
def Vd(K:PySem.W.Frag)(CB CO CJ CM CL CT:Addr)(H:Hp)(us:List V):Option (Int×Int)->Prop
 |none=>((∀v∈us,∃b,IsB K CB H v b)/\∃v∈us,IsB K CB H v false)∨∃tds,Paired (aaS CB CO CJ CM CL CT 6 H) us tds/\0<us.length/\(24<1+(tds.map Prod.fst).sum∨∃m∈tds.map Prod.snd,5<=m)
 |some td=>∃tds,Paired (aaS CB CO CJ CM CL CT 6 H) us tds/\0<us.length/\td.1=1+(tds.map Prod.fst).sum/\td.1<=24/\(∀m∈tds.map Prod.snd,m<td.2)/\td.2-1∈tds.map Prod.snd/\td.2<=5
theorem aa5{K:PySem.W.Frag}{CB CO CJ CM CL CT:Addr}{H H':Hp}{us:List V}(s:Same H H'):∀{r:Option (Int×Int)},Vd K CB CO CJ CM CL CT H us r->Vd K CB CO CJ CM CL CT H' us r
 |none,.inl ⟨h1,v,hv,h2⟩=>.inl ⟨fun v hv=>let ⟨b,hb⟩:=h1 v hv;⟨b,hb.keep s⟩,v,hv,h2.keep s⟩
 |none,.inr ⟨tds,h,z⟩=>.inr ⟨tds,Paired.mapP h fun _ _ z=>aaD s 6 z,z⟩
 |some _,⟨tds,h,z⟩=>⟨tds,Paired.mapP h fun _ _ z=>aaD s 6 z,z⟩
def afV(K:PySem.W.Frag)(CB CO CJ CM CL CT:Addr)(H:Hp)(v:V):Prop:=(∃k,KindV K H v k/\k≠ .list)∨∃a us,v=.ref a/\SqL K H a us/\us.length<=9/\((us.length=0∨us.length=9)∨Vd K CB CO CJ CM CL CT H us none)
theorem av5{K:PySem.W.Frag}{CB CO CJ CM CL CT:Addr}{H H':Hp}{v:V}(s:Same H H'):afV K CB CO CJ CM CL CT H v->afV K CB CO CJ CM CL CT H' v
 |.inl ⟨k,h,n⟩=>.inl ⟨k,h.same s,n⟩
 |.inr ⟨a,us,e,h,l,z⟩=>.inr ⟨a,us,e,s.seq h,l,z.imp id (aa5 s)⟩
def aM9(K:PySem.W.Frag)(CN CB CO CJ CM CL CT:Addr):Sp:=fun vs H Q E=>∃(a:Addr) (us:List V) (r:Option (Int×Int)),vs=[.ref a]/\SqL K H a us/\us.length<=9/\Vd K CB CO CJ CM CL CT H us r/\(r=none->∀H',Same H H'->E (.ref CN) none H')/\(∀td,r=some td->∀t H',Same H H'->H' t=some (.tup us)->Q (.ref t) H')
def aOO(K:PySem.W.Frag)(CN CB CO CJ CM CL CT:Addr):Sp:=fun vs H Q E=>∃v:V,vs=[v]/\((afV K CB CO CJ CM CL CT H v/\∀H',Same H H'->E (.ref CN) none H')∨∃a us td,v=.ref a/\SqL K H a us/\us.length<=8/\Vd K CB CO CJ CM CL CT H us (some td)/\∀t H',Same H H'->H' t=some (.tup us)->Q (.ref t) H')
def aFY(K:PySem.W.Frag)(C CN CR:Addr):Sp:=fun vs H Q E=>∃(p dx:Addr) (v:V),vs=[.ref p,v]/\H p=some (.ins C dx [])/\((IsB K CR H v false/\∀H',Same H H'->E (.ref CN) none H')∨(IsB K CR H v true/\∀H',H'=upd H p (.ins C dx [("row",v)])->Q .non H'))
def aEM(K:PySem.W.Frag)(C CN CB CO CJ CM CL CT:Addr):Sp:=fun vs H Q E=>∃(p dx:Addr) (v:V),vs=[.ref p,v]/\H p=some (.ins C dx [])/\((afV K CB CO CJ CM CL CT H v/\∀H',Same H H'->E (.ref CN) none H')∨∃a us td,v=.ref a/\SqL K H a us/\us.length<=8/\Vd K CB CO CJ CM CL CT H us (some td)/\∀t H',H' p=some (.ins C dx [("books",.ref t)])->H' t=some (.tup us)->(∀b o,H b=some o->b≠p->H' b=some o)->Q .non H')
def aIC(K:PySem.W.Frag)(C CN CB CO CJ CM CL CT:Addr):Sp:=fun vs H Q E=>∃(p dx:Addr) (v u:V),vs=[.ref p,v,u]/\H p=some (.ins C dx [])/\((Vd K CB CO CJ CM CL CT H [v,u] none/\∀H',Same H H'->E (.ref CN) none H')∨∃td,Vd K CB CO CJ CM CL CT H [v,u] (some td)/\∀H',H' p=some (.ins C dx [("one",v),("other",u)])->(∀b o,H b=some o->b≠p->H' b=some o)->Q .non H')
def aGZ(K:PySem.W.Frag)(C CN CB CO CJ CM CL CT:Addr):Sp:=fun vs H Q E=>∃(p dx:Addr) (v:V),vs=[.ref p,v]/\H p=some (.ins C dx [])/\((Vd K CB CO CJ CM CL CT H [v] none/\∀H',Same H H'->E (.ref CN) none H')∨∃td,Vd K CB CO CJ CM CL CT H [v] (some td)/\∀H',H' p=some (.ins C dx [("one",v)])->(∀b o,H b=some o->b≠p->H' b=some o)->Q .non H')
section
variable{K:PySem.W.Frag}{CN CR CB CO CJ CM CL CT x dx:Addr}{H:Hp}{v u:V}{Q:VK}{E:XK}
theorem aKR(h:IsB K CR H v false)(q:∀H',Same H H'->E (.ref CN) none H')(nx:H x=none)(nd:H dx=none):aFY K CO CN CR (.ref x::([v]++[])) (upd (upd H dx (.own x)) x (.ins CO dx [])) Q E:=
 have s:=aaF (a:=.own x) (b:=.ins CO dx []) nx nd
 ⟨x,dx,v,rfl,aaA,.inl ⟨h.keep s,fun H' s'=>q H' (s.trans s')⟩⟩
theorem mkO(h:IsB K CR H v true)(q:∀H',Same H H'->aaS CB CO CJ CM CL CT 6 H' (.ref x) (1,1)->Q .non H')(nx:H x=none)(nd:H dx=none):aFY K CO CN CR (.ref x::([v]++[])) (upd (upd H dx (.own x)) x (.ins CO dx [])) Q E:=
 have s:=aaF (a:=.own x) (b:=.ins CO dx []) nx nd
 ⟨x,dx,v,rfl,aaA,.inr ⟨h.keep s,fun H' e=>q H' (e▸ab2 nx s) ⟨x,dx,rfl,.inl ⟨rfl,.inr ⟨v,e▸aaA⟩⟩⟩⟩⟩
theorem avZ{C:Addr}(h:afV K CB CO CJ CM CL CT H v)(q:∀H',Same H H'->E (.ref CN) none H')(nx:H x=none)(nd:H dx=none):aEM K C CN CB CO CJ CM CL CT (.ref x::([v]++[])) (upd (upd H dx (.own x)) x (.ins C dx [])) Q E:=
 have s:=aaF (a:=.own x) (b:=.ins C dx []) nx nd
 ⟨x,dx,v,rfl,aaA,.inl ⟨av5 s h,fun H' s'=>q H' (s.trans s')⟩⟩
theorem mkJ{C a:Addr}{us:List V}{td:Int×Int}(hC:C=CJ∨C=CM)(hS:SqL K H a us)(hl:us.length<=8)(h:Vd K CB CO CJ CM CL CT H us (some td))(q:∀H',Same H H'->aaS CB CO CJ CM CL CT 6 H' (.ref x) td->(∃dx t,H' x=some (.ins C dx [("books",.ref t)])/\H' t=some (.tup us))->Q .non H')(nx:H x=none)(nd:H dx=none):aEM K C CN CB CO CJ CM CL CT (.ref x::([.ref a]++[])) (upd (upd H dx (.own x)) x (.ins C dx [])) Q E:=
 have s:=aaF (a:=.own x) (b:=.ins C dx []) nx nd
 ⟨x,dx,.ref a,rfl,aaA,.inr ⟨a,us,td,rfl,s.seq hS,hl,aa5 s h,fun t H' hx ht hs=>by
  have s':=ahR nx nd hs
  obtain⟨tds,hp,h0,e1,_,e2,e3,e5⟩:=aa5 s' h
  exact q H' s' ⟨x,dx,rfl,.inr (.inl ⟨C,t,us,tds,hC,hx,ht,ahP hp fun a b hb z=>(abS z).2.2 5 (by have:=e2 b.2 (List.mem_map.mpr ⟨b,hb,rfl⟩);show b.2<=5;omega),h0,hl,e1,e2,e3⟩)⟩ ⟨dx,t,hx,ht⟩⟩⟩
theorem aGY(h:Vd K CB CO CJ CM CL CT H [v,u] none)(q:∀H',Same H H'->E (.ref CN) none H')(nx:H x=none)(nd:H dx=none):aIC K CL CN CB CO CJ CM CL CT (.ref x::([v,u]++[])) (upd (upd H dx (.own x)) x (.ins CL dx [])) Q E:=
 have s:=aaF (a:=.own x) (b:=.ins CL dx []) nx nd
 ⟨x,dx,v,u,rfl,aaA,.inl ⟨aa5 s h,fun H' s'=>q H' (s.trans s')⟩⟩
theorem mkL{td:Int×Int}(h:Vd K CB CO CJ CM CL CT H [v,u] (some td))(q:∀H',Same H H'->aaS CB CO CJ CM CL CT 6 H' (.ref x) td->Q .non H')(nx:H x=none)(nd:H dx=none):aIC K CL CN CB CO CJ CM CL CT (.ref x::([v,u]++[])) (upd (upd H dx (.own x)) x (.ins CL dx [])) Q E:=
 have s:=aaF (a:=.own x) (b:=.ins CL dx []) nx nd
 ⟨x,dx,v,u,rfl,aaA,.inr ⟨td,aa5 s h,fun H' hx hs=>by
  have s':=ahR nx nd hs
  obtain⟨tds,hp,h0,e1,_,e2,e3,e5⟩:=aa5 s' h
  match tds,hp with
  |[a,b],.cons h1 (.cons h2 .nil)=>
   have m1:=e2 a.2 (by simp)
   have m2:=e2 b.2 (by simp)
   have m3:td.2-1=a.2∨td.2-1=b.2:=by simpa using e3
   have m4:td.1=1+(a.1+b.1):=by simpa using e1
   exact q H' s' ⟨x,dx,rfl,.inr (.inr (.inl ⟨v,u,a,b,hx,(abS h1).2.2 5 (by show a.2<=5;omega),(abS h2).2.2 5 (by show b.2<=5;omega),m4,⟨m1,m2⟩,m3⟩))⟩⟩⟩
theorem aKV(h:Vd K CB CO CJ CM CL CT H [v] none)(q:∀H',Same H H'->E (.ref CN) none H')(nx:H x=none)(nd:H dx=none):aGZ K CT CN CB CO CJ CM CL CT (.ref x::([v]++[])) (upd (upd H dx (.own x)) x (.ins CT dx [])) Q E:=
 have s:=aaF (a:=.own x) (b:=.ins CT dx []) nx nd
 ⟨x,dx,v,rfl,aaA,.inl ⟨aa5 s h,fun H' s'=>q H' (s.trans s')⟩⟩
theorem mkT{td:Int×Int}(h:Vd K CB CO CJ CM CL CT H [v] (some td))(q:∀H',Same H H'->aaS CB CO CJ CM CL CT 6 H' (.ref x) td->Q .non H')(nx:H x=none)(nd:H dx=none):aGZ K CT CN CB CO CJ CM CL CT (.ref x::([v]++[])) (upd (upd H dx (.own x)) x (.ins CT dx [])) Q E:=
 have s:=aaF (a:=.own x) (b:=.ins CT dx []) nx nd
 ⟨x,dx,v,rfl,aaA,.inr ⟨td,aa5 s h,fun H' hx hs=>by
  have s':=ahR nx nd hs
  obtain⟨tds,hp,h0,e1,_,e2,e3,e5⟩:=aa5 s' h
  match tds,hp with
  |[a],.cons h1 .nil=>
   have m3:td.2-1=a.2:=by simpa using e3
   have m4:td.1=1+a.1:=by simpa using e1
   exact q H' s' ⟨x,dx,rfl,.inr (.inr (.inr ⟨v,a,hx,(abS h1).2.2 5 (by show a.2<=5;omega),Prod.ext m4 (by show td.2=1+a.2;omega)⟩))⟩⟩⟩
theorem mkB(x dx:Addr)(H:Hp):aaS CB CO CJ CM CL CT 6 (upd (upd H dx (.own x)) x (.ins CB dx [])) (.ref x) (1,1):=⟨x,dx,rfl,.inl ⟨rfl,.inl aaA⟩⟩
end
structure Mb(P:Program)(w:World)(K:PySem.W.Frag)(mg:Str->Option Value)(base:Heap)(CB CO CJ CM CL CT:Addr)(m:Str)(k:Nat)(sp0:Sp):Prop where
 cB:Cls K CB
 cO:Cls K CO
 cJ:Cls K CJ
 cM:Cls K CM
 cL:Cls K CL
 cT:Cls K CT
 dB:DfM P w K mg base CB m k ["self"] (sp1 CB)
 dO:DfM P w K mg base CO m k ["self"] (sp1 CO)
 dJ:DfM P w K mg base CJ m k ["self"] (spT CJ sp0)
 dM:DfM P w K mg base CM m k ["self"] (spT CM sp0)
 dL:DfM P w K mg base CL m k ["self"] (spL CL sp0)
 dT:DfM P w K mg base CT m k ["self"] (spU CT sp0)
theorem auT{X:Cx}{o:Expr}{i:Nat}{pos apos:Pos}{CB CO CJ CM CL CT:Addr}{k k' n:Nat}{pl:Sem Bool}(M:Mb X.prog X.w X.K X.mg X.base CB CO CJ CM CL CT "tally" k (tyT X.K CB CO CJ CM CL CT n))(hr:Room k' X.A)(ho:E X o (az5 i))(hk:k<=k':=by decide)
  (ht:eval (.Call (.Attribute o "tally" apos) [] [] pos) X.env=(do
   let ov ←eval o X.env
   standAt apos.atName
   let (f,first) ←holding [ov] (getMethod ov "tally" pl)
   callWith pos f first (backTo pos (starEach [] X.env)) (backToKw pos (keywordEach [] X.env))):=by rfl):
  E X (.Call (.Attribute o "tally" apos) [] [] pos) (fun σ H Q=>∃v td,σ[i]? =some (some v)/\aaS CB CO CJ CM CL CT (n+1) H v td/\∀H',Same H H'->Q (.int (td.1)) H'):=by
 refine (abE (aeZ M.cB M.dB hr ho hk ht) (abE (aeZ M.cO M.dO hr ho hk ht) (abE (aeZ M.cJ M.dJ hr ho hk ht) (abE (aeZ M.cM M.dM hr ho hk ht) (abE (aeZ M.cL M.dL hr ho hk ht) (aeZ M.cT M.dT hr ho hk ht)))))).as fun σ H Q ⟨v,td,ev,hb,fin⟩=>?_
 obtain⟨x,dx,rfl,hb⟩:=hb
 rcases hb with ⟨e,hx | ⟨r,hx⟩⟩ | ⟨C,t,vs,tds',hC,hx,ht,hp,h0,h8,e1,_,_⟩ | ⟨v1,v2,a',b',hx,h1,h2,e1,_,_⟩ | ⟨v1,a',hx,h1,e⟩
 ·rw[show td.1=1 by rw[e]] at fin
  exact .inl ⟨_,ev,x,dx,_,rfl,hx,rfl,x,dx,_,rfl,hx,fin _ (Same.refl _)⟩
 ·rw[show td.1=1 by rw[e]] at fin
  exact .inr (.inl ⟨_,ev,x,dx,_,rfl,hx,lk1 (by decide +kernel),x,dx,_,rfl,hx,fin _ (Same.refl _)⟩)
 ·rw[e1] at fin
  rcases hC with rfl | rfl
  ·exact .inr (.inr (.inl ⟨_,ev,x,dx,_,rfl,hx,lk1 (by decide +kernel),x,dx,t,rfl,hx,t,vs,tds',rfl,.inr (SqT.of ht),hp,by omega,fin⟩))
  ·exact .inr (.inr (.inr (.inl ⟨_,ev,x,dx,_,rfl,hx,lk1 (by decide +kernel),x,dx,t,rfl,hx,t,vs,tds',rfl,.inr (SqT.of ht),hp,by omega,fin⟩)))
 ·rw[e1] at fin
  exact .inr (.inr (.inr (.inr (.inl ⟨_,ev,x,dx,_,rfl,hx,lk2 (by decide +kernel) (by decide +kernel),x,dx,v1,v2,rfl,hx,fun l hl=>⟨l,[v1,v2],[a',b'],rfl,.inl (SqL.of aaA),.cons (aaD (aaB hl _) n h1) (.cons (aaD (aaB hl _) n h2) .nil),(by show 2<=9;decide),fun H5 s5=>by have:=fin H5 ((aaB hl _).trans s5);simpa using this⟩⟩))))
 ·rw[show td.1=1+a'.1 by rw[e]] at fin
  exact .inr (.inr (.inr (.inr (.inr ⟨_,ev,x,dx,_,rfl,hx,lk1 (by decide +kernel),x,dx,v1,rfl,hx,fun l hl=>⟨l,[v1],[a'],rfl,.inl (SqL.of aaA),.cons (aaD (aaB hl _) n h1) .nil,(by show 1<=9;decide),fun H5 s5=>by have:=fin H5 ((aaB hl _).trans s5);simpa using this⟩⟩))))
theorem aN1{X:Cx}{o:Expr}{i:Nat}{pos apos:Pos}{CB CO CJ CM CL CT:Addr}{k k' n:Nat}{pl:Sem Bool}(M:Mb X.prog X.w X.K X.mg X.base CB CO CJ CM CL CT "depth" k (tyD X.K CB CO CJ CM CL CT n))(hr:Room k' X.A)(ho:E X o (az5 i))(hk:k<=k':=by decide)
  (ht:eval (.Call (.Attribute o "depth" apos) [] [] pos) X.env=(do
   let ov ←eval o X.env
   standAt apos.atName
   let (f,first) ←holding [ov] (getMethod ov "depth" pl)
   callWith pos f first (backTo pos (starEach [] X.env)) (backToKw pos (keywordEach [] X.env))):=by rfl):
  E X (.Call (.Attribute o "depth" apos) [] [] pos) (fun σ H Q=>∃v td,σ[i]? =some (some v)/\aaS CB CO CJ CM CL CT (n+1) H v td/\∀H',Same H H'->Q (.int (td.2)) H'):=by
 refine (abE (aeZ M.cB M.dB hr ho hk ht) (abE (aeZ M.cO M.dO hr ho hk ht) (abE (aeZ M.cJ M.dJ hr ho hk ht) (abE (aeZ M.cM M.dM hr ho hk ht) (abE (aeZ M.cL M.dL hr ho hk ht) (aeZ M.cT M.dT hr ho hk ht)))))).as fun σ H Q ⟨v,td,ev,hb,fin⟩=>?_
 obtain⟨x,dx,rfl,hb⟩:=hb
 rcases hb with ⟨e,hx | ⟨r,hx⟩⟩ | ⟨C,t,vs,tds',hC,hx,ht,hp,h0,h8,_,e2,e1⟩ | ⟨v1,v2,a',b',hx,h1,h2,_,e2,e1⟩ | ⟨v1,a',hx,h1,e⟩
 ·rw[show td.2=1 by rw[e]] at fin
  exact .inl ⟨_,ev,x,dx,_,rfl,hx,rfl,x,dx,_,rfl,hx,fin _ (Same.refl _)⟩
 ·rw[show td.2=1 by rw[e]] at fin
  exact .inr (.inl ⟨_,ev,x,dx,_,rfl,hx,lk1 (by decide +kernel),x,dx,_,rfl,hx,fin _ (Same.refl _)⟩)
 ·rcases hC with rfl | rfl
  ·exact .inr (.inr (.inl ⟨_,ev,x,dx,_,rfl,hx,lk1 (by decide +kernel),x,dx,t,rfl,hx,t,vs,tds',rfl,.inr (SqT.of ht),hp,h0,by omega,fun M H5 s5 hM hle=>by rw[show 1+M=td.2 by have:=e2 M hM;have:=hle _ e1;omega];exact fin H5 s5⟩))
  ·exact .inr (.inr (.inr (.inl ⟨_,ev,x,dx,_,rfl,hx,lk1 (by decide +kernel),x,dx,t,rfl,hx,t,vs,tds',rfl,.inr (SqT.of ht),hp,h0,by omega,fun M H5 s5 hM hle=>by rw[show 1+M=td.2 by have:=e2 M hM;have:=hle _ e1;omega];exact fin H5 s5⟩)))
 ·skip
  exact .inr (.inr (.inr (.inr (.inl ⟨_,ev,x,dx,_,rfl,hx,lk2 (by decide +kernel) (by decide +kernel),x,dx,v1,v2,rfl,hx,fun l hl=>⟨l,[v1,v2],[a',b'],rfl,.inl (SqL.of aaA),.cons (aaD (aaB hl _) n h1) (.cons (aaD (aaB hl _) n h2) .nil),(by show 0<2;decide),(by show 2<=9;decide),fun M H5 s5 hM hle=>by
    have m1:=hle a'.2 (by simp)
    have m2:=hle b'.2 (by simp)
    have m3:M=a'.2∨M=b'.2:=by simpa using hM
    rw[show 1+M=td.2 by omega]
    exact fin H5 ((aaB hl _).trans s5)⟩⟩))))
 ·rw[show td.2=1+a'.2 by rw[e]] at fin
  exact .inr (.inr (.inr (.inr (.inr ⟨_,ev,x,dx,_,rfl,hx,lk1 (by decide +kernel),x,dx,v1,rfl,hx,fun l hl=>⟨l,[v1],[a'],rfl,.inl (SqL.of aaA),.cons (aaD (aaB hl _) n h1) .nil,(by show 0<1;decide),(by show 1<=9;decide),fun M H5 s5 hM hle=>by
    have m3:M=a'.2:=by simpa using hM
    rw[m3]
    exact fin H5 ((aaB hl _).trans s5)⟩⟩))))
def Rf(K:PySem.W.Frag)(CR CB CO CJ CM CL CT:Addr)(wd:List Nat)(H:Hp)(v u:V):Prop:=(wd=[111,102]/\IsB K CR H v false)∨(wd=[106,111,105,110]/\afV K CB CO CJ CM CL CT H v)∨(wd=[109,101,101,116]/\afV K CB CO CJ CM CL CT H v)∨(wd=[108,101,115,115]/\Vd K CB CO CJ CM CL CT H [v,u] none)∨(wd=[116,117,114,110]/\Vd K CB CO CJ CM CL CT H [v] none)
theorem aDM{K:PySem.W.Frag}{CB CO CJ CM CL CT:Addr}{H:Hp}{v:V}(h:IsB K CB H v false):Vd K CB CO CJ CM CL CT H [v] none:=.inl ⟨fun z hz=>by rw[List.mem_singleton.mp hz];exact⟨_,h⟩,v,List.mem_singleton.mpr rfl,h⟩
theorem atQ{K:PySem.W.Frag}{CB CO CJ CM CL CT:Addr}{H:Hp}{v u:V}{b b':Bool}(h:IsB K CB H v b)(h':IsB K CB H u b')(z:b=false∨b'=false):Vd K CB CO CJ CM CL CT H [v,u] none:=by
 refine .inl ⟨fun z hz=>?_,?_⟩
 ·rcases List.mem_cons.mp hz with rfl | hz
  ·exact⟨_,h⟩
  ·rw[List.mem_singleton.mp hz]
   exact⟨_,h'⟩
 ·rcases z with rfl | rfl
  ·exact⟨v,List.mem_cons_self ..,h⟩
  ·exact⟨u,List.mem_cons_of_mem _ (List.mem_cons_self ..),h'⟩
theorem ahM{K:PySem.W.Frag}{CB CO CJ CM CL CT:Addr}{H:Hp}{v:V}{td:Int×Int}(h:aaS CB CO CJ CM CL CT 6 H v td)(z:24<1+td.1∨5<=td.2):Vd K CB CO CJ CM CL CT H [v] none:=.inr ⟨[td],.cons h .nil,(by show 0<1;decide),z.imp (fun z=>by simpa using z) fun z=>⟨_,by simp,z⟩⟩
theorem adZ{K:PySem.W.Frag}{CB CO CJ CM CL CT:Addr}{H:Hp}{v u:V}{a b:Int×Int}(h:aaS CB CO CJ CM CL CT 6 H v a)(h':aaS CB CO CJ CM CL CT 6 H u b)(z:24<1+(a.1+b.1)∨5<=a.2∨5<=b.2):Vd K CB CO CJ CM CL CT H [v,u] none:=.inr ⟨[a,b],.cons h (.cons h' .nil),(by show 0<2;decide),z.imp (fun z=>by simpa using z) fun z=>z.elim (fun z=>⟨a.2,by simp,z⟩) fun z=>⟨b.2,by simp,z⟩⟩
theorem ahT{K:PySem.W.Frag}{CB CO CJ CM CL CT:Addr}{H:Hp}{v:V}{td:Int×Int}(h:aaS CB CO CJ CM CL CT 6 H v td)(z:td.1<24/\td.2<5):Vd K CB CO CJ CM CL CT H [v] (some (1+td.1,1+td.2)):=⟨[td],.cons h .nil,(by show 0<1;decide),(by simp),(by show 1+td.1<=24;omega),(by simp;omega),(by simp;omega),(by show 1+td.2<=5;omega)⟩
theorem akT{K:PySem.W.Frag}{CB CO CJ CM CL CT:Addr}{H:Hp}{v u:V}{a b:Int×Int}(h:aaS CB CO CJ CM CL CT 6 H v a)(h':aaS CB CO CJ CM CL CT 6 H u b){t d:Int}(e:t=1+(a.1+b.1))(hd:a.2<d/\b.2<d/\(d-1=a.2∨d-1=b.2))(z:t<=24/\d<=5):Vd K CB CO CJ CM CL CT H [v,u] (some (t,d)):=⟨[a,b],.cons h (.cons h' .nil),(by show 0<2;decide),(by simpa using e),z.1,(fun m hm=>by have:m=a.2∨m=b.2:=(by simpa using hm);show m<d;omega),(by simpa using hd.2.2),z.2⟩
theorem agC{lo hi a:Int}{t:List Nat}(h:0<=lo/\lo<=a/\a<=hi/\hi<=63)(e:num a.toNat=t):FT lo hi t (abV [a]):=by
 have:=akY (ws:=[num a.toNat]) (nss:=[[a]]) (.cons (i1 h.1 h.2.1 h.2.2.1 h.2.2.2) .nil) (List.cons_ne_nil _ _) (by show 1<=20;decide)
 rw[←e]
 exact this
theorem am0{lo hi:Int}(h:0<=lo/\lo<=hi/\hi<=63):FT lo hi [42] (abV (adH lo hi 1)):=by
 have:=akY (ws:=[[42]]) (nss:=[adH lo hi 1]) (.cons (i0 h.1 h.2.1 h.2.2) .nil) (List.cons_ne_nil _ _) (by decide)
 rw[List.flatten_singleton] at this
 exact this
theorem aGF:DT true [49] (some [.wkd 2]):=aMS (ws:=[[49]]) (.cons ⟨by decide,rfl,2,by decide +kernel,by decide,by decide +kernel⟩ .nil) (List.cons_ne_nil _ _) (by decide) (by decide) (fun k hk=>by rw[List.mem_singleton.mp hk];exact⟨rfl,rfl,by decide,by decide⟩)
theorem anN{xs:List V}(h:9<=xs.length):(ac1 xs none (some 9)).length=9:=by
 unfold ac1
 have e1:HT.sIx xs.length 0 none=0:=rfl
 have e2:HT.sIx xs.length xs.length (some 9)=9:=by
  unfold HT.sIx
  simp
  omega
 rw[e1,e2,List.length_take,List.length_drop]
 omega
theorem amV{K:PySem.W.Frag}{CB CO CJ CM CL CT:Addr}{H:Hp}{v:V}{k:Nat}(h:aaS CB CO CJ CM CL CT 6 H v (1,1))(h0:0<k)(h8:k<=8):Vd K CB CO CJ CM CL CT H (List.replicate k [v]).flatten (some (1+(k:Int),2)):=by
 have pr:∀n:Nat,Paired (aaS CB CO CJ CM CL CT 6 H) (List.replicate n [v]).flatten (List.replicate n ((1,1):Int×Int)):=fun n=>by
  induction n with
  |zero=>exact .nil
  |succ n ih=>exact .cons h ih
 have sm:∀n:Nat,((List.replicate n ((1,1):Int×Int)).map Prod.fst).sum=(n:Int):=fun n=>by
  rw[List.map_replicate]
  induction n with
  |zero=>rfl
  |succ n ih=>rw[List.replicate_succ,List.sum_cons,ih];show (1:Int)+n=((n+1:Nat):Int);omega
 refine⟨List.replicate k (1,1),pr k,(by rw[acS];show 0<k*1;omega),?_,?_,fun m hm=>?_,?_,?_⟩
 ·show 1+(k:Int)=_;rw[sm]
 ·show 1+(k:Int)<=24;omega
 ·rw[List.map_replicate] at hm
  rw[(List.mem_replicate.mp hm).2]
  show (1:Int)<2
  decide
 ·rw[List.map_replicate]
  exact List.mem_replicate.mpr ⟨by omega,rfl⟩
 ·show (2:Int)<=5;decide
theorem afF{K:PySem.W.Frag}{CB CO CJ CM CL CT:Addr}{H:Hp}{us:List V}{m:Int}(h:Paired (aaS CB CO CJ CM CL CT 6 H) us [(9,2),(9,2),(m-19,2)])(hm:m<=24):Vd K CB CO CJ CM CL CT H us (some (m,3)):=by
 refine⟨_,h,(by rw[Paired.length h];show 0<3;decide),?_,hm,fun z hz=>?_,?_,?_⟩
 ·show m=1+(9+(9+(m-19+0)));omega
 ·have:z=2:=by simpa using hz
  rw[this]
  show (2:Int)<3
  decide
 ·show (3:Int)-1∈[(2:Int),2,2];decide
 ·show (3:Int)<=5;decide
theorem ak3{K:PySem.W.Frag}{CB CO CJ CM CL CT:Addr}{H:Hp}{us:List V}{a:Addr}(hS:SqL K H a us)(h:Paired (aaS CB CO CJ CM CL CT 6 H) us [(9,2),(9,2),(25-19,2)]):afV K CB CO CJ CM CL CT H (.ref a):=by
 have ln:us.length=3:=Paired.length h
 refine .inr ⟨a,us,rfl,hS,by omega,.inr (.inr ⟨_,h,by omega,.inl ?_⟩)⟩
 show (24:Int)<1+(9+(9+(25-19+0)))
 decide
theorem adC{K:PySem.W.Frag}{CB CO CJ CM CL CT:Addr}{H:Hp}{us:List V}{a:Addr}(hS:SqL K H a us)(hl:us.length<=9)(h:Vd K CB CO CJ CM CL CT H us none):afV K CB CO CJ CM CL CT H (.ref a):=.inr ⟨a,us,rfl,hS,hl,.inr h⟩
theorem awR{d0 d1 d2 d3 d4 mn:Int}(hm:mn=4∨mn=5)(h1:0<=d1/\d1<4)(h2:0<=d2/\d2<4)(h3:0<=d3/\d3<4)(h4:0<=d4/\d4<4):∃us:List Int,ac1 [.int d0,.int d1,.int d2,.int d3,.int d4] (some 1) (some mn)=us.map V.int/\(∀d∈us,0<=d/\d<4)/\(us.length:Int)=mn-1:=by
 rcases hm with rfl | rfl
 ·exact⟨[d1,d2,d3],rfl,fun d hd=>by simp at hd;rcases hd with rfl | rfl | rfl<;>assumption,rfl⟩
 ·exact⟨[d1,d2,d3,d4],rfl,fun d hd=>by simp at hd;rcases hd with rfl | rfl | rfl | rfl<;>assumption,rfl⟩
theorem aeF{CB CO CJ CM CL CT:Addr}{n:Nat}{H:Hp}{v:V}{t t' d d':Int}(h:aaS CB CO CJ CM CL CT n H v (t,d))(e1:t=t')(e2:d=d'):aaS CB CO CJ CM CL CT n H v (t',d'):=by rw[←e1,←e2];exact h
theorem adL{CB CO CJ CM CL CT:Addr}{H:Hp}{p:Addr}{l l':List V}(hp:H p=some (.lst l)):∀(n:Nat) {v:V} {td:Int×Int},aaS CB CO CJ CM CL CT n H v td->aaS CB CO CJ CM CL CT n (upd H p (.lst l')) v td
 |0,_,_,h=>h
 |n+1,_,_,h=>by
  obtain⟨x,dx,rfl,h⟩:=h
  have up:∀{b:Addr} {o:HO},H b=some o->(∀l,o≠ .lst l)->upd H p (.lst l') b=some o:=fun hb ho=>by
   rw[aaE (fun e=>by rw[e,hp] at hb;exact ho _ (Option.some.inj hb).symm)]
   exact hb
  refine⟨x,dx,rfl,?_⟩
  rcases h with ⟨e,hx | ⟨r,hx⟩⟩ | ⟨C,t,vs,tds',hC,hx,ht,hq,z⟩ | ⟨v1,v2,a',b',hx,h1,h2,z⟩ | ⟨v1,a',hx,h1,e⟩
  ·exact .inl ⟨e,.inl (up hx fun _ z=>nomatch z)⟩
  ·exact .inl ⟨e,.inr ⟨r,up hx fun _ z=>nomatch z⟩⟩
  ·exact .inr (.inl ⟨C,t,vs,tds',hC,up hx (fun _ z=>nomatch z),up ht (fun _ z=>nomatch z),Paired.mapP hq fun _ _ z=>adL hp n z,z⟩)
  ·exact .inr (.inr (.inl ⟨v1,v2,a',b',up hx (fun _ z=>nomatch z),adL hp n h1,adL hp n h2,z⟩))
  ·exact .inr (.inr (.inr ⟨v1,a',up hx (fun _ z=>nomatch z),adL hp n h1,e⟩))
theorem av9{K:PySem.W.Frag}{CB CO CJ CM CL CT:Addr}{H:Hp}{v:V}(h:aaS CB CO CJ CM CL CT 6 H v (9,2)):Vd K CB CO CJ CM CL CT H [v,v,v] none:=.inr ⟨[(9,2),(9,2),(9,2)],.cons h (.cons h (.cons h .nil)),(by show 0<3;decide),.inl (by decide)⟩
theorem axO{d:Int}(h0:0<=d)(h1:d<5):∃wd:List Nat,atI [.str (Tx [111,102]),.str (Tx [106,111,105,110]),.str (Tx [109,101,101,116]),.str (Tx [108,101,115,115]),.str (Tx [116,117,114,110])] d=some (V.str (Tx wd))/\(wd=[111,102]∨wd=[106,111,105,110]∨wd=[109,101,101,116]∨wd=[108,101,115,115]∨wd=[116,117,114,110]):=by
 obtain⟨n,rfl⟩:∃n:Nat,d=n:=⟨d.toNat,by omega⟩
 match n,h1 with
 |0,_=>exact⟨_,rfl,.inl rfl⟩
 |1,_=>exact⟨_,rfl,.inr (.inl rfl)⟩
 |2,_=>exact⟨_,rfl,.inr (.inr (.inl rfl))⟩
 |3,_=>exact⟨_,rfl,.inr (.inr (.inr (.inl rfl)))⟩
 |4,_=>exact⟨_,rfl,.inr (.inr (.inr (.inr rfl)))⟩
 |n+5,h=>exact absurd h (by have:((n+5:Nat):Int)=(n:Int)+5:=rfl;omega)
theorem atZ{K:PySem.W.Frag}{CB CO CJ CM CL CT:Addr}{H:Hp}{xo xb xt:Addr}{d:Int}(h0:0<=d)(h1:d<3)(ho:aaS CB CO CJ CM CL CT 6 H (.ref xo) (1,1))(hb:aaS CB CO CJ CM CL CT 6 H (.ref xb) (1,1))(ht:aaS CB CO CJ CM CL CT 6 H (.ref xt) (2,2)):∃(ps:List Addr) (tds:List (Int×Int)) (dp:Int),ac1 [.ref xo,.ref xb,.ref xt] none (some (1+d))=ps.map V.ref/\Paired (aaS CB CO CJ CM CL CT 6 H) (ps.map V.ref) tds/\(1<=ps.length/\ps.length<=3)/\(∀m∈tds.map Prod.snd,m<=5)/\Vd K CB CO CJ CM CL CT H (ps.map V.ref) (some (1+(tds.map Prod.fst).sum,dp)):=by
 have key:∀{us:List V} {tds:List (Int×Int)} {dp:Int},Paired (aaS CB CO CJ CM CL CT 6 H) us tds->0<us.length->1+(tds.map Prod.fst).sum<=24->(∀m∈tds.map Prod.snd,m<dp)->dp-1∈tds.map Prod.snd->dp<=5->Vd K CB CO CJ CM CL CT H us (some (1+(tds.map Prod.fst).sum,dp)):=fun a b c d e f=>⟨_,a,b,rfl,c,d,e,f⟩
 obtain⟨n,rfl⟩:∃n:Nat,d=n:=⟨d.toNat,by omega⟩
 match n,h1 with
 |0,_=>exact⟨[xo],[(1,1)],2,rfl,.cons ho .nil,⟨by show 1<=1;decide,by show 1<=3;decide⟩,by decide,key (.cons ho .nil) (by show 0<1;decide) (by decide) (by decide) (by decide) (by decide)⟩
 |1,_=>exact⟨[xo,xb],[(1,1),(1,1)],2,rfl,.cons ho (.cons hb .nil),⟨by show 1<=2;decide,by show 2<=3;decide⟩,by decide,key (.cons ho (.cons hb .nil)) (by show 0<2;decide) (by decide) (by decide) (by decide) (by decide)⟩
 |2,_=>exact⟨[xo,xb,xt],[(1,1),(1,1),(2,2)],3,rfl,.cons ho (.cons hb (.cons ht .nil)),⟨by show 1<=3;decide,by show 3<=3;decide⟩,by decide,key (.cons ho (.cons hb (.cons ht .nil))) (by show 0<3;decide) (by decide) (by decide) (by decide) (by decide)⟩
 |n+3,h=>exact absurd h (by have:((n+3:Nat):Int)=(n:Int)+3:=rfl;omega)
def aiP(K:PySem.W.Frag):Sp:=fun vs H Q _=>∃l:List Nat,vs=[.str (Tx l)]/\l.length<=2000/\∀H',Same H H'->Q (.bl (alN l)) H'
def ai7(K:PySem.W.Frag):Sp:=fun vs H Q _=>∃l:List Nat,vs=[.str (Tx l)]/\l.length<=2000/\∀H',Same H H'->Q (.bl (isW l)) H'
def aLA(K:PySem.W.Frag):Sp:=fun vs H Q _=>∃m n:Int,vs=[.int m,.int n]/\(0<=m/\0<=n)/\Q (.bl (tb m n.toNat)) H
def amL(K:PySem.W.Frag):Sp:=fun vs H Q _=>∃(a:Addr) (zs:List Int),vs=[.ref a]/\SqL K H a (zs.map V.int)/\(∀z∈zs,0<=z/\z<=100000)/\Q (.int (abV zs)) H
def ai0(K:PySem.W.Frag):Sp:=fun vs H Q _=>∃m:Int,vs=[.int m]/\(0<=m/\Builtin.Int.intBits m<=100000)/\∀(p:Addr) (H':Hp),Same H H'->H' p=some (.lst ((aCT m).map V.int))->Q (.ref p) H'
def alL(K:PySem.W.Frag):Sp:=fun vs H Q _=>∃a b s:Int,vs=[.int a,.int b,.int s]/\(0<=a/\a<=1000)/\(-1<=b/\b<=1000)/\(0<s/\s<=1000)/\∀H',Same H H'->Q (.int (ahD a b s)) H'
def aiN(K:PySem.W.Frag):Sp:=fun vs H Q _=>∃(l:List Nat) (lo hi:Int),vs=[.str (Tx l),.int lo,.int hi]/\l.length<=600/\∀H',Same H H'->Q (oV (aaU lo hi l)) H'
def al9(K:PySem.W.Frag):Sp:=fun vs H Q _=>∃(l:List Nat) (lo hi:Int),vs=[.str (Tx l),.int lo,.int hi]/\l.length<=500/\∀(r:V) (H':Hp),Same H H'->RunV H' r (aaV lo hi l)->Q r H'
def agY(K:PySem.W.Frag):Sp:=fun vs H Q _=>∃(r s:List Nat) (lo hi:Int),vs=[.str (Tx r),.str (Tx s),.int lo,.int hi]/\r.length<=400/\s.length<=400/\(0<=lo/\lo<=hi/\hi<=1000)/\∀H',Same H H'->Q (oV (abB lo hi r s)) H'
def akC(K:PySem.W.Frag):Sp:=fun vs H Q _=>∃(l:List Nat) (lo hi:Int),vs=[.str (Tx l),.int lo,.int hi]/\l.length<=300/\(0<=lo/\lo<=hi/\hi<=1000)/\∀H',Same H H'->Q (oV (aaG lo hi l)) H'
def aiX(K:PySem.W.Frag):Sp:=fun vs H Q _=>∃(l:List Nat) (lo hi:Int),vs=[.str (Tx l),.int lo,.int hi]/\l.length<=300/\(0<=lo/\lo<=hi/\hi<=1000)/\anR lo hi l/\∀H',Same H H'->Q (.int (orM (acO lo hi l))) H'
def ad7(K:PySem.W.Frag)(C:Addr):Sp:=fun vs H Q _=>∃(p dx:Addr) (m:Int),vs=[.ref p,.int m]/\H p=some (.ins C dx [])/\Q .non (upd H p (.ins C dx [("mask",.int m)]))
def afT(K:PySem.W.Frag)(C:Addr):Sp:=fun vs H Q _=>∃(p dx:Addr) (m:Int),vs=[.ref p,.int m]/\H p=some (.ins C dx [])/\Q .non (upd H p (.ins C dx [("back",.int m)]))
def afZ(K:PySem.W.Frag)(C:Addr):Sp:=fun vs H Q _=>∃(p dx:Addr) (m:Int),vs=[.ref p,.int m]/\H p=some (.ins C dx [])/\Q .non (upd H p (.ins C dx [("day",.int m)]))
def adY(K:PySem.W.Frag)(C:Addr):Sp:=fun vs H Q _=>∃(p dx:Addr) (m:Int),vs=[.ref p,.int m]/\H p=some (.ins C dx [])/\Q .non (upd H p (.ins C dx [("mask",.int m)]))
def ahA(K:PySem.W.Frag)(C:Addr):Sp:=fun vs H Q _=>∃(p dx:Addr) (w m:Int),vs=[.ref p,.int w,.int m]/\H p=some (.ins C dx [])/\Q .non (upd (upd H p (.ins C dx (aaP "weekday" (.int w) []))) p (.ins C dx (aOP w m)))
def ad9(K:PySem.W.Frag)(C:Addr):Sp:=fun vs H Q _=>∃(p dx:Addr) (m:Int),vs=[.ref p,.int m]/\H p=some (.ins C dx [])/\Q .non (upd H p (.ins C dx [("weekday",.int m)]))
def af5(K:PySem.W.Frag)(C_Numbers:Addr)(C_Last:Addr)(C_Near:Addr)(C_LastWork:Addr)(C_Weekdays:Addr)(C_Nth:Addr)(C_LastOne:Addr)(C_Mark:Addr):Sp:=fun vs H Q _=>∃t:List Nat,vs=[.str (Tx t)]/\t.length<=300/\∀(v:V) (H':Hp),Same H H'->MkV (⟨C_Numbers,C_Last,C_Near,C_LastWork,C_Weekdays,C_Nth,C_LastOne,C_Mark⟩:Cs) H' v (acF t)->Q v H'
def agW(K:PySem.W.Frag):Sp:=fun vs H Q _=>∃t:List Nat,vs=[.str (Tx t)]/\t.length<=300/\∀H',Same H H'->Q (oV (wdN t)) H'
def ac6(K:PySem.W.Frag)(C_Numbers:Addr)(C_Last:Addr)(C_Near:Addr)(C_LastWork:Addr)(C_Weekdays:Addr)(C_Nth:Addr)(C_LastOne:Addr)(C_Mark:Addr):Sp:=fun vs H Q _=>∃t:List Nat,vs=[.str (Tx t)]/\t.length<=300/\∀(v:V) (H':Hp),Same H H'->MkV (⟨C_Numbers,C_Last,C_Near,C_LastWork,C_Weekdays,C_Nth,C_LastOne,C_Mark⟩:Cs) H' v (akS t)->Q v H'
def ai4(K:PySem.W.Frag)(C_Numbers:Addr)(C_Last:Addr)(C_Near:Addr)(C_LastWork:Addr)(C_Weekdays:Addr)(C_Nth:Addr)(C_LastOne:Addr)(C_Mark:Addr)(C_read_day_mark:Addr)(C_read_weekday_mark:Addr):Sp:=fun vs H Q _=>∃(l:List Nat) (lo hi:Int) (wk:Bool),vs=[.str (Tx l),.int lo,.int hi,.ref (if wk=true then C_read_weekday_mark else C_read_day_mark)]/\(0<=lo/\lo<=hi/\hi<=1000)/\ItemsOk wk lo hi l/\∀(p m:Addr) (qs:List Addr) (H':Hp),H m=none->Same H H'->H' p=some (.tup [.int (orM (plP lo hi (spl 44 l))),.ref m])->H' m=some (.lst (qs.map V.ref))->Ft (MkAt (⟨C_Numbers,C_Last,C_Near,C_LastWork,C_Weekdays,C_Nth,C_LastOne,C_Mark⟩:Cs) H') qs (mkP wk lo hi (spl 44 l))->Q (.ref p) H'
def akP(K:PySem.W.Frag)(C_Numbers:Addr)(C_Last:Addr)(C_Near:Addr)(C_LastWork:Addr)(C_Weekdays:Addr)(C_Nth:Addr)(C_LastOne:Addr)(C_Mark:Addr):Sp:=fun vs H Q _=>∃l:List Nat,vs=[.str (Tx l)]/\ItemsOk false 1 31 l/\(l=[42]->∀H',Same H H'->Q .non H')/\(l≠[42]->∀(m:Addr) (qs:List Addr) (H':Hp),H m=none->Same H H'->H' m=some (.lst (qs.map V.ref))->Ft (MkAt (⟨C_Numbers,C_Last,C_Near,C_LastWork,C_Weekdays,C_Nth,C_LastOne,C_Mark⟩:Cs) H') qs (aiF false 1 31 l)->Q (.ref m) H')
def af8(K:PySem.W.Frag)(C_Numbers:Addr)(C_Last:Addr)(C_Near:Addr)(C_LastWork:Addr)(C_Weekdays:Addr)(C_Nth:Addr)(C_LastOne:Addr)(C_Mark:Addr):Sp:=fun vs H Q _=>∃l:List Nat,vs=[.str (Tx l)]/\ItemsOk true 0 7 l/\(l=[42]->∀H',Same H H'->Q .non H')/\(l≠[42]->∀(m:Addr) (qs:List Addr) (H':Hp),H m=none->Same H H'->H' m=some (.lst (qs.map V.ref))->Ft (MkAt (⟨C_Numbers,C_Last,C_Near,C_LastWork,C_Weekdays,C_Nth,C_LastOne,C_Mark⟩:Cs) H') qs (aiF true 0 7 l)->Q (.ref m) H')
def amG(K:PySem.W.Frag):Sp:=fun vs H Q _=>∃h m:Int,vs=[.int h,.int m]/\(0<=h/\h<2^24)/\(0<=m/\m<2^60)/\∀(t:Int) (H':Hp),0<=t->Same H H'->Q (.int t) H'
def ag4(K:PySem.W.Frag)(C:Addr):Sp:=fun vs H Q _=>∃(p dx fa:Addr) (m0 m1 m3:Int) (dv wv:V),vs=[.ref p,.ref fa]/\H p=some (.ins C dx [])/\H fa=some (.lst [.int m0,.int m1,dv,.int m3,wv])/\(0<=m0/\m0<2^60)/\(0<=m1/\m1<2^24)/\∀(tm:Int) (H':Hp),H' p=some (.ins C dx (amH m0 m1 dv m3 wv tm))->(∀b o,H b=some o->b≠p->H' b=some o)->Q .non H'
def aj6(K:PySem.W.Frag)(C_Numbers:Addr)(C_Last:Addr)(C_Near:Addr)(C_LastWork:Addr)(C_Weekdays:Addr)(C_Nth:Addr)(C_LastOne:Addr)(C_Mark:Addr):Sp:=fun vs H Q _=>∃(t:List Nat) (pl:Int),vs=[.str (Tx t),.int pl]/\((pl=2/\∃ko,DT false t ko/\∀(v:V) (H':Hp),Same H H'->DV (⟨C_Numbers,C_Last,C_Near,C_LastWork,C_Weekdays,C_Nth,C_LastOne,C_Mark⟩:Cs) H' v (gO false ko)->(∀p,v=.ref p->H p=none)->Q v H')∨(pl=4/\∃ko,DT true t ko/\∀(v:V) (H':Hp),Same H H'->DV (⟨C_Numbers,C_Last,C_Near,C_LastWork,C_Weekdays,C_Nth,C_LastOne,C_Mark⟩:Cs) H' v (gO true ko)->(∀p,v=.ref p->H p=none)->Q v H')∨(∃lo hi m:Int,(pl=0/\lo=0/\hi=59∨pl=1/\lo=0/\hi=23∨pl=3/\lo=1/\hi=12)/\FT lo hi t m/\∀H',Same H H'->Q (.int m) H'))
def amO(K:PySem.W.Frag)(C_Numbers:Addr)(C_Last:Addr)(C_Near:Addr)(C_LastWork:Addr)(C_Weekdays:Addr)(C_Nth:Addr)(C_LastOne:Addr)(C_Mark:Addr):Sp:=fun vs H Q _=>∃(t:List Nat) (pl:Int),vs=[.str (Tx t),.int pl]/\((pl=2/\∃ko,DT false t ko/\∀(v:V) (H':Hp),Same H H'->DV (⟨C_Numbers,C_Last,C_Near,C_LastWork,C_Weekdays,C_Nth,C_LastOne,C_Mark⟩:Cs) H' v (gO false ko)->(∀p,v=.ref p->H p=none)->Q v H')∨(pl=4/\∃ko,DT true t ko/\∀(v:V) (H':Hp),Same H H'->DV (⟨C_Numbers,C_Last,C_Near,C_LastWork,C_Weekdays,C_Nth,C_LastOne,C_Mark⟩:Cs) H' v (gO true ko)->(∀p,v=.ref p->H p=none)->Q v H')∨(∃lo hi m:Int,(pl=0/\lo=0/\hi=59∨pl=1/\lo=0/\hi=23∨pl=3/\lo=1/\hi=12)/\FT lo hi t m/\∀H',Same H H'->Q (.int m) H'))
def amB(K:PySem.W.Frag)(C_Numbers:Addr)(C_Last:Addr)(C_Near:Addr)(C_LastWork:Addr)(C_Weekdays:Addr)(C_Nth:Addr)(C_LastOne:Addr)(C_Mark:Addr)(C_Row:Addr):Sp:=fun vs H Q _=>∃(w0 w1 w2 w3 w4:List Nat) (m0 m1 m3:Int) (kd kw:Option (List Mk)),vs=[.str (Tx (abM 32 [w0,w1,w2,w3,w4]))]/\FT 0 59 w0 m0/\FT 0 23 w1 m1/\FT 1 12 w3 m3/\DT false w2 kd/\DT true w4 kw/\(m0<2^60/\m1<2^24)/\∀(x dx:Addr) (dv wv:V) (tm:Int) (H':Hp),Same H H'->H' x=some (.ins C_Row dx (amH m0 m1 dv m3 wv tm))->DV (⟨C_Numbers,C_Last,C_Near,C_LastWork,C_Weekdays,C_Nth,C_LastOne,C_Mark⟩:Cs) H' dv (gO false kd)->DV (⟨C_Numbers,C_Last,C_Near,C_LastWork,C_Weekdays,C_Nth,C_LastOne,C_Mark⟩:Cs) H' wv (gO true kw)->Q (.ref x) H'
def alT(K:PySem.W.Frag)(C_Book:Addr)(C_Of:Addr)(C_Joined:Addr)(C_Met:Addr)(C_Less:Addr)(C_Turned:Addr):Sp:=fun vs H Q _=>tyT K C_Book C_Of C_Joined C_Met C_Less C_Turned 6 vs H Q E0
def alV(K:PySem.W.Frag)(C_Book:Addr)(C_Of:Addr)(C_Joined:Addr)(C_Met:Addr)(C_Less:Addr)(C_Turned:Addr):Sp:=fun vs H Q _=>tyD K C_Book C_Of C_Joined C_Met C_Less C_Turned 6 vs H Q E0
def am6(K:PySem.W.Frag)(C_NoBook:Addr)(C_Book:Addr)(C_Of:Addr)(C_Joined:Addr)(C_Met:Addr)(C_Less:Addr)(C_Turned:Addr):Sp:=fun vs H Q E=>aM9 K C_NoBook C_Book C_Of C_Joined C_Met C_Less C_Turned vs H Q E
def ag7(K:PySem.W.Frag)(C_NoBook:Addr)(C_Book:Addr)(C_Of:Addr)(C_Joined:Addr)(C_Met:Addr)(C_Less:Addr)(C_Turned:Addr):Sp:=fun vs H Q E=>aOO K C_NoBook C_Book C_Of C_Joined C_Met C_Less C_Turned vs H Q E
def ah8(K:PySem.W.Frag)(C:Addr)(C_NoBook:Addr)(C_Row:Addr):Sp:=fun vs H Q E=>aFY K C C_NoBook C_Row vs H Q E
def ae0(K:PySem.W.Frag)(C:Addr)(C_NoBook:Addr)(C_Book:Addr)(C_Of:Addr)(C_Joined:Addr)(C_Met:Addr)(C_Less:Addr)(C_Turned:Addr):Sp:=fun vs H Q E=>aEM K C C_NoBook C_Book C_Of C_Joined C_Met C_Less C_Turned vs H Q E
def ag9(K:PySem.W.Frag)(C:Addr)(C_NoBook:Addr)(C_Book:Addr)(C_Of:Addr)(C_Joined:Addr)(C_Met:Addr)(C_Less:Addr)(C_Turned:Addr):Sp:=fun vs H Q E=>aEM K C C_NoBook C_Book C_Of C_Joined C_Met C_Less C_Turned vs H Q E
def af4(K:PySem.W.Frag)(C:Addr)(C_NoBook:Addr)(C_Book:Addr)(C_Of:Addr)(C_Joined:Addr)(C_Met:Addr)(C_Less:Addr)(C_Turned:Addr):Sp:=fun vs H Q E=>aIC K C C_NoBook C_Book C_Of C_Joined C_Met C_Less C_Turned vs H Q E
def aeR(K:PySem.W.Frag)(C:Addr)(C_NoBook:Addr)(C_Book:Addr)(C_Of:Addr)(C_Joined:Addr)(C_Met:Addr)(C_Less:Addr)(C_Turned:Addr):Sp:=fun vs H Q E=>aGZ K C C_NoBook C_Book C_Of C_Joined C_Met C_Less C_Turned vs H Q E
def ahC(K:PySem.W.Frag):Sp:=fun vs H Q _=>∃(a:Addr) (k:Int),vs=[.ref a,.int k]/\(∃ns:List Int,SqL K H a (ns.map V.int))/\(0<=k/\k<1000)/\∀c:Int,Q (.int c) H
def akE(K:PySem.W.Frag):Sp:=fun vs H Q _=>∃n:Int,vs=[.int n]/\∀r:Int,0<=r->r<2147483629->Q (.int r) H
def aiA(K:PySem.W.Frag):Sp:=fun vs H Q _=>∃(c:Int) (a:Addr) (b:Bool) (ss:List Int),vs=[.int c,.ref a,.bl b]/\SqL K H a (ss.map V.int)/\(∀z∈ss,0<z/\z<1073741824)/\ss.length<=63/\∀(ds:List Int) (p:Addr) (H':Hp),Same H H'->H' p=some (.lst (ds.map V.int))->Digs ds ss->Q (.ref p) H'
def akB(K:PySem.W.Frag)(C_NoBook:Addr)(C_Row:Addr)(C_Book:Addr)(C_Of:Addr)(C_Joined:Addr)(C_Met:Addr)(C_Less:Addr)(C_Turned:Addr):Sp:=fun vs H Q E=>∃(wd:List Nat) (v u:V),vs=[.str (Tx wd),v,u]/\Rf K C_Row C_Book C_Of C_Joined C_Met C_Less C_Turned wd H v u/\∀H',Same H H'->E (.ref C_NoBook) none H'
def agV(K:PySem.W.Frag)(C_NoBook:Addr)(C_Row:Addr)(C_Book:Addr)(C_Of:Addr)(C_Joined:Addr)(C_Met:Addr)(C_Less:Addr)(C_Turned:Addr):Sp:=fun vs H Q _=>∃(wd:List Nat) (v u:V),vs=[.str (Tx wd),v,u]/\Rf K C_Row C_Book C_Of C_Joined C_Met C_Less C_Turned wd H v u/\∀H',Same H H'->Q (.bl true) H'
def alW(K:PySem.W.Frag)(C_NoBook:Addr)(C_Row:Addr)(C_Book:Addr)(C_Of:Addr)(C_Joined:Addr)(C_Met:Addr)(C_Less:Addr)(C_Turned:Addr):Sp:=fun vs H Q _=>∃w:Int,vs=[.int w]/\(0<=w/\w<10)/\∀(v:V) (H':Hp),Same H H'->IsB K C_Book H' v false->(w≠1->IsB K C_Row H' v false)->Q v H'
def acM(K:PySem.W.Frag)(C_Row:Addr)(C_Book:Addr)(C_Of:Addr)(C_Joined:Addr)(C_Met:Addr)(C_Less:Addr)(C_Turned:Addr):Sp:=fun vs H Q _=>∃(w at_:Int) (od:V) (s:Addr) (us:List V) (tds:List (Int×Int)),vs=[.int w,.int at_,od,.ref s]/\(0<=w/\w<8)/\(0<=at_/\at_<4)/\IsB K C_Book H od false/\H s=some (.lst us)/\Paired (aaS C_Book C_Of C_Joined C_Met C_Less C_Turned 6 H) us tds/\(1<=us.length/\us.length<=3)/\∀(v:V) (H':Hp),Same H H'->afV K C_Book C_Of C_Joined C_Met C_Less C_Turned H' v->Q v H'
def akW(K:PySem.W.Frag)(C_NoBook:Addr)(C_Row:Addr)(C_Book:Addr)(C_Of:Addr)(C_Joined:Addr)(C_Met:Addr)(C_Less:Addr)(C_Turned:Addr):Sp:=fun vs H Q _=>∃(wa:Addr) (d0 d1 d2 d3 d4 mn:Int),vs=[.ref wa,.int mn]/\H wa=some (.lst [.int d0,.int d1,.int d2,.int d3,.int d4])/\((0<=d0/\d0<4)/\(0<=d1/\d1<4)/\(0<=d2/\d2<4)/\(0<=d3/\d3<4)/\(0<=d4/\d4<4))/\(mn=4∨mn=5)/\∀(v:V) (t:Int) (H':Hp),Same H H'->aaS C_Book C_Of C_Joined C_Met C_Less C_Turned 6 H' v (t,mn)->t<=9->Q v H'
def akK(K:PySem.W.Frag)(C_NoBook:Addr)(C_Book:Addr)(C_Of:Addr)(C_Joined:Addr)(C_Met:Addr)(C_Less:Addr)(C_Turned:Addr):Sp:=fun vs H Q _=>∃mn:Int,vs=[.int mn]/\(22<=mn/\mn<=25)/\∀(p:Addr) (us:List V) (H':Hp),Same H H'->H' p=some (.lst us)->Paired (aaS C_Book C_Of C_Joined C_Met C_Less C_Turned 6 H') us [(9,2),(9,2),(mn-19,2)]->Q (.ref p) H'
def ae6(K:PySem.W.Frag)(C_Book:Addr)(C_Of:Addr)(C_Joined:Addr)(C_Met:Addr)(C_Less:Addr)(C_Turned:Addr):Sp:=fun vs H Q _=>∃(v:V) (t d:Int),vs=[v,.int t,.int d]/\aaS C_Book C_Of C_Joined C_Met C_Less C_Turned 6 H v (t,d)/\∀H',Same H H'->Q (.bl true) H'
def aeV(K:PySem.W.Frag)(C_NoBook:Addr)(C_Row:Addr)(C_Book:Addr)(C_Of:Addr)(C_Joined:Addr)(C_Met:Addr)(C_Less:Addr)(C_Turned:Addr):Sp:=fun vs H Q _=>∃(wa:Addr) (d0 d1 d2 d3 d4:Int),vs=[.ref wa]/\H wa=some (.lst [.int d0,.int d1,.int d2,.int d3,.int d4])/\((0<=d0/\d0<4)/\(0<=d1/\d1<4)/\(0<=d2/\d2<4)/\(0<=d3/\d3<4)/\(0<=d4/\d4<4))/\∀H',Same H H'->Q (.bl true) H'
def ae3(K:PySem.W.Frag)(C_NoBook:Addr)(C_Row:Addr)(C_Book:Addr)(C_Of:Addr)(C_Joined:Addr)(C_Met:Addr)(C_Less:Addr)(C_Turned:Addr):Sp:=fun vs H Q _=>vs=[]/\∀H',Same H H'->Q (.bl true) H'
def aiY(K:PySem.W.Frag)(C_NoBook:Addr)(C_Row:Addr)(C_Book:Addr)(C_Of:Addr)(C_Joined:Addr)(C_Met:Addr)(C_Less:Addr)(C_Turned:Addr):Sp:=fun vs H Q _=>vs=[]/\∀H',Same H H'->Q (.bl true) H'
def sp_law(K:PySem.W.Frag):Sp:=fun vs H Q _=>∃(a:Addr) (ns:List Int),vs=[.ref a]/\SqL K H a (ns.map V.int)/\ns.length<=63/\∀H',Q (.bl true) H'
theorem md_Last___init__{K:PySem.W.Frag}{C f T:Addr}{od an tod:Option Addr}{sl tsl:Array (Option Value)}{oc kV dc pm cd ct:Value}{tn:Nat}{t0:Tok}(a:PySem.W.findIn K (.ref C) "__init__"=some (some (.ref f)))(i:PySem.W.isFn K (.ref f)=true)(l:K.lookup f=some ⟨oc,od,.func (PySem.W.fnOf "__init__" "Last.__init__" (aa9 aa1) (aaT aa1) (aaC aa1) (.ref T) kV dc pm an cd ct),sl⟩)(c:PySem.W.codeIn K cd "Last.__init__"=true)(k:PySem.W.keepIn K (.ref f)=true)(lt:K.lookup T=some ⟨.type "tuple",tod,.seq #[.int 0 t0] tn,tsl⟩):FnMD K C "__init__" "Last.__init__" aa1 ["self","back"] [.int 0]:=
 aDB (ds:=[.int 0 t0]) a i l c k (fun s us X hl=>match us,(show us.length=2 by simpa using hl) with | [_,_],_=>PySem.W.binds_K X rfl lt rfl rfl rfl) (.cons ⟨_,rfl⟩ .nil) (fun s us X hl=>match us,(show us.length=1 by simpa using hl) with | [_],_=>PySem.W.binds_K X rfl lt rfl rfl rfl)
theorem q_BOUNDS{K:PySem.W.Frag}{a b0 b1 b3:Addr}{ep:Nat}{t0 t1 t3:Tok}(l:K.lookup a=some ⟨.type "dict",none,.dict #[⟨0,.int 0 t0,.ref b0⟩,⟨1,.int 1 t1,.ref b1⟩,⟨3,.int 3 t3,.ref b3⟩] ep,#[]⟩):KD K a [(0,.ref b0),(1,.ref b1),(3,.ref b3)]:=by
 refine⟨_,ep,[(.inl 0,.ref b0),(.inl 1,.ref b1),(.inl 3,.ref b3)],l,(.cons ⟨rfl,rfl⟩ (.cons ⟨rfl,rfl⟩ (.cons ⟨rfl,rfl⟩ .nil))),(show ([.inl 0,.inl 1,.inl 3]:List Key).Nodup by decide),fun P w=>⟨?_,(.cons rfl rfl (.cons rfl rfl (.cons rfl rfl .nil)))⟩⟩
 intro e he
 simp only[Array.mem_toArray,List.mem_cons,List.not_mem_nil,or_false] at he
 rcases he with rfl | rfl | rfl
 ·exact⟨.inl 0,rfl,rfl⟩
 ·exact⟨.inl 1,rfl,rfl⟩
 ·exact⟨.inl 3,rfl,rfl⟩
theorem q_BOUNDS_0{K:PySem.W.Frag}{a:Addr}{od:Option Addr}{sl:Array (Option Value)}{n:Nat}{t0 t1:Tok}(l:K.lookup a=some ⟨.type "tuple",od,.seq #[.int 0 t0,.int 59 t1] n,sl⟩):∀H,SqT K H a (([0,59]:List Int).map V.int):=fun H=>.inr ⟨_,_,_,l,rfl,rfl,(by show 2<=sizeLine;decide),(.cons ⟨_,rfl⟩ (.cons ⟨_,rfl⟩ .nil))⟩
theorem q_BOUNDS_1{K:PySem.W.Frag}{a:Addr}{od:Option Addr}{sl:Array (Option Value)}{n:Nat}{t0 t1:Tok}(l:K.lookup a=some ⟨.type "tuple",od,.seq #[.int 0 t0,.int 23 t1] n,sl⟩):∀H,SqT K H a (([0,23]:List Int).map V.int):=fun H=>.inr ⟨_,_,_,l,rfl,rfl,(by show 2<=sizeLine;decide),(.cons ⟨_,rfl⟩ (.cons ⟨_,rfl⟩ .nil))⟩
theorem q_BOUNDS_3{K:PySem.W.Frag}{a:Addr}{od:Option Addr}{sl:Array (Option Value)}{n:Nat}{t0 t1:Tok}(l:K.lookup a=some ⟨.type "tuple",od,.seq #[.int 1 t0,.int 12 t1] n,sl⟩):∀H,SqT K H a (([1,12]:List Int).map V.int):=fun H=>.inr ⟨_,_,_,l,rfl,rfl,(by show 2<=sizeLine;decide),(.cons ⟨_,rfl⟩ (.cons ⟨_,rfl⟩ .nil))⟩
theorem mg_tx{K:PySem.W.Frag}{h:Heap}{mg:Str->Option Value}{x n:Str}{l:List Nat}{t:Tok}(X:K.In h)(G:h.Ns mainGlobals mg)(e:x=Tx l)(a:PySem.W.nsIn K mainGlobals n=some (some (.str x t))):mg n=some (.str (Tx l) t):=e▸PySem.W.mg_of X G a
theorem aiG:FnScope ["text"] ["text"] (aaC aeH):=⟨rfl,rfl,rfl,by decide +kernel,rfl,by decide +kernel,by decide +kernel⟩
theorem ai2:FnScope ["text"] ["text"] (aaC afL):=⟨rfl,rfl,rfl,by decide +kernel,rfl,by decide +kernel,by decide +kernel⟩
theorem aGR:FnScope ["mask","number"] ["mask","number"] (aaC aEZ):=⟨rfl,rfl,rfl,by decide +kernel,rfl,by decide +kernel,by decide +kernel⟩
theorem sc_mask_of:FnScope ["numbers","mask","number"] ["numbers"] (aaC ajP):=⟨rfl,rfl,rfl,by decide +kernel,rfl,by decide +kernel,by decide +kernel⟩
theorem ajB:FnScope ["mask"] ["mask"] (aaC afJ):=⟨rfl,rfl,rfl,by decide +kernel,rfl,by decide +kernel,by decide +kernel⟩
theorem amC:FnScope ["first","last","stride"] ["first","last","stride"] (aaC ahY):=⟨rfl,rfl,rfl,by decide +kernel,rfl,by decide +kernel,by decide +kernel⟩
theorem sc_read_number:FnScope ["text","low","high","number"] ["text","low","high"] (aaC aeK):=⟨rfl,rfl,rfl,by decide +kernel,rfl,by decide +kernel,by decide +kernel⟩
theorem sc_read_run:FnScope ["text","low","high","ends"] ["text","low","high"] (aaC ah4):=⟨rfl,rfl,rfl,by decide +kernel,rfl,by decide +kernel,by decide +kernel⟩
theorem sc_read_strided:FnScope ["run_text","stride_text","low","high","run","stride","last"] ["run_text","stride_text","low","high"] (aaC ac7):=⟨rfl,rfl,rfl,by decide +kernel,rfl,by decide +kernel,by decide +kernel⟩
theorem sc_read_item:FnScope ["item","low","high","parts","run"] ["item","low","high"] (aaC agT):=⟨rfl,rfl,rfl,by decide +kernel,rfl,by decide +kernel,by decide +kernel⟩
theorem sc_read_field:FnScope ["text","low","high","items","mask","place","item","told"] ["text","low","high"] (aaC afH):=⟨rfl,rfl,rfl,by decide +kernel,rfl,by decide +kernel,by decide +kernel⟩
theorem ad8:FnScope ["self","mask"] ["self","mask"] (aaC ab1):=⟨rfl,rfl,rfl,by decide +kernel,rfl,by decide +kernel,by decide +kernel⟩
theorem af9:FnScope ["self","back"] ["self","back"] (aaC aa1):=⟨rfl,rfl,rfl,by decide +kernel,rfl,by decide +kernel,by decide +kernel⟩
theorem afU:FnScope ["self","day"] ["self","day"] (aaC acV):=⟨rfl,rfl,rfl,by decide +kernel,rfl,by decide +kernel,by decide +kernel⟩
theorem ac4:FnScope ["self","mask"] ["self","mask"] (aaC abX):=⟨rfl,rfl,rfl,by decide +kernel,rfl,by decide +kernel,by decide +kernel⟩
theorem ag0:FnScope ["self","weekday","many"] ["self","weekday","many"] (aaC ac9):=⟨rfl,rfl,rfl,by decide +kernel,rfl,by decide +kernel,by decide +kernel⟩
theorem aeA:FnScope ["self","weekday"] ["self","weekday"] (aaC ab4):=⟨rfl,rfl,rfl,by decide +kernel,rfl,by decide +kernel,by decide +kernel⟩
theorem sc_read_day_mark:FnScope ["item","back","day"] ["item"] (aaC acW):=⟨rfl,rfl,rfl,by decide +kernel,rfl,by decide +kernel,by decide +kernel⟩
theorem sc_read_weekday:FnScope ["text","number"] ["text"] (aaC adA):=⟨rfl,rfl,rfl,by decide +kernel,rfl,by decide +kernel,by decide +kernel⟩
theorem sc_read_weekday_mark:FnScope ["item","weekday","parts","many"] ["item"] (aaC abW):=⟨rfl,rfl,rfl,by decide +kernel,rfl,by decide +kernel,by decide +kernel⟩
theorem sc_read_items:FnScope ["text","low","high","read_mark","items","mask","marks","place","item","plain","mark"] ["text","low","high","read_mark"] (aaC ae7):=⟨rfl,rfl,rfl,by decide +kernel,rfl,by decide +kernel,by decide +kernel⟩
theorem sc_read_days:FnScope ["text","read"] ["text"] (aaC agI):=⟨rfl,rfl,rfl,by decide +kernel,rfl,by decide +kernel,by decide +kernel⟩
theorem sc_read_weekdays:FnScope ["text","read","mask"] ["text"] (aaC acZ):=⟨rfl,rfl,rfl,by decide +kernel,rfl,by decide +kernel,by decide +kernel⟩
theorem sc_times_of:FnScope ["hours","minutes","times","hour"] ["hours","minutes"] (aaC ah9):=⟨rfl,rfl,rfl,by decide +kernel,rfl,by decide +kernel,by decide +kernel⟩
theorem ag1:FnScope ["self","fields"] ["self","fields"] (aaC adB):=⟨rfl,rfl,rfl,by decide +kernel,rfl,by decide +kernel,by decide +kernel⟩
theorem sc_read_word:FnScope ["word","place","bounds"] ["word","place"] (aaC agS):=⟨rfl,rfl,rfl,by decide +kernel,rfl,by decide +kernel,by decide +kernel⟩
theorem amZ:FnScope ["word","place"] ["word","place"] (aaC ajF):=⟨rfl,rfl,rfl,by decide +kernel,rfl,by decide +kernel,by decide +kernel⟩
theorem sc_read_row:FnScope ["text","words"] ["text"] (aaC ah1):=⟨rfl,rfl,rfl,by decide +kernel,rfl,by decide +kernel,by decide +kernel⟩
theorem ai9:FnScope ["self"] ["self"] (aaC ae5):=⟨rfl,rfl,rfl,by decide +kernel,rfl,by decide +kernel,by decide +kernel⟩
theorem alI:FnScope ["self"] ["self"] (aaC ahZ):=⟨rfl,rfl,rfl,by decide +kernel,rfl,by decide +kernel,by decide +kernel⟩
theorem ahF:FnScope ["self"] ["self"] (aaC adE):=⟨rfl,rfl,rfl,by decide +kernel,rfl,by decide +kernel,by decide +kernel⟩
theorem akA:FnScope ["self"] ["self"] (aaC agO):=⟨rfl,rfl,rfl,by decide +kernel,rfl,by decide +kernel,by decide +kernel⟩
theorem aiW:FnScope ["self"] ["self"] (aaC ae9):=⟨rfl,rfl,rfl,by decide +kernel,rfl,by decide +kernel,by decide +kernel⟩
theorem ag5:FnScope ["self"] ["self"] (aaC adV):=⟨rfl,rfl,rfl,by decide +kernel,rfl,by decide +kernel,by decide +kernel⟩
theorem ai1:FnScope ["self"] ["self"] (aaC afA):=⟨rfl,rfl,rfl,by decide +kernel,rfl,by decide +kernel,by decide +kernel⟩
theorem alZ:FnScope ["self"] ["self"] (aaC aiK):=⟨rfl,rfl,rfl,by decide +kernel,rfl,by decide +kernel,by decide +kernel⟩
theorem agZ:FnScope ["self"] ["self"] (aaC adG):=⟨rfl,rfl,rfl,by decide +kernel,rfl,by decide +kernel,by decide +kernel⟩
theorem akQ:FnScope ["self"] ["self"] (aaC agF):=⟨rfl,rfl,rfl,by decide +kernel,rfl,by decide +kernel,by decide +kernel⟩
theorem ai5:FnScope ["self"] ["self"] (aaC afD):=⟨rfl,rfl,rfl,by decide +kernel,rfl,by decide +kernel,by decide +kernel⟩
theorem ahH:FnScope ["self"] ["self"] (aaC adQ):=⟨rfl,rfl,rfl,by decide +kernel,rfl,by decide +kernel,by decide +kernel⟩
theorem agH:FnScope ["books"] ["books"] (aaC aiM):=⟨rfl,rfl,rfl,by decide +kernel,rfl,by decide +kernel,by decide +kernel⟩
theorem agE:FnScope ["books"] ["books"] (aaC ahW):=⟨rfl,rfl,rfl,by decide +kernel,rfl,by decide +kernel,by decide +kernel⟩
theorem amX:FnScope ["books"] ["books"] (aaC ajT):=⟨rfl,rfl,rfl,by decide +kernel,rfl,by decide +kernel,by decide +kernel⟩
theorem agU:FnScope ["books"] ["books"] (aaC adR):=⟨rfl,rfl,rfl,by decide +kernel,rfl,by decide +kernel,by decide +kernel⟩
theorem ahV:FnScope ["self","row"] ["self","row"] (aaC aeJ):=⟨rfl,rfl,rfl,by decide +kernel,rfl,by decide +kernel,by decide +kernel⟩
theorem aeW:FnScope ["self","books"] ["self","books"] (aaC ab9):=⟨rfl,rfl,rfl,by decide +kernel,rfl,by decide +kernel,by decide +kernel⟩
theorem ahB:FnScope ["self","books"] ["self","books"] (aaC adX):=⟨rfl,rfl,rfl,by decide +kernel,rfl,by decide +kernel,by decide +kernel⟩
theorem af3:FnScope ["self","one","other"] ["self","one","other"] (aaC acU):=⟨rfl,rfl,rfl,by decide +kernel,rfl,by decide +kernel,by decide +kernel⟩
theorem aeX:FnScope ["self","one"] ["self","one"] (aaC ab6):=⟨rfl,rfl,rfl,by decide +kernel,rfl,by decide +kernel,by decide +kernel⟩
theorem ag6:FnScope ["_law_script","_law_k"] ["_law_script","_law_k"] (aaC adU):=⟨rfl,rfl,rfl,by decide +kernel,rfl,by decide +kernel,by decide +kernel⟩
theorem sc__law_stir:FnScope ["_law_number","_law_first","_law_second"] ["_law_number"] (aaC agG):=⟨rfl,rfl,rfl,by decide +kernel,rfl,by decide +kernel,by decide +kernel⟩
theorem sc__law_digits:FnScope ["_law_cell","_law_sizes","_law_mixed","_law_found","_law_size"] ["_law_cell","_law_sizes","_law_mixed"] (aaC aeC):=⟨rfl,rfl,rfl,by decide +kernel,rfl,by decide +kernel,by decide +kernel⟩
theorem aj2:FnScope ["_law_word","_law_thing","_law_other"] ["_law_word","_law_thing","_law_other"] (aaC agP):=⟨rfl,rfl,rfl,by decide +kernel,rfl,by decide +kernel,by decide +kernel⟩
theorem sc__law_refused:FnScope ["_law_word","_law_thing","_law_other","e"] ["_law_word","_law_thing","_law_other"] (aaC adO):=⟨rfl,rfl,rfl,by decide +kernel,rfl,by decide +kernel,by decide +kernel⟩
theorem sc__law_odd:FnScope ["_law_way","_law_row"] ["_law_way"] (aaC aiC):=⟨rfl,rfl,rfl,by decide +kernel,rfl,by decide +kernel,by decide +kernel⟩
theorem sc__law_bad_list:FnScope ["_law_way","_law_at","_law_odd_here","_law_some","_law_place"] ["_law_way","_law_at","_law_odd_here","_law_some"] (aaC ac0):=⟨rfl,rfl,rfl,by decide +kernel,rfl,by decide +kernel,by decide +kernel⟩
theorem sc__law_deep:FnScope ["_law_ways","_law_many","_law_book","_law_way"] ["_law_ways","_law_many"] (aaC agJ):=⟨rfl,rfl,rfl,by decide +kernel,rfl,by decide +kernel,by decide +kernel⟩
theorem sc__law_wide:FnScope ["_law_many","_law_some","_law_left"] ["_law_many"] (aaC agL):=⟨rfl,rfl,rfl,by decide +kernel,rfl,by decide +kernel,by decide +kernel⟩
theorem afE:FnScope ["_law_book","_law_tally","_law_depth"] ["_law_book","_law_tally","_law_depth"] (aaC acH):=⟨rfl,rfl,rfl,by decide +kernel,rfl,by decide +kernel,by decide +kernel⟩
theorem sc__law_deep_edges:FnScope ["_law_ways","_law_five","_law_four","_law_word"] ["_law_ways"] (aaC acA):=⟨rfl,rfl,rfl,by decide +kernel,rfl,by decide +kernel,by decide +kernel⟩
theorem sc__law_wide_edges:FnScope ["_law_wide_here","_law_over","_law_one"] [] (aaC ab7):=⟨rfl,rfl,rfl,by decide +kernel,rfl,by decide +kernel,by decide +kernel⟩
theorem sc__law_twice:FnScope ["_law_one","_law_double"] [] (aaC afM):=⟨rfl,rfl,rfl,by decide +kernel,rfl,by decide +kernel,by decide +kernel⟩
theorem sc_law:FnScope ["_law_script","_law_mixed","_law_k","_law_parts","_law_word","_law_some","_law_kept","_law_thing","_law_other","_law_tally","_law_ways"] ["_law_script"] (aaC ajK):=⟨rfl,rfl,rfl,by decide +kernel,rfl,by decide +kernel,by decide +kernel⟩
structure Fs(K:PySem.W.Frag)(mg:Str->Option Value)(C_Numbers C_Last C_Near C_Weekdays C_Nth C_LastOne C_LastWork C_Mark C_Row C_Book C_Of C_Joined C_Met C_Less C_Turned C_read_weekday_mark C_read_day_mark C_NoBook C_FieldError C_NoDay C_NoMoment C_NoField C_NoRow C_NoClock C_NoName C_NoWord a_BOUNDS a_BOUNDS_0 a_BOUNDS_1 a_BOUNDS_3:Addr)(t_FIGURES t_MOST_STRIDE t_MOST_SIGNS t_MOST_ITEMS t_MOST_BACK t_MOST_DAY t_SUNDAY_TOO t_SUNDAY t_MOST_NTH t_MOST_MARKS t_ALL_WEEKDAYS t_HOUR_MINUTES t_MINUTE t_HOUR t_DAY t_MONTH t_WEEKDAY t_MOST_ROW_SIGNS t_NO_PLACE t_MOST_TALLY t_MOST_DEPTH t_MOST_BOOKS:Tok):Prop where
 c_Numbers:Cd K mg "Numbers" C_Numbers
 n_Numbers_mask:PySem.W.findIn K (.ref C_Numbers) "mask"=some none
 c_Last:Cd K mg "Last" C_Last
 n_Last_back:PySem.W.findIn K (.ref C_Last) "back"=some none
 c_Near:Cd K mg "Near" C_Near
 n_Near_day:PySem.W.findIn K (.ref C_Near) "day"=some none
 c_Weekdays:Cd K mg "Weekdays" C_Weekdays
 n_Weekdays_mask:PySem.W.findIn K (.ref C_Weekdays) "mask"=some none
 c_Nth:Cd K mg "Nth" C_Nth
 n_Nth_weekday:PySem.W.findIn K (.ref C_Nth) "weekday"=some none
 n_Nth_many:PySem.W.findIn K (.ref C_Nth) "many"=some none
 c_LastOne:Cd K mg "LastOne" C_LastOne
 n_LastOne_weekday:PySem.W.findIn K (.ref C_LastOne) "weekday"=some none
 c_LastWork:Cd K mg "LastWork" C_LastWork
 i_LastWork:PySem.W.findIn K (.ref C_LastWork) "__init__"=some (some (.builtin "object.__init__"))
 c_Mark:Cd K mg "Mark" C_Mark
 i_Mark:PySem.W.findIn K (.ref C_Mark) "__init__"=some (some (.builtin "object.__init__"))
 c_Row:Cd K mg "Row" C_Row
 n_Row_minute_mask:PySem.W.findIn K (.ref C_Row) "minute_mask"=some none
 n_Row_hour_mask:PySem.W.findIn K (.ref C_Row) "hour_mask"=some none
 n_Row_day_marks:PySem.W.findIn K (.ref C_Row) "day_marks"=some none
 n_Row_month_mask:PySem.W.findIn K (.ref C_Row) "month_mask"=some none
 n_Row_weekday_marks:PySem.W.findIn K (.ref C_Row) "weekday_marks"=some none
 n_Row_time_mask:PySem.W.findIn K (.ref C_Row) "time_mask"=some none
 c_Book:Cd K mg "Book" C_Book
 i_Book:PySem.W.findIn K (.ref C_Book) "__init__"=some (some (.builtin "object.__init__"))
 c_Of:Cd K mg "Of" C_Of
 n_Of_row:PySem.W.findIn K (.ref C_Of) "row"=some none
 c_Joined:Cd K mg "Joined" C_Joined
 n_Joined_books:PySem.W.findIn K (.ref C_Joined) "books"=some none
 c_Met:Cd K mg "Met" C_Met
 n_Met_books:PySem.W.findIn K (.ref C_Met) "books"=some none
 c_Less:Cd K mg "Less" C_Less
 n_Less_one:PySem.W.findIn K (.ref C_Less) "one"=some none
 n_Less_other:PySem.W.findIn K (.ref C_Less) "other"=some none
 c_Turned:Cd K mg "Turned" C_Turned
 n_Turned_one:PySem.W.findIn K (.ref C_Turned) "one"=some none
 m_read_weekday_mark:mg "read_weekday_mark"=some (.ref C_read_weekday_mark)
 m_read_day_mark:mg "read_day_mark"=some (.ref C_read_day_mark)
 m_NoBook:mg "NoBook"=some (.ref C_NoBook)
 m_FieldError:mg "FieldError"=some (.ref C_FieldError)
 m_NoDay:mg "NoDay"=some (.ref C_NoDay)
 m_NoMoment:mg "NoMoment"=some (.ref C_NoMoment)
 m_NoField:mg "NoField"=some (.ref C_NoField)
 m_NoRow:mg "NoRow"=some (.ref C_NoRow)
 m_NoClock:mg "NoClock"=some (.ref C_NoClock)
 m_NoName:mg "NoName"=some (.ref C_NoName)
 m_NoWord:mg "NoWord"=some (.ref C_NoWord)
 xc_NoBook:Xc K mg "NoBook" C_NoBook
 is_Book:IsC K C_Book
 is_Of:IsC K C_Of
 is_Joined:IsC K C_Joined
 is_Met:IsC K C_Met
 is_Less:IsC K C_Less
 is_Turned:IsC K C_Turned
 kb_Book:PySem.W.kitOne K (.ref C_Book) (.ref C_Book)=some true
 kb_Of:PySem.W.kitOne K (.ref C_Of) (.ref C_Book)=some true
 kb_Joined:PySem.W.kitOne K (.ref C_Joined) (.ref C_Book)=some true
 kb_Met:PySem.W.kitOne K (.ref C_Met) (.ref C_Book)=some true
 kb_Less:PySem.W.kitOne K (.ref C_Less) (.ref C_Book)=some true
 kb_Turned:PySem.W.kitOne K (.ref C_Turned) (.ref C_Book)=some true
 xb_FieldError:PySem.W.subIn K (.ref C_FieldError) (.type "BaseException")=some true
 xf_NoBook:XF K C_NoBook
 xk_NoBook_FieldError:PySem.W.kitCls K (.ref C_NoBook) (.ref C_FieldError)=some true
 xi_NoBook:PySem.W.kitOne K (.ref C_NoBook) (.ref C_NoBook)=some true
 xv_NoBook:PySem.W.kitOne K (.ref C_NoBook) (.type "ValueError")=some true
 xt_NoBook:PySem.W.kitAny K (.ref C_NoBook) ([C_NoDay,C_NoMoment,C_NoField,C_NoRow,C_NoClock,C_NoName,C_NoWord].map Value.ref)=some false
 is_Row:IsC K C_Row
 kr_Row:PySem.W.kitOne K (.ref C_Row) (.ref C_Row)=some true
 kb_Row:PySem.W.kitOne K (.ref C_Row) (.ref C_Book)=some false
 kr_Book:PySem.W.kitOne K (.ref C_Book) (.ref C_Row)=some false
 kb_NoneType:PySem.W.kitOne K (.type "NoneType") (.ref C_Book)=some false
 kb_bool:PySem.W.kitOne K (.type "bool") (.ref C_Book)=some false
 kb_int:PySem.W.kitOne K (.type "int") (.ref C_Book)=some false
 kb_str:PySem.W.kitOne K (.type "str") (.ref C_Book)=some false
 kb_list:PySem.W.kitOne K (.type "list") (.ref C_Book)=some false
 kb_tuple:PySem.W.kitOne K (.type "tuple") (.ref C_Book)=some false
 kb_dict:PySem.W.kitOne K (.type "dict") (.ref C_Book)=some false
 kr_NoneType:PySem.W.kitOne K (.type "NoneType") (.ref C_Row)=some false
 kr_bool:PySem.W.kitOne K (.type "bool") (.ref C_Row)=some false
 kr_int:PySem.W.kitOne K (.type "int") (.ref C_Row)=some false
 kr_str:PySem.W.kitOne K (.type "str") (.ref C_Row)=some false
 kr_list:PySem.W.kitOne K (.type "list") (.ref C_Row)=some false
 kr_tuple:PySem.W.kitOne K (.type "tuple") (.ref C_Row)=some false
 kr_dict:PySem.W.kitOne K (.type "dict") (.ref C_Row)=some false
 m_FIGURES:mg "FIGURES"=some (.str (Tx [48,49,50,51,52,53,54,55,56,57]) t_FIGURES)
 m_MOST_STRIDE:mg "MOST_STRIDE"=some (.int 99 t_MOST_STRIDE)
 m_MOST_SIGNS:mg "MOST_SIGNS"=some (.int 300 t_MOST_SIGNS)
 m_MOST_ITEMS:mg "MOST_ITEMS"=some (.int 40 t_MOST_ITEMS)
 m_MOST_BACK:mg "MOST_BACK"=some (.int 30 t_MOST_BACK)
 m_MOST_DAY:mg "MOST_DAY"=some (.int 31 t_MOST_DAY)
 m_SUNDAY_TOO:mg "SUNDAY_TOO"=some (.int 7 t_SUNDAY_TOO)
 m_SUNDAY:mg "SUNDAY"=some (.int 0 t_SUNDAY)
 m_MOST_NTH:mg "MOST_NTH"=some (.int 5 t_MOST_NTH)
 m_MOST_MARKS:mg "MOST_MARKS"=some (.int 20 t_MOST_MARKS)
 m_ALL_WEEKDAYS:mg "ALL_WEEKDAYS"=some (.int 127 t_ALL_WEEKDAYS)
 m_HOUR_MINUTES:mg "HOUR_MINUTES"=some (.int 60 t_HOUR_MINUTES)
 m_MINUTE:mg "MINUTE"=some (.int 0 t_MINUTE)
 m_HOUR:mg "HOUR"=some (.int 1 t_HOUR)
 m_DAY:mg "DAY"=some (.int 2 t_DAY)
 m_MONTH:mg "MONTH"=some (.int 3 t_MONTH)
 m_WEEKDAY:mg "WEEKDAY"=some (.int 4 t_WEEKDAY)
 m_BOUNDS:mg "BOUNDS"=some (.ref a_BOUNDS)
 q_BOUNDS:KD K a_BOUNDS [(0,.ref a_BOUNDS_0),(1,.ref a_BOUNDS_1),(3,.ref a_BOUNDS_3)]
 q_BOUNDS_0:∀H,SqT K H a_BOUNDS_0 (([0,59]:List Int).map V.int)
 q_BOUNDS_1:∀H,SqT K H a_BOUNDS_1 (([0,23]:List Int).map V.int)
 q_BOUNDS_3:∀H,SqT K H a_BOUNDS_3 (([1,12]:List Int).map V.int)
 m_MOST_ROW_SIGNS:mg "MOST_ROW_SIGNS"=some (.int 1600 t_MOST_ROW_SIGNS)
 m_NO_PLACE:mg "NO_PLACE"=some (.int 5 t_NO_PLACE)
 m_MOST_TALLY:mg "MOST_TALLY"=some (.int 24 t_MOST_TALLY)
 m_MOST_DEPTH:mg "MOST_DEPTH"=some (.int 5 t_MOST_DEPTH)
 m_MOST_BOOKS:mg "MOST_BOOKS"=some (.int 8 t_MOST_BOOKS)
 z_all:mg "all"=none
 z_range:mg "range"=none
 z_list:mg "list"=none
 z_int:mg "int"=none
 z_len:mg "len"=none
 z_str:mg "str"=none
 z_isinstance:mg "isinstance"=none
 z_enumerate:mg "enumerate"=none
 z_sum:mg "sum"=none
 z_max:mg "max"=none
 z_tuple:mg "tuple"=none
 z_abs:mg "abs"=none
 z_ValueError:mg "ValueError"=none
 z_min:mg "min"=none
 F_all_figures:Fn K mg "all_figures" aeH ["text"]
 F_is_written:Fn K mg "is_written" afL ["text"]
 F_has:Fn K mg "has" aEZ ["mask","number"]
 F_mask_of:Fn K mg "mask_of" ajP ["numbers"]
 F_numbers_in:Fn K mg "numbers_in" afJ ["mask"]
 F_run_mask:Fn K mg "run_mask" ahY ["first","last","stride"]
 F_read_number:Fn K mg "read_number" aeK ["text","low","high"]
 F_read_run:Fn K mg "read_run" ah4 ["text","low","high"]
 F_read_strided:Fn K mg "read_strided" ac7 ["run_text","stride_text","low","high"]
 F_read_item:Fn K mg "read_item" agT ["item","low","high"]
 F_read_field:Fn K mg "read_field" afH ["text","low","high"]
 F_Numbers___init__:FnM K C_Numbers "__init__" "Numbers.__init__" ab1 ["self","mask"]
 F_Last___init__:FnMD K C_Last "__init__" "Last.__init__" aa1 ["self","back"] [.int 0]
 F_Near___init__:FnM K C_Near "__init__" "Near.__init__" acV ["self","day"]
 F_Weekdays___init__:FnM K C_Weekdays "__init__" "Weekdays.__init__" abX ["self","mask"]
 F_Nth___init__:FnM K C_Nth "__init__" "Nth.__init__" ac9 ["self","weekday","many"]
 F_LastOne___init__:FnM K C_LastOne "__init__" "LastOne.__init__" ab4 ["self","weekday"]
 F_read_day_mark:Fn K mg "read_day_mark" acW ["item"]
 F_read_weekday:Fn K mg "read_weekday" adA ["text"]
 F_read_weekday_mark:Fn K mg "read_weekday_mark" abW ["item"]
 F_read_items:Fn K mg "read_items" ae7 ["text","low","high","read_mark"]
 F_read_days:Fn K mg "read_days" agI ["text"]
 F_read_weekdays:Fn K mg "read_weekdays" acZ ["text"]
 F_times_of:Fn K mg "times_of" ah9 ["hours","minutes"]
 F_Row___init__:FnM K C_Row "__init__" "Row.__init__" adB ["self","fields"]
 F_read_word:Fn K mg "read_word" agS ["word","place"]
 F_read_at:Fn K mg "read_at" ajF ["word","place"]
 F_read_row:Fn K mg "read_row" ah1 ["text"]
 F_Book_tally:FnM K C_Book "tally" "Book.tally" ae5 ["self"]
 F_Of_tally:FnM K C_Of "tally" "Book.tally" ahZ ["self"]
 F_Joined_tally:FnM K C_Joined "tally" "Joined.tally" adE ["self"]
 F_Met_tally:FnM K C_Met "tally" "Met.tally" agO ["self"]
 F_Less_tally:FnM K C_Less "tally" "Less.tally" ae9 ["self"]
 F_Turned_tally:FnM K C_Turned "tally" "Turned.tally" adV ["self"]
 F_Book_depth:FnM K C_Book "depth" "Book.depth" afA ["self"]
 F_Of_depth:FnM K C_Of "depth" "Book.depth" aiK ["self"]
 F_Joined_depth:FnM K C_Joined "depth" "Joined.depth" adG ["self"]
 F_Met_depth:FnM K C_Met "depth" "Met.depth" agF ["self"]
 F_Less_depth:FnM K C_Less "depth" "Less.depth" afD ["self"]
 F_Turned_depth:FnM K C_Turned "depth" "Turned.depth" adQ ["self"]
 F_tally_of:Fn K mg "tally_of" aiM ["books"]
 F_depth_of:Fn K mg "depth_of" ahW ["books"]
 F_checked:Fn K mg "checked" ajT ["books"]
 F_checked_list:Fn K mg "checked_list" adR ["books"]
 F_Of___init__:FnM K C_Of "__init__" "Of.__init__" aeJ ["self","row"]
 F_Joined___init__:FnM K C_Joined "__init__" "Joined.__init__" ab9 ["self","books"]
 F_Met___init__:FnM K C_Met "__init__" "Met.__init__" adX ["self","books"]
 F_Less___init__:FnM K C_Less "__init__" "Less.__init__" acU ["self","one","other"]
 F_Turned___init__:FnM K C_Turned "__init__" "Turned.__init__" ab6 ["self","one"]
 F__law_cell_at:Fn K mg "_law_cell_at" adU ["_law_script","_law_k"]
 F__law_stir:Fn K mg "_law_stir" agG ["_law_number"]
 F__law_digits:Fn K mg "_law_digits" aeC ["_law_cell","_law_sizes","_law_mixed"]
 F__law_made:Fn K mg "_law_made" agP ["_law_word","_law_thing","_law_other"]
 F__law_refused:Fn K mg "_law_refused" adO ["_law_word","_law_thing","_law_other"]
 F__law_odd:Fn K mg "_law_odd" aiC ["_law_way"]
 F__law_bad_list:Fn K mg "_law_bad_list" ac0 ["_law_way","_law_at","_law_odd_here","_law_some"]
 F__law_deep:Fn K mg "_law_deep" agJ ["_law_ways","_law_many"]
 F__law_wide:Fn K mg "_law_wide" agL ["_law_many"]
 F__law_sizes_are:Fn K mg "_law_sizes_are" acH ["_law_book","_law_tally","_law_depth"]
 F__law_deep_edges:Fn K mg "_law_deep_edges" acA ["_law_ways"]
 F__law_wide_edges:Fn K mg "_law_wide_edges" ab7 []
 F__law_twice:Fn K mg "_law_twice" afM []
section
set_option maxHeartbeats 4000000
variable{P:Program}{w:World}{K:PySem.W.Frag}{mg:Str->Option Value}{base:Heap}{C_Numbers C_Last C_Near C_Weekdays C_Nth C_LastOne C_LastWork C_Mark C_Row C_Book C_Of C_Joined C_Met C_Less C_Turned C_read_weekday_mark C_read_day_mark C_NoBook C_FieldError C_NoDay C_NoMoment C_NoField C_NoRow C_NoClock C_NoName C_NoWord a_BOUNDS a_BOUNDS_0 a_BOUNDS_1 a_BOUNDS_3:Addr}{t_FIGURES t_MOST_STRIDE t_MOST_SIGNS t_MOST_ITEMS t_MOST_BACK t_MOST_DAY t_SUNDAY_TOO t_SUNDAY t_MOST_NTH t_MOST_MARKS t_ALL_WEEKDAYS t_HOUR_MINUTES t_MINUTE t_HOUR t_DAY t_MONTH t_WEEKDAY t_MOST_ROW_SIGNS t_NO_PLACE t_MOST_TALLY t_MOST_DEPTH t_MOST_BOOKS:Tok}(ZZ:Fs K mg C_Numbers C_Last C_Near C_Weekdays C_Nth C_LastOne C_LastWork C_Mark C_Row C_Book C_Of C_Joined C_Met C_Less C_Turned C_read_weekday_mark C_read_day_mark C_NoBook C_FieldError C_NoDay C_NoMoment C_NoField C_NoRow C_NoClock C_NoName C_NoWord a_BOUNDS a_BOUNDS_0 a_BOUNDS_1 a_BOUNDS_3 t_FIGURES t_MOST_STRIDE t_MOST_SIGNS t_MOST_ITEMS t_MOST_BACK t_MOST_DAY t_SUNDAY_TOO t_SUNDAY t_MOST_NTH t_MOST_MARKS t_ALL_WEEKDAYS t_HOUR_MINUTES t_MINUTE t_HOUR t_DAY t_MONTH t_WEEKDAY t_MOST_ROW_SIGNS t_NO_PLACE t_MOST_TALLY t_MOST_DEPTH t_MOST_BOOKS)
include ZZ
theorem aiI:Df P w K mg base "all_figures" 1 ["text"] (aiP K):=by
 refine ZZ.F_all_figures.dfs aiG (fun vs H Q E h=>?_) (fun f cdv A outer s H vs Q E hr h=>?_)
 ·obtain⟨l,rfl,hl,q⟩:=h
  rfl
 obtain⟨l,rfl,hl,q⟩:=h
 refine⟨_,(ss1 (aaH (amR (ak8 oNe (v_ 0) (eSx [])) (alB (eCB aL8 ZZ.z_all boot_all (aC (agR [] [] (iX (v_ 0)) (fun _ _ _ _ _ _=>fsN) (fun _ _ _ _ _ _=>(ak8 oInX (v_ 0) (eGl (v:=.str (Tx [48,49,50,51,52,53,54,55,56,57])) ZZ.m_FIGURES ⟨_,rfl⟩)))) aN)))))),?_⟩
 refine⟨_,rfl,rfl,_,rfl,?_⟩
 rw[auK l []]
 by_cases c:l=[]
 ·rw[decide_eq_true c]
  have e:alN l=false:=by unfold alN;rw[decide_eq_true c];rfl
  rw[e] at q
  exact aaX (q H (Same.refl H))
 ·rw[decide_eq_false c]
  have e:alN l=l.all afB:=by unfold alN;rw[decide_eq_false c];rfl
  rw[e] at q
  refine ab0 ⟨_,rfl,Tx l,rfl,axM (xs:=l) (fun i z=>z=((l.take i).map afB).map V.bl) (by rw[sizeLine_eq];omega) rfl ?_ ?_⟩
  ·intro i ch z D H2 E' F' hv hR hD s2 hz hE hF
   subst hR
   refine⟨_,rfl,ch,aLJ,rfl,rfl,?_⟩
   rw[atH]
   exact hE _ _ (Same.refl _) (by rw[List.take_succ,hv,List.map_append,List.map_append];rfl)
  ·intro D H2 z hR hD s2 hz
   subst hR
   rw[List.take_length] at hz
   refine⟨D,l.map afB,rfl,SqL.of hz,?_⟩
   rw[List.all_map]
   exact q H2 s2
theorem aeI:Df P w K mg base "is_written" 2 ["text"] (ai7 K):=by
 refine ZZ.F_is_written.dfs ai2 (fun vs H Q E h=>?_) (fun f cdv A outer s H vs Q E hr h=>?_)
 ·obtain⟨l,rfl,hl,q⟩:=h
  rfl
 obtain⟨l,rfl,hl,q⟩:=h
 refine⟨_,(ss1 (aaH (amR (eD (aiI ZZ) hr (aC (v_ 0) aN)) (alB (eOr (ak8 oEq (v_ 0) (eSx [48])) (alB (ak8 oNe (eIx xX (v_ 0) eI) (eSx [48])))))))),?_⟩
 refine⟨_,rfl,l,rfl,hl,fun H1 s1=>⟨_,rfl,?_⟩⟩
 refine if2 (fun c=>?_) (fun c=>?_)
 ·have hne:l≠[]:=fun e=>by
   unfold alN at c
   rw[decide_eq_true e] at c
   exact absurd (show false=true from c) Bool.false_ne_true
  refine⟨_,rfl,rfl,_,rfl,?_⟩
  rw[auK l [48]]
  by_cases c2:l=[48]
  ·rw[decide_eq_true c2]
   have e:isW l=true:=by unfold isW;rw[c,decide_eq_true c2];rfl
   rw[e] at q
   exact ab0 (q H1 s1)
  ·rw[decide_eq_false c2]
   obtain⟨x,r,rfl⟩:∃x r,l=x::r:=by
    cases l with
    |nil=>exact absurd rfl hne
    |cons x r=>exact⟨x,r,rfl⟩
   refine aaX ⟨_,rfl,x::r,0,x,rfl,rfl,(by rw[sizeLine_eq];omega),(show atI (x::r) ((0:Nat):Int)=some x from an9 rfl),rfl,?_⟩
   rw[auK [x] [48]]
   have e:isW (x::r)= !decide ([x]=[48]):=by
    unfold isW
    rw[c,decide_eq_false c2]
    show (!decide (x=48))=_
    rw[decide_eq_decide.mpr (show x=48↔[x]=[48] by simp)]
   rw[e] at q
   exact q H1 s1
 ·have e:isW l=false:=by unfold isW;rw[c];rfl
  rw[e] at q
  exact q H1 s1
theorem aLP:Df P w K mg base "has" 1 ["mask","number"] (aLA K):=by
 refine ZZ.F_has.dfs aGR (fun vs H Q E h=>?_) (fun f cdv A outer s H vs Q E hr h=>?_)
 ·obtain⟨m,n,rfl,h0,q⟩:=h
  rfl
 obtain⟨m,n,rfl,h0,q⟩:=h
 refine⟨_,(ss1 (aaH (ak8 oEq (eOp aOC (eOp aO5 (v_ 0) (v_ 1)) eI) eI))),?_⟩
 refine⟨_,rfl,_,rfl,_,_,rfl,rfl,h0.2,_,_,rfl,rfl,rfl,?_⟩
 have e:decide (V.int (Builtin.bitAnd (m / 2^n.toNat) 1)=V.int 1)=tb m n.toNat:=by
  rw[←azW h0.1]
  exact decide_eq_decide.mpr int_eq
 show Q (.bl (decide (V.int (Builtin.bitAnd (m / 2^n.toNat) 1)=V.int 1))) H
 rw[e]
 exact q
theorem amS:Df P w K mg base "mask_of" 1 ["numbers"] (amL K):=by
 refine ZZ.F_mask_of.dfs sc_mask_of (fun vs H Q E h=>?_) (fun f cdv A outer s H vs Q E hr h=>?_)
 ·obtain⟨a,zs,rfl,hS,hz,q⟩:=h
  rfl
 obtain⟨a,zs,rfl,hS,hz,q⟩:=h
 refine⟨_,(ssC (aaN 1 eI sc_mask_of.nd)
   (ssC (alM (iL (v_ 0)) (gN 2 sc_mask_of.nd) (ss1 (aaN 1 (eOp oOr (v_ 1) (eOp aMW eI (v_ 2))) sc_mask_of.nd)) PassesOwn.never)
   (ss1 (aaH (v_ 1))))),?_⟩
 refine⟨_,rfl,a,rfl,⟨_,hS⟩,afO (K:=K) (a:=a) (xs:=zs.map V.int) (fun i σ H2=>H2=H/\∃u:Option V,σ=[some (.ref a),some (.int (abV (zs.take i))),u]) ⟨rfl,_,rfl⟩ (fun i σ H2 _ hP=>by rw[hP.1];exact hS) ?_ ?_⟩
 ·rintro i x σ H2 hx ⟨rfl,u,rfl⟩
  rw[List.getElem?_map] at hx
  cases ez:zs[i]? with
  |none=>rw[ez] at hx;cases hx
  |some z=>
   rw[ez] at hx
   obtain rfl:V.int z=x:=Option.some.inj hx
   have h:=hz z (List.mem_of_getElem? ez)
   have et:abV (zs.take (i+1))=Builtin.bitOr (abV (zs.take i)) (1*2^z.toNat):=by
    rw[List.take_succ,ez,←anG]
    rfl
   exact⟨_,rfl,_,rfl,_,_,rfl,rfl,⟨h.1,by omega,by decide⟩,_,_,rfl,rfl,rfl,_,by rw[et];rfl⟩
 ·rintro σ H2 ⟨rfl,u,rfl⟩
  rw[List.length_map,List.take_length]
  exact⟨_,rfl,q⟩
theorem aiZ:Df P w K mg base "numbers_in" 2 ["mask"] (ai0 K):=by
 refine ZZ.F_numbers_in.dfs ajB (fun vs H Q E h=>?_) (fun f cdv A outer s H vs Q E hr h=>?_)
 ·obtain⟨m,rfl,hm,q⟩:=h
  rfl
 obtain⟨m,rfl,hm,q⟩:=h
 refine⟨_,(ss1 (aaH (agR ["mask"] [0] (iR1 ZZ.z_range (aC (eBL (v_ 0)) aN)) (fun _ _ _ _ _ _=>(fs1 (tVa (eD (aLP ZZ) hr (aC (v_ 1) (aC (v_ 0) aN)))))) (fun _ _ _ _ _ _=>(v_ 0))))),?_⟩
 refine⟨_,rfl,rfl,_,rfl,rfl,_,rfl,by omega,by omega,am2 (fun i z=>z=(flt (tb m) 0 i).map V.int) (by rw[sizeLine_eq,Int.toNat_natCast];omega) azR ?_ ?_⟩
 ·intro i z D H2 E' F' hi hR hD s2 hz hE hF
  subst hR
  refine⟨_,rfl,_,rfl,_,_,rfl,⟨hm.1,by omega⟩,_,rfl,?_⟩
  have e0:(0+(i:Int)).toNat=i:=by omega
  show if tb m (0+(i:Int)).toNat=true then _ else _
  rw[e0]
  by_cases c:tb m i=true
  ·rw[if_pos c]
   exact⟨_,rfl,hE _ _ (Same.refl _) (by rw[anO c,List.map_append];rfl)⟩
  ·rw[if_neg c]
   exact hF _ (Same.refl _) (by rw[anA (by simpa using c)])
 ·intro D H2 z hR hD s2 hz
  subst hR
  rw[Int.toNat_natCast] at hz
  exact q D H2 s2 hz
theorem agD:Df P w K mg base "run_mask" 2 ["first","last","stride"] (alL K):=by
 refine ZZ.F_run_mask.dfs amC (fun vs H Q E h=>?_) (fun f cdv A outer s H vs Q E hr h=>?_)
 ·obtain⟨a,b,st,rfl,ha,hb,hs,q⟩:=h
  rfl
 obtain⟨a,b,st,rfl,ha,hb,hs,q⟩:=h
 refine⟨_,(ss1 (aaH (eD (amS ZZ) hr (aC (eCT cLR ZZ.z_list PyProof.Rows.boot_list (aC (eCT cRg3 ZZ.z_range boot_range (aC (v_ 0) (aC (eOp ahX (v_ 1) eI) (aC (v_ 2) aN)))) aN)) aN)))),?_⟩
 obtain⟨n1,n2⟩:=aoE ha.1 hb.2 hs.1
 have bd:∀z∈adH a b st,0<=z/\z<=100000:=fun z hz=>by
  have:=(aj4 hs.1).mp hz
  omega
 refine⟨_,rfl,_,rfl,_,_,rfl,rfl,_,rfl,_,_,_,rfl,⟨hs.1,by omega⟩,fun p hp=>⟨p,a,b+1,st,(Builtin.Range.rangeSize a (b+1) st).toNat,rfl,aaA,atR ha.1 ha.2 hb.1 hb.2 hs.1 hs.2,n2,(by omega),fun l hl=>⟨l,adH a b st,rfl,SqL.of (by rw[ahJ,List.map_map];exact aaA),bd,?_⟩⟩⟩
 exact q _ ((aaB hp _).trans (aaB hl _))
theorem aa6:Df P w K mg base "read_number" 3 ["text","low","high"] (aiN K):=by
 refine ZZ.F_read_number.dfs sc_read_number (fun vs H Q E h=>?_) (fun f cdv A outer s H vs Q E hr h=>?_)
 ·obtain⟨l,lo,hi,rfl,hl,q⟩:=h
  rfl
 obtain⟨l,lo,hi,rfl,hl,q⟩:=h
 refine⟨_,(ssC (sIf (tNo (tVa (eD (aeI ZZ) hr (aC (v_ 0) aN)))) (ss1 (aaH eN)) ssN)
   (ssC (aaN 3 (eCT aM3 ZZ.z_int PyProof.Rows.boot_int (aC (v_ 0) aN)) sc_read_number.nd)
   (ssC (sIf (tCh oLe oLe (v_ 1) (v_ 3) (v_ 2)) (ss1 (aaH (v_ 3))) ssN)
   (ss1 (aaH eN))))),?_⟩
 refine⟨_,rfl,l,rfl,(by omega),fun H1 s1=>⟨_,rfl,?_⟩⟩
 by_cases c:isW l=true
 ·rw[c]
  obtain⟨d1,d2⟩:=am7 c
  refine aaX ⟨_,rfl,l,rfl,d1,d2,(by omega),?_⟩
  refine⟨_,rfl,_,rfl,_,_,rfl,rfl,_,rfl,?_⟩
  show if decide (lo<=dv l)=true then _ else _
  refine ifD (fun c1=>⟨_,rfl,_,_,rfl,rfl,_,rfl,?_⟩) (fun c1=>⟨_,rfl,?_⟩)
  ·show if decide (dv l<=hi)=true then _ else _
   refine ifD (fun c2=>?_) (fun c2=>?_)
   ·have e:aaU lo hi l=some (dv l):=by unfold aaU;rw[if_pos c,if_pos ⟨c1,c2⟩]
    rw[e] at q
    exact⟨_,rfl,q H1 s1⟩
   ·have e:aaU lo hi l=none:=by unfold aaU;rw[if_pos c,if_neg fun z=>c2 z.2]
    rw[e] at q
    exact q H1 s1
  ·have e:aaU lo hi l=none:=by unfold aaU;rw[if_pos c,if_neg fun z=>c1 z.1]
   rw[e] at q
   exact aaX (q H1 s1)
 ·have c':isW l=false:=by simpa using c
  rw[c']
  have e:aaU lo hi l=none:=by unfold aaU;rw[if_neg c]
  rw[e] at q
  exact ab0 (q H1 s1)
theorem agM:Df P w K mg base "read_run" 4 ["text","low","high"] (al9 K):=by
 refine ZZ.F_read_run.dfs sc_read_run (fun vs H Q E h=>?_) (fun f cdv A outer s H vs Q E hr h=>?_)
 ·obtain⟨l,lo,hi,rfl,hl,q⟩:=h
  rfl
 obtain⟨l,lo,hi,rfl,hl,q⟩:=h
 refine⟨_,(ssC (sIf (tCm oEq (v_ 0) (eSx [42])) (ss1 (aaH (ak5 (aC (v_ 1) (aC (v_ 2) aN))))) ssN)
   (ssC (aNJ 3 ["low","high"] [1,2] (iL (arC (v_ 0) (eSx [45]))) (fun _ _ _ _ _ _=>fsN) (fun _ _ _ _ _ _=>(eD (aa6 ZZ) hr (aC (v_ 0) (aC (v_ 1) (aC (v_ 2) aN))))) sc_read_run.nd)
   (ssC (sIf (tW (wOr (tCm oGt (eCB ahQ ZZ.z_len PySem.boot_len (aC (v_ 3) aN)) eI) (wOr (tCm oIn eN (v_ 3)) (acN (tCm oGt (eIx xL (v_ 3) eI) (eIx xL (v_ 3) (eUn aEK eI))))))) (ss1 (aaH eN)) ssN)
   (ss1 (aaH (ak5 (aC (eIx xL (v_ 3) eI) (aC (eIx xL (v_ 3) (eUn aEK eI)) aN)))))))),?_⟩
 refine⟨_,rfl,rfl,_,rfl,?_⟩
 rw[auK l [42]]
 by_cases c:l=[42]
 ·rw[decide_eq_true c]
  refine ab0 ⟨_,rfl,_,rfl,(by show 2<=sizeLine;decide),fun p hp=>?_⟩
  have e:aaV lo hi l=some (lo,hi):=by unfold aaV;rw[if_pos c]
  rw[e] at q
  exact q _ _ (aaB hp _) ⟨p,rfl,aaA⟩
 rw[decide_eq_false c]
 have hsl:=afI 45 l
 have eR:aaV lo hi l=agQ ((spl 45 l).map (aaU lo hi)):=by unfold aaV;rw[if_neg c]
 rw[eR] at q
 refine aaX ⟨_,rfl,rfl,l,45,rfl,rfl,(by rw[sizeLine_eq];omega),fun ps hps=>⟨ps,rfl,⟨_,SqL.of aaA⟩,acI (xs:=(spl 45 l).map fun q=>V.str (Tx q)) (fun i z=>z=((spl 45 l).take i).map fun q=>oV (aaU lo hi q)) (by rw[List.length_map,sizeLine_eq];omega) rfl (SqL.of aaA) ?_ ?_⟩⟩
 ·intro i v z D H2 E' F' hv hR hD s2 hz hE hF
  subst hR
  rw[List.getElem?_map] at hv
  cases ew:(spl 45 l)[i]? with
  |none=>rw[ew] at hv;cases hv
  |some w0=>
   rw[ew] at hv
   obtain rfl:V.str (Tx w0)=v:=Option.some.inj hv
   have hw:=abH 45 l w0 (List.mem_of_getElem? ew)
   exact⟨_,rfl,_,rfl,_,rfl,w0,lo,hi,rfl,(by omega),fun H3 s3=>hE _ _ s3 (by rw[List.take_succ,ew,List.map_append];rfl)⟩
 intro D H2 z hR hD s2 hz
 subst hR
 rw[List.length_map,List.take_length] at hz
 have hz2:H2 D=some (.lst (((spl 45 l).map (aaU lo hi)).map oV)):=by rw[hz,List.map_map];rfl
 have hlen:((spl 45 l).map (aaU lo hi)).length<=600:=by rw[List.length_map];omega
 have hnn:(spl 45 l).map (aaU lo hi)≠[]:=fun e=>aKT 45 l (List.map_eq_nil_iff.mp e)
 generalize (spl 45 l).map (aaU lo hi)=es at hz2 q hlen hnn
 have s02:Same H H2:=(aaB hps _).trans s2
 have hfl:(es.map oV).all aeB=true:=az2 es
 refine⟨_,rfl,D,_,rfl,.inl (SqL.of hz2),_,_,rfl,rfl,_,rfl,?_⟩
 match es,hnn with
 |[],h=>exact absurd rfl h
 |[none],_=>
  refine aaX ⟨_,rfl,D,_,rfl,.inl (SqL.of hz2),rfl,hfl,_,rfl,ab0 ?_⟩
  exact q _ _ s02 rfl
 |[some a],_=>
  refine aaX ⟨_,rfl,D,_,rfl,.inl (SqL.of hz2),rfl,hfl,_,rfl,aaX ⟨_,rfl,D,_,_,_,rfl,rfl,SqL.of hz2,rfl,_,rfl,_,rfl,D,_,_,_,rfl,rfl,SqL.of hz2,rfl,_,_,rfl,rfl,_,rfl,?_⟩⟩
  rw[decide_eq_false (show ¬a<a by omega)]
  refine aaX ⟨_,rfl,D,_,_,_,rfl,rfl,SqL.of hz2,rfl,_,rfl,_,rfl,D,_,_,_,rfl,rfl,SqL.of hz2,rfl,(by show 2<=sizeLine;decide),fun p hp=>?_⟩
  exact q _ _ (s02.trans (aaB hp _)) ⟨p,rfl,aaA⟩
 |[none,y],_=>
  refine aaX ⟨_,rfl,D,_,rfl,.inl (SqL.of hz2),rfl,hfl,_,rfl,ab0 ?_⟩
  exact q _ _ s02 rfl
 |[some a,none],_=>
  refine aaX ⟨_,rfl,D,_,rfl,.inl (SqL.of hz2),rfl,hfl,_,rfl,ab0 ?_⟩
  exact q _ _ s02 rfl
 |[some a,some b],_=>
  refine aaX ⟨_,rfl,D,_,rfl,.inl (SqL.of hz2),rfl,hfl,_,rfl,aaX ⟨_,rfl,D,_,_,_,rfl,rfl,SqL.of hz2,rfl,_,rfl,_,rfl,D,_,_,_,rfl,rfl,SqL.of hz2,rfl,_,_,rfl,rfl,_,rfl,?_⟩⟩
  refine ifD (fun c2=>?_) (fun c2=>?_)
  ·have e:agQ [some a,some b]=none:=by show (if b<a then none else some (a,b))=none;rw[if_pos c2]
   rw[e] at q
   exact q _ _ s02 rfl
  ·have e:agQ [some a,some b]=some (a,b):=by show (if b<a then none else some (a,b))=some (a,b);rw[if_neg c2]
   rw[e] at q
   refine⟨_,rfl,D,_,_,_,rfl,rfl,SqL.of hz2,rfl,_,rfl,_,rfl,D,_,_,_,rfl,rfl,SqL.of hz2,rfl,(by show 2<=sizeLine;decide),fun p hp=>?_⟩
   exact q _ _ (s02.trans (aaB hp _)) ⟨p,rfl,aaA⟩
 |x::y::u::r,_=>
  have e3:decide ((2:Int)<(((x::y::u::r).map oV).length:Nat))=true:=decide_eq_true (by rw[List.length_map];show (2:Int)<((r.length+1+1+1:Nat):Int);omega)
  refine ifT e3 ?_
  have e:agQ (x::y::u::r)=none:=by cases x<;>cases y<;>rfl
  rw[e] at q
  exact q _ _ s02 rfl
theorem ag8:Df P w K mg base "read_strided" 5 ["run_text","stride_text","low","high"] (agY K):=by
 refine ZZ.F_read_strided.dfs sc_read_strided (fun vs H Q E h=>?_) (fun f cdv A outer s H vs Q E hr h=>?_)
 ·obtain⟨r,st,lo,hi,rfl,hr1,hs1,hb,q⟩:=h
  rfl
 obtain⟨r,st,lo,hi,rfl,hr1,hs1,hb,q⟩:=h
 refine⟨_,(ssC (aaN 4 (eD (agM ZZ) hr (aC (v_ 0) (aC (v_ 2) (aC (v_ 3) aN)))) sc_read_strided.nd)
   (ssC (aaN 5 (eD (aa6 ZZ) hr (aC (v_ 1) (aC eI (aC (eGl (v:=.int 99) ZZ.m_MOST_STRIDE ⟨_,rfl⟩) aN)))) sc_read_strided.nd)
   (ssC (sIf (tW (wOr (tCm ahS (v_ 4) eN) (acN (tCm ahS (v_ 5) eN)))) (ss1 (aaH eN)) ssN)
   (ssC (aaN 6 (eIf (tVa (eD (aeI ZZ) hr (aC (v_ 0) aN))) (v_ 3) (eIx xT (v_ 4) eI)) sc_read_strided.nd)
   (ss1 (aaH (eD (agD ZZ) hr (aC (eIx xT (v_ 4) eI) (aC (v_ 6) (aC (v_ 5) aN)))))))))),?_⟩
 refine⟨_,rfl,_,rfl,_,rfl,r,lo,hi,rfl,(by omega),fun rv H1 s1 hrv=>?_⟩
 refine⟨_,rfl,st,1,99,rfl,(by omega),fun H2 s2=>?_⟩
 cases er:aaV lo hi r with
 |none=>
  rw[er] at hrv
  have hrv:rv=.non:=hrv
  subst hrv
  have e:abB lo hi r st=none:=by unfold abB;rw[er]
  rw[e] at q
  exact⟨_,rfl,rfl,_,rfl,ab0 (q H2 (s1.trans s2))⟩
 |some ab=>
  obtain⟨a,b⟩:=ab
  rw[er] at hrv
  obtain⟨p,rfl,hp⟩:=hrv
  have bd:=aiU hb.2.1 er
  refine⟨_,rfl,rfl,_,rfl,ifF rfl ⟨_,rfl,rfl,_,rfl,?_⟩⟩
  cases es:aaU 1 99 st with
  |none=>
   have e:abB lo hi r st=none:=by unfold abB;rw[er,es]
   rw[e] at q
   exact ifT rfl (q H2 (s1.trans s2))
  |some sv=>
   have bs:=alC es
   have hp2:=s2 _ _ hp
   refine ifF rfl ⟨_,rfl,r,rfl,(by omega),fun H3 s3=>⟨_,rfl,?_⟩⟩
   have hp3:=s3 _ _ hp2
   refine if2 (fun c=>?_) (fun c=>?_)
   ·have e:abB lo hi r st=some (ahD a hi sv):=by unfold abB;rw[er,es];show some (ahD a (if isW r=true then hi else b) sv)=_;rw[if_pos c]
    rw[e] at q
    refine⟨_,rfl,_,rfl,p,_,_,_,rfl,rfl,SqT.of hp3,rfl,_,rfl,_,rfl,a,hi,sv,rfl,⟨by omega,by omega⟩,⟨by omega,by omega⟩,⟨by omega,by omega⟩,fun H4 s4=>?_⟩
    exact q H4 (s1.trans (s2.trans (s3.trans s4)))
   ·have e:abB lo hi r st=some (ahD a b sv):=by unfold abB;rw[er,es];show some (ahD a (if isW r=true then hi else b) sv)=_;rw[if_neg (by rw[c];exact Bool.false_ne_true)]
    rw[e] at q
    refine⟨_,rfl,p,_,_,_,rfl,rfl,SqT.of hp3,rfl,_,rfl,p,_,_,_,rfl,rfl,SqT.of hp3,rfl,_,rfl,_,rfl,a,b,sv,rfl,⟨by omega,by omega⟩,⟨by omega,by omega⟩,⟨by omega,by omega⟩,fun H4 s4=>?_⟩
    exact q H4 (s1.trans (s2.trans (s3.trans s4)))
theorem ae8:Df P w K mg base "read_item" 6 ["item","low","high"] (akC K):=by
 refine ZZ.F_read_item.dfs sc_read_item (fun vs H Q E h=>?_) (fun f cdv A outer s H vs Q E hr h=>?_)
 ·obtain⟨l,lo,hi,rfl,hl,hb,q⟩:=h
  rfl
 obtain⟨l,lo,hi,rfl,hl,hb,q⟩:=h
 refine⟨_,(ssC (aaN 3 (arC (v_ 0) (eSx [47])) sc_read_item.nd)
   (ssC (sIf (tCm oEq (eCB ahQ ZZ.z_len PySem.boot_len (aC (v_ 3) aN)) eI) (ss1 (aaH (eD (ag8 ZZ) hr (aC (eIx xL (v_ 3) eI) (aC (eIx xL (v_ 3) eI) (aC (v_ 1) (aC (v_ 2) aN))))))) ssN)
   (ssC (aaN 4 (eD (agM ZZ) hr (aC (v_ 0) (aC (v_ 1) (aC (v_ 2) aN)))) sc_read_item.nd)
   (ssC (sIf (tCm ahS (v_ 4) eN) (ss1 (aaH eN)) ssN)
   (ss1 (aaH (eD (agD ZZ) hr (aC (eIx xT (v_ 4) eI) (aC (eIx xT (v_ 4) eI) (aC eI aN)))))))))),?_⟩
 have hsl:=afI 47 l
 have hml:=abH 47 l
 refine⟨_,rfl,rfl,l,47,rfl,rfl,(by rw[sizeLine_eq];omega),fun ps hps=>?_⟩
 have s0:=aaB hps (.lst ((spl 47 l).map fun q=>V.str (Tx q)))
 refine⟨_,rfl,ps,_,rfl,.inl (SqL.of aaA),rfl,_,rfl,?_⟩
 have two:(∃r s,spl 47 l=[r,s])∨(∀r s,spl 47 l≠[r,s]):=by
  by_cases z:∃r s,spl 47 l=[r,s]
  ·exact .inl z
  ·exact .inr fun r s e=>z ⟨r,s,e⟩
 rcases two with ⟨r,s,e2⟩ | hno
 ·have e:aaG lo hi l=abB lo hi r s:=by unfold aaG;rw[e2]
  rw[e] at q
  have h1:=hml r (by rw[e2];simp)
  have h2:=hml s (by rw[e2];simp)
  rw[e2]
  refine ifT rfl ⟨_,rfl,ps,_,_,_,rfl,rfl,SqL.of aaA,rfl,_,rfl,ps,_,_,_,rfl,rfl,SqL.of aaA,rfl,_,rfl,_,rfl,r,s,lo,hi,rfl,(by omega),(by omega),hb,fun H1 s1=>?_⟩
  exact q H1 ((aaB hps _).trans s1)
 ·have hlen:¬(spl 47 l).length=2:=fun e=>by
   match h:spl 47 l,e with
   |[r,s],_=>exact hno r s h
  have e:aaG lo hi l=match aaV lo hi l with | some (a,b)=>some (ahD a b 1) | none=>none:=by
   unfold aaG
   split
   ·rename_i r s h
    exact absurd h (hno r s)
   ·rfl
  refine ifF (decide_eq_false fun z=>hlen (by have z:=V.int.inj z;rw[List.length_map] at z;omega)) ?_
  refine⟨_,rfl,_,rfl,_,rfl,l,lo,hi,rfl,(by omega),fun rv H1 s1 hrv=>?_⟩
  cases er:aaV lo hi l with
  |none=>
   rw[er] at hrv e
   have hrv:rv=.non:=hrv
   subst hrv
   rw[e] at q
   exact⟨_,rfl,rfl,_,rfl,ab0 (q H1 (s0.trans s1))⟩
  |some ab=>
   obtain⟨a,b⟩:=ab
   rw[er] at hrv e
   obtain⟨p,rfl,hp⟩:=hrv
   have bd:=aiU hb.2.1 er
   have e:aaG lo hi l=some (ahD a b 1):=e
   rw[e] at q
   refine⟨_,rfl,rfl,_,rfl,ifF rfl ⟨_,rfl,p,_,_,_,rfl,rfl,SqT.of hp,rfl,_,rfl,p,_,_,_,rfl,rfl,SqT.of hp,rfl,a,b,1,rfl,⟨by omega,by omega⟩,⟨by omega,by omega⟩,⟨by decide,by decide⟩,fun H4 s4=>?_⟩⟩
   exact q H4 (s0.trans (s1.trans s4))
theorem ajA:Df P w K mg base "read_field" 7 ["text","low","high"] (aiX K):=by
 refine ZZ.F_read_field.dfs sc_read_field (fun vs H Q E h=>?_) (fun f cdv A outer s H vs Q E hr h=>?_)
 ·obtain⟨l,lo,hi,rfl,hl,hb,⟨hk,hok⟩,q⟩:=h
  rfl
 obtain⟨l,lo,hi,rfl,hl,hb,⟨hk,hok⟩,q⟩:=h
 refine⟨_,(ssC (sIf (tW (wOr (tNo (tVa (eCB cIs ZZ.z_isinstance PyProof.Rows.boot_isinstance (aC (v_ 0) (aC (eTy ZZ.z_str PyProof.Rows.boot_str) aN))))) (acN (tCm oGt (eCB axT ZZ.z_len PySem.boot_len (aC (v_ 0) aN)) (eGl (v:=.int 300) ZZ.m_MOST_SIGNS ⟨_,rfl⟩))))) (ss1 amI) ssN)
   (ssC (aaN 3 (arC (v_ 0) (eSx [44])) sc_read_field.nd)
   (ssC (aaN 4 eI sc_read_field.nd)
   (ssC (alM (iE ZZ.z_enumerate (eSl slL (v_ 3) poN (poS (eGl (v:=.int 40) ZZ.m_MOST_ITEMS ⟨_,rfl⟩)))) (gTu (gsC (gN 5 sc_read_field.nd) (gsC (gN 6 sc_read_field.nd) gsN))) (ssC (aaN 7 (eD (ae8 ZZ) hr (aC (v_ 6) (aC (v_ 1) (aC (v_ 2) aN)))) sc_read_field.nd)
   (ssC (sIf (tCm ahS (v_ 7) eN) (ss1 amI) ssN)
   (ss1 (aaN 4 (eOp oOr (v_ 4) (v_ 7)) sc_read_field.nd)))) PassesOwn.never)
   (ssC (sIf (tCm oGt (eCB ahQ ZZ.z_len PySem.boot_len (aC (v_ 3) aN)) (eGl (v:=.int 40) ZZ.m_MOST_ITEMS ⟨_,rfl⟩)) (ss1 amI) ssN)
   (ss1 (aaH (v_ 4)))))))),?_⟩
 have hml:=abH 44 l
 refine⟨_,rfl,_,.str,.str,rfl,(by decide),rfl,_,rfl,ifF rfl ⟨_,rfl,l,rfl,(by rw[sizeLine_eq];omega),_,_,rfl,rfl,_,rfl,?_⟩⟩
 rw[decide_eq_false (show ¬(300:Int)<((l.length:Nat):Int) by omega)]
 refine aaX ⟨_,rfl,rfl,l,44,rfl,rfl,(by rw[sizeLine_eq];omega),fun ps hps=>?_⟩
 have s0:=aaB hps (.lst ((spl 44 l).map fun q=>V.str (Tx q)))
 refine⟨_,rfl,_,rfl,ps,_,rfl,SqL.of aaA,fun pc hpc=>?_⟩
 have ecut:ac1 ((spl 44 l).map fun q=>V.str (Tx q)) none (some 40)=(spl 44 l).map fun q=>V.str (Tx q):=aE8 (by rw[List.length_map];exact hk)
 rw[ecut]
 have s1:=aaB hpc (.lst ((spl 44 l).map fun q=>V.str (Tx q)))
 refine⟨pc,rfl,⟨_,SqL.of aaA⟩,al8 (K:=K) (a:=pc) (xs:=(spl 44 l).map fun q=>V.str (Tx q)) (fun i σ H2=>∃(u1 u2 u3:Option V),σ=[some (.str (Tx l)),some (.int lo),some (.int hi),some (.ref ps),some (.int (orM ((acO lo hi l).take i))),u1,u2,u3]/\Same (upd (upd H ps (.lst ((spl 44 l).map fun q=>V.str (Tx q)))) pc (.lst ((spl 44 l).map fun q=>V.str (Tx q)))) H2) ⟨_,_,_,rfl,Same.refl _⟩ (fun i σ H2 _ ⟨_,_,_,_,s2⟩=>SqL.of (s2 _ _ aaA)) ?_ ?_⟩
 ·rintro i x σ H2 T hx ⟨u1,u2,u3,rfl,s2⟩ hT
  rw[List.getElem?_map] at hx
  cases ew:(spl 44 l)[i]? with
  |none=>rw[ew] at hx;cases hx
  |some w0=>
   rw[ew] at hx
   obtain rfl:V.str (Tx w0)=x:=Option.some.inj hx
   have hw:=hml w0 (List.mem_of_getElem? ew)
   obtain⟨m,em⟩:=Option.isSome_iff_exists.mp (hok w0 (List.mem_of_getElem? ew))
   refine⟨T,_,rfl,SqT.of aaA,rfl,_,_,rfl,_,_,rfl,rfl,?_⟩
   refine⟨_,rfl,_,rfl,_,rfl,w0,lo,hi,rfl,(by omega),hb,fun H3 s3=>?_⟩
   rw[em]
   refine⟨_,rfl,rfl,_,rfl,ifF rfl ⟨_,rfl,_,rfl,_,_,rfl,rfl,?_⟩⟩
   have et:orM ((acO lo hi l).take (i+1))=Builtin.bitOr (orM ((acO lo hi l).take i)) m:=by
    rw[←alY,List.take_succ]
    unfold acO
    rw[List.getElem?_map,ew]
    show orM (_++[(aaG lo hi w0).getD 0])=_
    rw[em]
    rfl
   exact⟨_,_,_,by rw[et];rfl,s2.trans ((aaB hT _).trans s3)⟩
 ·rintro σ H2 ⟨u1,u2,u3,rfl,s2⟩
  refine⟨_,rfl,ps,_,rfl,.inl (SqL.of (s2 _ _ (s1 _ _ aaA))),_,_,rfl,rfl,_,rfl,?_⟩
  rw[decide_eq_false (show ¬(40:Int)<((((spl 44 l).map fun q=>V.str (Tx q)).length:Nat):Int) by rw[List.length_map];omega)]
  refine aaX ⟨_,rfl,?_⟩
  rw[List.length_map,show (spl 44 l).length=(acO lo hi l).length by unfold acO;rw[List.length_map],List.take_length]
  exact q H2 (s0.trans (s1.trans s2))
theorem ad6:DfM P w K mg base C_Numbers "__init__" 1 ["self","mask"] (ad7 K C_Numbers):=by
 refine ZZ.F_Numbers___init__.dfs ad8 (fun vs H Q E h=>?_) (fun f cdv A outer s H vs Q E hr h=>?_)
 ·obtain⟨p,dx,m,rfl,hp,q⟩:=h
  rfl
 obtain⟨p,dx,m,rfl,hp,q⟩:=h
 refine⟨_,(ss1 (sFl (v_ 0) (v_ 1))),?_⟩
 exact⟨_,rfl,_,rfl,p,C_Numbers,dx,[],rfl,hp,ZZ.c_Numbers.cl,ZZ.n_Numbers_mask,(by show 0<1000;decide),q⟩
theorem acC:DfMD P w K mg base C_Last "__init__" 1 ["self","back"] (afT K C_Last) [.int 0]:=by
 refine ZZ.F_Last___init__.dfs af9 (fun vs H Q E h=>?_) (fun f cdv A outer s H vs Q E hr h=>?_)
 ·obtain⟨p,dx,m,rfl,hp,q⟩:=h
  rfl
 obtain⟨p,dx,m,rfl,hp,q⟩:=h
 refine⟨_,(ss1 (sFl (v_ 0) (v_ 1))),?_⟩
 exact⟨_,rfl,_,rfl,p,C_Last,dx,[],rfl,hp,ZZ.c_Last.cl,ZZ.n_Last_back,(by show 0<1000;decide),q⟩
theorem af7:DfM P w K mg base C_Near "__init__" 1 ["self","day"] (afZ K C_Near):=by
 refine ZZ.F_Near___init__.dfs afU (fun vs H Q E h=>?_) (fun f cdv A outer s H vs Q E hr h=>?_)
 ·obtain⟨p,dx,m,rfl,hp,q⟩:=h
  rfl
 obtain⟨p,dx,m,rfl,hp,q⟩:=h
 refine⟨_,(ss1 (sFl (v_ 0) (v_ 1))),?_⟩
 exact⟨_,rfl,_,rfl,p,C_Near,dx,[],rfl,hp,ZZ.c_Near.cl,ZZ.n_Near_day,(by show 0<1000;decide),q⟩
theorem adD:DfM P w K mg base C_Weekdays "__init__" 1 ["self","mask"] (adY K C_Weekdays):=by
 refine ZZ.F_Weekdays___init__.dfs ac4 (fun vs H Q E h=>?_) (fun f cdv A outer s H vs Q E hr h=>?_)
 ·obtain⟨p,dx,m,rfl,hp,q⟩:=h
  rfl
 obtain⟨p,dx,m,rfl,hp,q⟩:=h
 refine⟨_,(ss1 (sFl (v_ 0) (v_ 1))),?_⟩
 exact⟨_,rfl,_,rfl,p,C_Weekdays,dx,[],rfl,hp,ZZ.c_Weekdays.cl,ZZ.n_Weekdays_mask,(by show 0<1000;decide),q⟩
theorem ag3:DfM P w K mg base C_Nth "__init__" 1 ["self","weekday","many"] (ahA K C_Nth):=by
 refine ZZ.F_Nth___init__.dfs ag0 (fun vs H Q E h=>?_) (fun f cdv A outer s H vs Q E hr h=>?_)
 ·obtain⟨p,dx,wd,m,rfl,hp,q⟩:=h
  rfl
 obtain⟨p,dx,wd,m,rfl,hp,q⟩:=h
 refine⟨_,(ssC (sFl (v_ 0) (v_ 1))
   (ss1 (sFl (v_ 0) (v_ 2)))),?_⟩
 exact⟨_,rfl,_,rfl,p,C_Nth,dx,[],rfl,hp,ZZ.c_Nth.cl,ZZ.n_Nth_weekday,(by show 0<1000;decide),_,rfl,_,rfl,p,C_Nth,dx,_,rfl,aaA,ZZ.c_Nth.cl,ZZ.n_Nth_many,(by show 1<1000;decide),q⟩
theorem ad5:DfM P w K mg base C_LastOne "__init__" 1 ["self","weekday"] (ad9 K C_LastOne):=by
 refine ZZ.F_LastOne___init__.dfs aeA (fun vs H Q E h=>?_) (fun f cdv A outer s H vs Q E hr h=>?_)
 ·obtain⟨p,dx,m,rfl,hp,q⟩:=h
  rfl
 obtain⟨p,dx,m,rfl,hp,q⟩:=h
 refine⟨_,(ss1 (sFl (v_ 0) (v_ 1))),?_⟩
 exact⟨_,rfl,_,rfl,p,C_LastOne,dx,[],rfl,hp,ZZ.c_LastOne.cl,ZZ.n_LastOne_weekday,(by show 0<1000;decide),q⟩
theorem af2:Df P w K mg base "read_day_mark" 4 ["item"] (af5 K C_Numbers C_Last C_Near C_LastWork C_Weekdays C_Nth C_LastOne C_Mark):=by
 refine ZZ.F_read_day_mark.dfs sc_read_day_mark (fun vs H Q E h=>?_) (fun f cdv A outer s H vs Q E hr h=>?_)
 ·obtain⟨t,rfl,hl,q⟩:=h
  rfl
 obtain⟨t,rfl,hl,q⟩:=h
 refine⟨_,(ssC (sIf (tCm oEq (v_ 0) (eSx [76])) (ss1 (aaH (eMkD ZZ.c_Last (acC ZZ) hr))) ssN)
   (ssC (sIf (tCm oEq (v_ 0) (eSx [76,87])) (ss1 (aaH (ac2 ZZ.c_LastWork ZZ.i_LastWork))) ssN)
   (ssC (sIf (tVa (eSwN (v_ 0) (eSx [76,45]))) (ssC (aaN 1 (eD (aa6 ZZ) hr (aC (eSl slX (v_ 0) (poS eI) poN) (aC eI (aC (eGl (v:=.int 30) ZZ.m_MOST_BACK ⟨_,rfl⟩) aN)))) sc_read_day_mark.nd)
   (ss1 (aaH (eIf (tCm ahS (v_ 1) eN) eN (eMk ZZ.c_Last (acC ZZ).dfm hr (aC (v_ 1) aN)))))) ssN)
   (ssC (sIf (tVa (eEw (v_ 0) (eSx [87]))) (ssC (aaN 2 (eD (aa6 ZZ) hr (aC (eSl slX (v_ 0) poN (poS (eUn aEK eI))) (aC eI (aC (eGl (v:=.int 31) ZZ.m_MOST_DAY ⟨_,rfl⟩) aN)))) sc_read_day_mark.nd)
   (ss1 (aaH (eIf (tCm ahS (v_ 2) eN) eN (eMk ZZ.c_Near (af7 ZZ) hr (aC (v_ 2) aN)))))) ssN)
   (ss1 (aaH eN)))))),?_⟩
 have hz:t.length<=sizeLine:=by rw[sizeLine_eq];omega
 have hc1:=afG t (some 2) none
 have hc2:=afG t none (some (-1))
 refine⟨_,rfl,rfl,_,rfl,ifX (fun c=>?a0) (fun c1=>⟨_,rfl,rfl,_,rfl,ifX (fun c=>?a1) (fun c2=>⟨_,rfl,rfl,t,[76,45],rfl,rfl,_,rfl,ifD (fun c=>?a2) (fun c3=>⟨_,rfl,rfl,t,87,rfl,rfl,_,rfl,ifD (fun c=>?a3) (fun c4=>?a4)⟩)⟩)⟩)⟩
 case a0=>
  have e:acF t=some (.lst 0):=by unfold acF;rw[if_pos c]
  rw[e] at q
  exact fun xo dx nx ndx nex=>⟨xo,dx,0,rfl,aaA,rfl,q _ _ (ab3 nx ndx) ⟨xo,rfl,dx,aaA⟩⟩
 case a1=>
  have e:acF t=some .wrk:=by unfold acF;rw[if_neg c1,if_pos c]
  rw[e] at q
  exact fun xo dx nx ndx nex=>q _ _ (aaF nx ndx) ⟨xo,rfl,dx,aaA⟩
 case a2=>
  have e:acF t=(aaU 1 30 (ad4 t (some 2) none)).map Mk.lst:=by unfold acF;rw[if_neg c1,if_neg c2,if_pos c]
  rw[e] at q
  refine⟨_,rfl,_,rfl,t,rfl,hz,_,1,30,rfl,(by omega),fun H1 s1=>?_⟩
  cases en:aaU 1 30 (ad4 t (some 2) none) with
  |none=>
   rw[en] at q
   exact⟨_,rfl,rfl,_,rfl,ifT rfl (q _ _ s1 rfl)⟩
  |some b=>
   rw[en] at q
   exact⟨_,rfl,rfl,_,rfl,ifF rfl ⟨_,rfl,fun xo dx nx ndx nex=>⟨xo,dx,_,rfl,aaA,rfl,q _ _ (s1.trans (ab3 nx ndx)) ⟨xo,rfl,dx,aaA⟩⟩⟩⟩
 case a3=>
  have e:acF t=(aaU 1 31 (ad4 t none (some (-1)))).map Mk.nea:=by unfold acF;rw[if_neg c1,if_neg c2,if_neg c3,if_pos c]
  rw[e] at q
  refine⟨_,rfl,_,rfl,_,rfl,t,rfl,hz,_,1,31,rfl,(by omega),fun H1 s1=>?_⟩
  cases en:aaU 1 31 (ad4 t none (some (-1))) with
  |none=>
   rw[en] at q
   exact⟨_,rfl,rfl,_,rfl,ifT rfl (q _ _ s1 rfl)⟩
  |some b=>
   rw[en] at q
   exact⟨_,rfl,rfl,_,rfl,ifF rfl ⟨_,rfl,fun xo dx nx ndx nex=>⟨xo,dx,_,rfl,aaA,rfl,q _ _ (s1.trans (ab3 nx ndx)) ⟨xo,rfl,dx,aaA⟩⟩⟩⟩
 case a4=>
  have e:acF t=none:=by unfold acF;rw[if_neg c1,if_neg c2,if_neg c3,if_neg c4]
  rw[e] at q
  exact q _ _ (Same.refl H) rfl
theorem acY:Df P w K mg base "read_weekday" 4 ["text"] (agW K):=by
 refine ZZ.F_read_weekday.dfs sc_read_weekday (fun vs H Q E h=>?_) (fun f cdv A outer s H vs Q E hr h=>?_)
 ·obtain⟨t,rfl,hl,q⟩:=h
  rfl
 obtain⟨t,rfl,hl,q⟩:=h
 refine⟨_,(ssC (aaN 1 (eD (aa6 ZZ) hr (aC (v_ 0) (aC eI (aC (eGl (v:=.int 7) ZZ.m_SUNDAY_TOO ⟨_,rfl⟩) aN)))) sc_read_weekday.nd)
   (ss1 (aaH (eIf (tCm oEq (v_ 1) (eGl (v:=.int 7) ZZ.m_SUNDAY_TOO ⟨_,rfl⟩)) (eGl (v:=.int 0) ZZ.m_SUNDAY ⟨_,rfl⟩) (v_ 1))))),?_⟩
 refine⟨_,rfl,t,0,7,rfl,(by omega),fun H1 s1=>?_⟩
 cases en:aaU 0 7 t with
 |none=>
  have e:wdN t=none:=by unfold wdN;rw[en];rfl
  rw[e] at q
  exact⟨_,rfl,rfl,_,rfl,ifF (decide_eq_false fun z=>nomatch z) ⟨_,rfl,q _ s1⟩⟩
 |some n=>
  have e:wdN t=some (if n=7 then 0 else n):=by unfold wdN;rw[en];rfl
  rw[e] at q
  refine⟨_,rfl,rfl,_,rfl,ifI (fun c=>?_) (fun c=>⟨_,rfl,?_⟩)⟩
  ·rw[if_pos c] at q
   exact q _ s1
  ·rw[if_neg c] at q
   exact q _ s1
theorem adI:Df P w K mg base "read_weekday_mark" 5 ["item"] (ac6 K C_Numbers C_Last C_Near C_LastWork C_Weekdays C_Nth C_LastOne C_Mark):=by
 refine ZZ.F_read_weekday_mark.dfs sc_read_weekday_mark (fun vs H Q E h=>?_) (fun f cdv A outer s H vs Q E hr h=>?_)
 ·obtain⟨t,rfl,hl,q⟩:=h
  rfl
 obtain⟨t,rfl,hl,q⟩:=h
 refine⟨_,(ssC (sIf (tVa (eEw (v_ 0) (eSx [76]))) (ssC (aaN 1 (eD (acY ZZ) hr (aC (eSl slX (v_ 0) poN (poS (eUn aEK eI))) aN)) sc_read_weekday_mark.nd)
   (ss1 (aaH (eIf (tCm ahS (v_ 1) eN) eN (eMk ZZ.c_LastOne (ad5 ZZ) hr (aC (v_ 1) aN)))))) ssN)
   (ssC (aaN 2 (arC (v_ 0) (eSx [35])) sc_read_weekday_mark.nd)
   (ssC (sIf (tCm oNe (eCB ahQ ZZ.z_len PySem.boot_len (aC (v_ 2) aN)) eI) (ss1 (aaH eN)) ssN)
   (ssC (aaN 1 (eD (acY ZZ) hr (aC (eIx xL (v_ 2) eI) aN)) sc_read_weekday_mark.nd)
   (ssC (aaN 3 (eD (aa6 ZZ) hr (aC (eIx xL (v_ 2) eI) (aC eI (aC (eGl (v:=.int 5) ZZ.m_MOST_NTH ⟨_,rfl⟩) aN)))) sc_read_weekday_mark.nd)
   (ssC (sIf (tW (wOr (tCm ahS (v_ 1) eN) (acN (tCm ahS (v_ 3) eN)))) (ss1 (aaH eN)) ssN)
   (ss1 (aaH (eMk ZZ.c_Nth (ag3 ZZ) hr (aC (v_ 1) (aC (v_ 3) aN))))))))))),?_⟩
 have hz:t.length<=sizeLine:=by rw[sizeLine_eq];omega
 have hc2:=afG t none (some (-1))
 have hsl:=afI 35 t
 have hml:=abH 35 t
 refine⟨_,rfl,rfl,t,76,rfl,rfl,_,rfl,ifD (fun c=>?a0) (fun c1=>?a1)⟩
 case a0=>
  have e:akS t=(wdN (ad4 t none (some (-1)))).map Mk.one:=by unfold akS;rw[if_pos c]
  rw[e] at q
  refine⟨_,rfl,_,rfl,_,rfl,t,rfl,hz,_,rfl,(by omega),fun H1 s1=>?_⟩
  cases en:wdN (ad4 t none (some (-1))) with
  |none=>
   rw[en] at q
   exact⟨_,rfl,rfl,_,rfl,ifT rfl (q _ _ s1 rfl)⟩
  |some b=>
   rw[en] at q
   exact⟨_,rfl,rfl,_,rfl,ifF rfl ⟨_,rfl,fun xo dx nx ndx nex=>⟨xo,dx,_,rfl,aaA,rfl,q _ _ (s1.trans (ab3 nx ndx)) ⟨xo,rfl,dx,aaA⟩⟩⟩⟩
 case a1=>
  refine⟨_,rfl,rfl,t,35,rfl,rfl,(by rw[sizeLine_eq];omega),fun ps hps=>?_⟩
  have s0:=aaB hps (.lst ((spl 35 t).map fun q=>V.str (Tx q)))
  refine⟨_,rfl,ps,_,rfl,.inl (SqL.of aaA),rfl,_,rfl,?_⟩
  have two:(∃a b,spl 35 t=[a,b])∨(∀a b,spl 35 t≠[a,b]):=by
   by_cases z:∃a b,spl 35 t=[a,b]
   ·exact .inl z
   ·exact .inr fun r s e=>z ⟨r,s,e⟩
  rcases two with ⟨a,b,e2⟩ | hno
  ·have e:akS t=aE3 (wdN a) (aaU 1 5 b):=by unfold akS;rw[if_neg c1,e2]
   rw[e] at q
   have h1:=hml a (by rw[e2];simp)
   have h2:=hml b (by rw[e2];simp)
   rw[e2]
   refine ifF rfl ⟨_,rfl,ps,_,_,_,rfl,rfl,SqL.of aaA,rfl,a,rfl,(by omega),fun H1 s1=>?_⟩
   refine⟨_,rfl,ps,_,_,_,rfl,rfl,SqL.of (s1 _ _ aaA),rfl,b,1,5,rfl,(by omega),fun H2 s2=>?_⟩
   rw[e2] at s0
   cases ew:wdN a with
   |none=>
    rw[ew] at q
    exact⟨_,rfl,rfl,_,rfl,ifT rfl (q _ _ (s0.trans (s1.trans s2)) rfl)⟩
   |some wd=>
    rw[ew] at q
    refine⟨_,rfl,rfl,_,rfl,ifF rfl ⟨_,rfl,rfl,_,rfl,?_⟩⟩
    cases en:aaU 1 5 b with
    |none=>
     rw[en] at q
     exact ifT rfl (q _ _ (s0.trans (s1.trans s2)) rfl)
    |some m=>
     rw[en] at q
     exact ifF rfl ⟨_,rfl,_,rfl,fun xo dx nx ndx nex=>⟨xo,dx,_,_,rfl,aaA,rfl,q _ _ (s0.trans (s1.trans (s2.trans (au5 nx ndx)))) ⟨xo,rfl,dx,aaA⟩⟩⟩
  ·have hlen:¬(spl 35 t).length=2:=fun e=>by
    match h:spl 35 t,e with
    |[r,s],_=>exact hno r s h
   have e:akS t=none:=by
    unfold akS
    rw[if_neg c1]
    split
    ·rename_i a b h
     exact absurd h (hno a b)
    ·rfl
   rw[e] at q
   refine ifT ?_ (q _ _ s0 rfl)
   rw[decide_eq_false fun z=>hlen (by have z:=V.int.inj z;rw[List.length_map] at z;omega)]
   rfl
theorem aeD:Df P w K mg base "read_items" 7 ["text","low","high","read_mark"] (ai4 K C_Numbers C_Last C_Near C_LastWork C_Weekdays C_Nth C_LastOne C_Mark C_read_day_mark C_read_weekday_mark):=by
 refine ZZ.F_read_items.dfs sc_read_items (fun vs H Q E h=>?_) (fun f cdv A outer s H vs Q E hr h=>?_)
 ·obtain⟨l,lo,hi,wk,rfl,hb,hok,q⟩:=h
  rfl
 obtain⟨l,lo,hi,wk,rfl,hb,hok,q⟩:=h
 refine⟨_,(ssC (sIf (tW (wOr (tNo (tVa (eCB cIs ZZ.z_isinstance PyProof.Rows.boot_isinstance (aC (v_ 0) (aC (eTy ZZ.z_str PyProof.Rows.boot_str) aN))))) (acN (tCm oGt (eCB axT ZZ.z_len PySem.boot_len (aC (v_ 0) aN)) (eGl (v:=.int 300) ZZ.m_MOST_SIGNS ⟨_,rfl⟩))))) (ss1 amI) ssN)
   (ssC (aaN 4 (arC (v_ 0) (eSx [44])) sc_read_items.nd)
   (ssC (aaN 5 eI sc_read_items.nd)
   (ssC (aaN 6 (abF aN) sc_read_items.nd)
   (ssC (alM (iE ZZ.z_enumerate (eSl slL (v_ 4) poN (poS (eGl (v:=.int 40) ZZ.m_MOST_ITEMS ⟨_,rfl⟩)))) (gTu (gsC (gN 7 sc_read_items.nd) (gsC (gN 8 sc_read_items.nd) gsN))) (ssC (aaN 9 (eD (ae8 ZZ) hr (aC (v_ 8) (aC (v_ 1) (aC (v_ 2) aN)))) sc_read_items.nd)
   (ss1 (sIf (tCm ahS (v_ 9) eN) (ssC (aaN 10 (abE (eDV ((af2 ZZ).at_ ZZ.m_read_day_mark) hr (v_ 3) (aC (v_ 8) aN)) (eDV ((adI ZZ).at_ ZZ.m_read_weekday_mark) hr (v_ 3) (aC (v_ 8) aN))) sc_read_items.nd)
   (ssC (sIf (tW (wOr (tCm ahS (v_ 10) eN) (acN (tCm oEq (eCB ahQ ZZ.z_len PySem.boot_len (aC (v_ 6) aN)) (eGl (v:=.int 20) ZZ.m_MOST_MARKS ⟨_,rfl⟩))))) (ss1 amI) ssN)
   (ss1 (anD (av8 (v_ 6) (v_ 10)))))) (ss1 (aaN 5 (eOp oOr (v_ 5) (v_ 9)) sc_read_items.nd))))) PassesOwn.never)
   (ssC (sIf (tCm oGt (eCB ahQ ZZ.z_len PySem.boot_len (aC (v_ 4) aN)) (eGl (v:=.int 40) ZZ.m_MOST_ITEMS ⟨_,rfl⟩)) (ss1 amI) ssN)
   (ss1 (aaH (ak5 (aC (v_ 5) (aC (v_ 6) aN))))))))))),?_⟩
 have hl:=hok.len
 have hml:=abH 44 l
 refine⟨_,rfl,_,.str,.str,rfl,(by decide),rfl,_,rfl,ifF rfl ⟨_,rfl,l,rfl,(by rw[sizeLine_eq];omega),_,_,rfl,rfl,_,rfl,?_⟩⟩
 rw[decide_eq_false (show ¬(300:Int)<((l.length:Nat):Int) by omega)]
 refine aaX ⟨_,rfl,rfl,l,44,rfl,rfl,(by rw[sizeLine_eq];omega),fun ps hps=>?_⟩
 have s0:=aaB hps (.lst ((spl 44 l).map fun q=>V.str (Tx q)))
 refine⟨(by show 0<=sizeLine;decide),fun mk hmk=>?_⟩
 have s1:=aaB hmk (.lst [])
 refine⟨_,rfl,_,rfl,ps,_,rfl,SqL.of (s1 _ _ aaA),fun pc hpc=>?_⟩
 have ecut:ac1 ((spl 44 l).map fun q=>V.str (Tx q)) none (some 40)=(spl 44 l).map fun q=>V.str (Tx q):=aE8 (by rw[List.length_map];exact hok.few)
 rw[ecut]
 have hne:pc≠mk:=fun e=>by
  rw[e,aaA] at hpc
  cases hpc
 have s1b:=aaB hpc (.lst ((spl 44 l).map fun q=>V.str (Tx q)))
 refine⟨pc,rfl,⟨_,SqL.of aaA⟩,al8 (K:=K) (a:=pc) (xs:=(spl 44 l).map fun q=>V.str (Tx q)) (fun i σ H2=>∃(u1 u2 u3 u4:Option V) (qs:List Addr),σ=[some (.str (Tx l)),some (.int lo),some (.int hi),some (.ref (if wk=true then C_read_weekday_mark else C_read_day_mark)),some (.ref ps),some (.int (orM (plP lo hi ((spl 44 l).take i)))),some (.ref mk),u1,u2,u3,u4]/\Same (upd H ps (.lst ((spl 44 l).map fun q=>V.str (Tx q)))) H2/\H2 pc=some (.lst ((spl 44 l).map fun q=>V.str (Tx q)))/\H2 mk=some (.lst (qs.map V.ref))/\Ft (MkAt (⟨C_Numbers,C_Last,C_Near,C_LastWork,C_Weekdays,C_Nth,C_LastOne,C_Mark⟩:Cs) H2) qs (mkP wk lo hi ((spl 44 l).take i))) ⟨_,_,_,_,[],rfl,s1.trans s1b,aaA,s1b _ _ aaA,.nil⟩ (fun i σ H2 _ ⟨_,_,_,_,_,_,_,h,_⟩=>SqL.of h) ?turn ?done⟩
 case turn=>
  rintro i x σ H2 T hx ⟨u1,u2,u3,u4,qs,rfl,s2,h2c,h2m,hq⟩ hT
  rw[List.getElem?_map] at hx
  cases ew:(spl 44 l)[i]? with
  |none=>rw[ew] at hx;cases hx
  |some w0=>
   rw[ew] at hx
   obtain rfl:V.str (Tx w0)=x:=Option.some.inj hx
   have hw:=hml w0 (List.mem_of_getElem? ew)
   refine⟨T,_,rfl,SqT.of aaA,rfl,_,_,rfl,_,_,rfl,rfl,?_⟩
   refine⟨_,rfl,_,rfl,_,rfl,w0,lo,hi,rfl,(by omega),hb,fun H3 s3=>?_⟩
   cases em:aaG lo hi w0 with
   |some m=>
    have et:(spl 44 l).take (i+1)=(spl 44 l).take i++[w0]:=by rw[List.take_succ,ew];rfl
    have s23:=(aaB hT _).trans s3
    refine⟨_,rfl,rfl,_,rfl,ifF rfl ⟨_,rfl,_,rfl,_,_,rfl,rfl,?_⟩⟩
    exact⟨_,_,_,_,qs,by rw[et,aCQ em,alY];rfl,s2.trans s23,s23 _ _ h2c,s23 _ _ h2m,by rw[et,aIG em];exact hq.keepM s23.keep⟩
   |none=>
    cases wk with
    |false=>
     have hso:(rdM false w0).isSome=true:=by
      rcases hok.all w0 (List.mem_of_getElem? ew) with h | h
      ·rw[em] at h;cases h
      ·exact h
     obtain⟨k,ek⟩:=Option.isSome_iff_exists.mp hso
     have ek':acF w0=some k:=ek
     refine⟨_,rfl,rfl,_,rfl,ifT rfl ?_⟩
     refine .inl ⟨_,rfl,rfl,_,rfl,w0,rfl,(by omega),fun v H4 s4 hv=>?_⟩
     rw[ek'] at hv
     obtain⟨x,rfl,hx⟩:=hv
     have s24:=(aaB hT _).trans (s3.trans s4)
     have hq4:=hq.keepM s24.keep
     have lq:qs.length=(mkP false lo hi ((spl 44 l).take i)).length:=Paired.length hq
     have l1:=ak7 false lo hi (spl 44 l) (i+1)
     have et:(spl 44 l).take (i+1)=(spl 44 l).take i++[w0]:=by rw[List.take_succ,ew];rfl
     rw[et,ahL em ek,List.length_append,List.length_singleton] at l1
     have hm20:=hok.most
     refine⟨_,rfl,rfl,_,rfl,ifF rfl ⟨_,rfl,mk,_,rfl,.inl (SqL.of (s24 _ _ h2m)),rfl,_,rfl,?_⟩⟩
     refine ifI (fun c=>?_) (fun c=>?_)
     ·rw[List.length_map] at c
      omega
     refine⟨_,rfl,.inl ⟨rfl,_,SqL.of (s24 _ _ h2m)⟩,_,rfl,mk,_,_,rfl,rfl,s24 _ _ h2m,(by rw[List.length_map,sizeLine_eq];omega),?_⟩
     have kp:=ah2 (l':=qs.map V.ref++[.ref x]) (s24 _ _ h2m)
     exact⟨_,_,_,_,qs++[x],by rw[et,awM em];rfl,ab2 hmk (s2.trans s24),by rw[aaE hne];exact s24 _ _ h2c,by rw[List.map_append];exact aaA,by rw[et,ahL em ek];exact Ft.app (hq4.keepM kp) (.cons (hx.keep kp) .nil)⟩
    |true=>
     have hso:(rdM true w0).isSome=true:=by
      rcases hok.all w0 (List.mem_of_getElem? ew) with h | h
      ·rw[em] at h;cases h
      ·exact h
     obtain⟨k,ek⟩:=Option.isSome_iff_exists.mp hso
     have ek':akS w0=some k:=ek
     refine⟨_,rfl,rfl,_,rfl,ifT rfl ?_⟩
     refine .inr ⟨_,rfl,rfl,_,rfl,w0,rfl,(by omega),fun v H4 s4 hv=>?_⟩
     rw[ek'] at hv
     obtain⟨x,rfl,hx⟩:=hv
     have s24:=(aaB hT _).trans (s3.trans s4)
     have hq4:=hq.keepM s24.keep
     have lq:qs.length=(mkP true lo hi ((spl 44 l).take i)).length:=Paired.length hq
     have l1:=ak7 true lo hi (spl 44 l) (i+1)
     have et:(spl 44 l).take (i+1)=(spl 44 l).take i++[w0]:=by rw[List.take_succ,ew];rfl
     rw[et,ahL em ek,List.length_append,List.length_singleton] at l1
     have hm20:=hok.most
     refine⟨_,rfl,rfl,_,rfl,ifF rfl ⟨_,rfl,mk,_,rfl,.inl (SqL.of (s24 _ _ h2m)),rfl,_,rfl,?_⟩⟩
     refine ifI (fun c=>?_) (fun c=>?_)
     ·rw[List.length_map] at c
      omega
     refine⟨_,rfl,.inl ⟨rfl,_,SqL.of (s24 _ _ h2m)⟩,_,rfl,mk,_,_,rfl,rfl,s24 _ _ h2m,(by rw[List.length_map,sizeLine_eq];omega),?_⟩
     have kp:=ah2 (l':=qs.map V.ref++[.ref x]) (s24 _ _ h2m)
     exact⟨_,_,_,_,qs++[x],by rw[et,awM em];rfl,ab2 hmk (s2.trans s24),by rw[aaE hne];exact s24 _ _ h2c,by rw[List.map_append];exact aaA,by rw[et,ahL em ek];exact Ft.app (hq4.keepM kp) (.cons (hx.keep kp) .nil)⟩
 case done=>
  rintro σ H2 ⟨u1,u2,u3,u4,qs,rfl,s2,h2c,h2m,hq⟩
  refine⟨_,rfl,ps,_,rfl,.inl (SqL.of (s2 _ _ aaA)),_,_,rfl,rfl,_,rfl,?_⟩
  have hfew:=hok.few
  rw[decide_eq_false (show ¬(40:Int)<((((spl 44 l).map fun q=>V.str (Tx q)).length:Nat):Int) by rw[List.length_map];omega)]
  rw[List.length_map,List.take_length] at hq ⊢
  refine aaX ⟨_,rfl,_,rfl,(by show 2<=sizeLine;decide),fun p hp=>?_⟩
  have s3:=aaB hp (.tup [.int (orM (plP lo hi (spl 44 l))),.ref mk])
  exact q p mk qs _ (none_of s0 hmk) (s0.trans (s2.trans s3)) aaA (s3 _ _ h2m) (hq.keepM s3.keep)
theorem aj1:Df P w K mg base "read_days" 8 ["text"] (akP K C_Numbers C_Last C_Near C_LastWork C_Weekdays C_Nth C_LastOne C_Mark):=by
 refine ZZ.F_read_days.dfs sc_read_days (fun vs H Q E h=>?_) (fun f cdv A outer s H vs Q E hr h=>?_)
 ·obtain⟨l,rfl,hok,q1,q2⟩:=h
  rfl
 obtain⟨l,rfl,hok,q1,q2⟩:=h
 refine⟨_,(ssC (aaN 1 (eD (aeD ZZ) hr (aC (v_ 0) (aC eI (aC (eGl (v:=.int 31) ZZ.m_MOST_DAY ⟨_,rfl⟩) (aC (eGl (v:=.ref C_read_day_mark) ZZ.m_read_day_mark rfl) aN))))) sc_read_days.nd)
   (ssC (sIf (tCm oEq (v_ 0) (eSx [42])) (ss1 (aaH eN)) ssN)
   (ssC (sIf (tCm oEq (eIx xT (v_ 1) eI) eI) (ss1 (aaH (eIx xT (v_ 1) eI))) ssN)
   (ss1 (aaH (eOp aL7 (abF (aC (eMk ZZ.c_Numbers (ad6 ZZ) hr (aC (eIx xT (v_ 1) eI) aN)) aN)) (eIx xT (v_ 1) eI))))))),?_⟩
 refine⟨_,rfl,l,1,31,false,rfl,⟨by decide,by decide,by decide⟩,hok,fun p m qs H1 hmn s1 hp hm hq=>?_⟩
 have lq:qs.length<=20:=by
  have:=Paired.length hq
  have:=hok.most
  omega
 refine⟨_,rfl,rfl,_,rfl,ifX (fun c=>q1 c _ s1) (fun c=>?_)⟩
 have q2:=q2 c
 unfold aiF at q2
 generalize mkP false 1 31 (spl 44 l)=ms at hq q2
 generalize orM (plP 1 31 (spl 44 l))=M at hp q2
 refine⟨_,rfl,p,_,_,_,rfl,rfl,SqT.of hp,rfl,rfl,_,rfl,ifI (fun c0=>⟨_,rfl,p,_,_,_,rfl,rfl,SqT.of hp,rfl,q2 m qs _ hmn s1 hm ?_⟩) (fun c0=>?_)⟩
 ·have e:aeE false M=[]:=by unfold aeE;rw[if_pos c0]
  rw[e]
  exact hq
 have e:aeE false M=[.num M]:=by unfold aeE;rw[if_neg c0];rfl
 rw[e] at q2
 refine⟨_,rfl,p,_,_,_,rfl,rfl,SqT.of hp,rfl,fun xo dx nx ndx nex=>⟨xo,dx,_,rfl,aaA,rfl,(by show 1<=sizeLine;decide),fun l1 hl1=>?_⟩⟩
 have n1:Same H1 (upd (upd (upd H1 dx (.own xo)) xo (.ins C_Numbers dx [])) xo (.ins C_Numbers dx [("mask",.int M)])):=ab3 nx ndx
 have n2:=n1.trans (aaB hl1 (.lst [.ref xo]))
 refine⟨_,rfl,p,_,_,_,rfl,rfl,SqT.of (n2 _ _ hp),rfl,l1,m,_,_,rfl,rfl,aaA,n2 _ _ hm,(by rw[List.length_map,sizeLine_eq];show 1+_<=_;omega),fun l2 hl2=>?_⟩
 have n3:=n2.trans (aaB hl2 (.lst ([.ref xo]++qs.map V.ref)))
 exact q2 l2 (xo::qs) _ (none_of (s1.trans n2) hl2) (s1.trans n3) aaA (.cons ⟨dx,(aaB hl2 _) _ _ ((aaB hl1 _) _ _ aaA)⟩ (hq.keepM n3.keep))
theorem af6:Df P w K mg base "read_weekdays" 8 ["text"] (af8 K C_Numbers C_Last C_Near C_LastWork C_Weekdays C_Nth C_LastOne C_Mark):=by
 refine ZZ.F_read_weekdays.dfs sc_read_weekdays (fun vs H Q E h=>?_) (fun f cdv A outer s H vs Q E hr h=>?_)
 ·obtain⟨l,rfl,hok,q1,q2⟩:=h
  rfl
 obtain⟨l,rfl,hok,q1,q2⟩:=h
 refine⟨_,(ssC (aaN 1 (eD (aeD ZZ) hr (aC (v_ 0) (aC eI (aC (eGl (v:=.int 7) ZZ.m_SUNDAY_TOO ⟨_,rfl⟩) (aC (eGl (v:=.ref C_read_weekday_mark) ZZ.m_read_weekday_mark rfl) aN))))) sc_read_weekdays.nd)
   (ssC (sIf (tCm oEq (v_ 0) (eSx [42])) (ss1 (aaH eN)) ssN)
   (ssC (sIf (tCm oEq (eIx xT (v_ 1) eI) eI) (ss1 (aaH (eIx xT (v_ 1) eI))) ssN)
   (ssC (aaN 2 (eOp aOC (eOp oOr (eIx xT (v_ 1) eI) (eOp aO5 (eIx xT (v_ 1) eI) (eGl (v:=.int 7) ZZ.m_SUNDAY_TOO ⟨_,rfl⟩))) (eGl (v:=.int 127) ZZ.m_ALL_WEEKDAYS ⟨_,rfl⟩)) sc_read_weekdays.nd)
   (ss1 (aaH (eOp aL7 (abF (aC (eMk ZZ.c_Weekdays (adD ZZ) hr (aC (v_ 2) aN)) aN)) (eIx xT (v_ 1) eI)))))))),?_⟩
 refine⟨_,rfl,l,0,7,true,rfl,⟨by decide,by decide,by decide⟩,hok,fun p m qs H1 hmn s1 hp hm hq=>?_⟩
 have lq:qs.length<=20:=by
  have:=Paired.length hq
  have:=hok.most
  omega
 refine⟨_,rfl,rfl,_,rfl,ifX (fun c=>q1 c _ s1) (fun c=>?_)⟩
 have q2:=q2 c
 unfold aiF at q2
 generalize mkP true 0 7 (spl 44 l)=ms at hq q2
 generalize orM (plP 0 7 (spl 44 l))=M at hp q2
 refine⟨_,rfl,p,_,_,_,rfl,rfl,SqT.of hp,rfl,rfl,_,rfl,ifI (fun c0=>⟨_,rfl,p,_,_,_,rfl,rfl,SqT.of hp,rfl,q2 m qs _ hmn s1 hm ?_⟩) (fun c0=>?_)⟩
 ·have e:aeE true M=[]:=by unfold aeE;rw[if_pos c0]
  rw[e]
  exact hq
 have e:aeE true M=[.wkd (wk7 M)]:=by unfold aeE;rw[if_neg c0];rfl
 rw[e] at q2
 refine⟨_,rfl,p,_,_,_,rfl,rfl,SqT.of hp,rfl,_,rfl,p,_,_,_,rfl,rfl,SqT.of hp,rfl,_,_,rfl,rfl,(by show (0:Int)<=7;decide),_,_,rfl,rfl,_,_,rfl,rfl,?_⟩
 refine⟨_,rfl,fun xo dx nx ndx nex=>⟨xo,dx,_,rfl,aaA,rfl,(by show 1<=sizeLine;decide),fun l1 hl1=>?_⟩⟩
 have n1:Same H1 (upd (upd (upd H1 dx (.own xo)) xo (.ins C_Weekdays dx [])) xo (.ins C_Weekdays dx [("mask",.int (wk7 M))])):=ab3 nx ndx
 have n2:=n1.trans (aaB hl1 (.lst [.ref xo]))
 refine⟨_,rfl,p,_,_,_,rfl,rfl,SqT.of (n2 _ _ hp),rfl,l1,m,_,_,rfl,rfl,aaA,n2 _ _ hm,(by rw[List.length_map,sizeLine_eq];show 1+_<=_;omega),fun l2 hl2=>?_⟩
 have n3:=n2.trans (aaB hl2 (.lst ([.ref xo]++qs.map V.ref)))
 exact q2 l2 (xo::qs) _ (none_of (s1.trans n2) hl2) (s1.trans n3) aaA (.cons ⟨dx,(aaB hl2 _) _ _ ((aaB hl1 _) _ _ aaA)⟩ (hq.keepM n3.keep))
theorem ak0:Df P w K mg base "times_of" 3 ["hours","minutes"] (amG K):=by
 refine ZZ.F_times_of.dfs sc_times_of (fun vs H Q E h=>?_) (fun f cdv A outer s H vs Q E hr h=>?_)
 ·obtain⟨h,m,rfl,hh,hm,q⟩:=h
  rfl
 obtain⟨h,m,rfl,hh,hm,q⟩:=h
 refine⟨_,(ssC (aaN 2 eI sc_times_of.nd)
   (ssC (alM (iL (eD (aiZ ZZ) hr (aC (v_ 0) aN))) (gN 3 sc_times_of.nd) (ss1 (aaN 2 (eOp oOr (v_ 2) (eOp aMW (v_ 1) (eOp av1 (eGl (v:=.int 60) ZZ.m_HOUR_MINUTES ⟨_,rfl⟩) (v_ 3)))) sc_times_of.nd)) PassesOwn.never)
   (ss1 (aaH (v_ 2))))),?_⟩
 have bh:=akG hh.1 hh.2
 have bm:=akG hm.1 hm.2
 refine⟨_,rfl,h,rfl,⟨hh.1,by omega⟩,fun p H1 s1 h1=>⟨p,rfl,⟨_,SqL.of h1⟩,afO (K:=K) (a:=p) (xs:=(aCT h).map V.int) (fun i σ H2=>∃(t:Int) (v3:Option V),σ=[some (.int h),some (.int m),some (.int t),v3]/\0<=t/\Same H1 H2) ⟨_,_,rfl,Int.le_refl 0,Same.refl _⟩ (fun i σ H2 _ ⟨_,_,_,_,s2⟩=>SqL.of (s2 _ _ h1)) ?turn ?done⟩⟩
 case done=>
  rintro σ H2 ⟨t,v3,rfl,ht,s2⟩
  exact⟨_,rfl,q t H2 ht (s1.trans s2)⟩
 case turn=>
  rintro i x σ H2 hx ⟨t,v3,rfl,ht,s2⟩
  rw[List.getElem?_map] at hx
  cases ez:(aCT h)[i]? with
  |none=>rw[ez] at hx;cases hx
  |some z=>
   rw[ez] at hx
   obtain rfl:V.int z=x:=Option.some.inj hx
   have hz:=List.mem_of_getElem? ez
   rw[aAQ hh.1 hh.2] at hz
   obtain⟨n,hn,_,rfl⟩:=flt_mem.mp hz
   refine⟨_,rfl,_,rfl,_,rfl,_,_,rfl,rfl,.inl ⟨by decide,by decide⟩,_,_,rfl,rfl,⟨?_,?_,?_⟩,_,_,rfl,rfl,?_⟩
   ·omega
   ·omega
   ·omega
   ·exact⟨_,_,rfl,alP ht (Int.mul_nonneg hm.1 (Int.le_of_lt (ak1 _))),s2⟩
theorem agX:DfM P w K mg base C_Row "__init__" 4 ["self","fields"] (ag4 K C_Row):=by
 refine ZZ.F_Row___init__.dfs ag1 (fun vs H Q E h=>?_) (fun f cdv A outer s H vs Q E hr h=>?_)
 ·obtain⟨p,dx,fa,m0,m1,m3,dv,wv,rfl,hp,hf,h0,h1,q⟩:=h
  rfl
 obtain⟨p,dx,fa,m0,m1,m3,dv,wv,rfl,hp,hf,h0,h1,q⟩:=h
 refine⟨_,(ssC (sFl (v_ 0) (eIx xL (v_ 1) (eGl (v:=.int 0) ZZ.m_MINUTE ⟨_,rfl⟩)))
   (ssC (sFl (v_ 0) (eIx xL (v_ 1) (eGl (v:=.int 1) ZZ.m_HOUR ⟨_,rfl⟩)))
   (ssC (sFl (v_ 0) (eIx xL (v_ 1) (eGl (v:=.int 2) ZZ.m_DAY ⟨_,rfl⟩)))
   (ssC (sFl (v_ 0) (eIx xL (v_ 1) (eGl (v:=.int 3) ZZ.m_MONTH ⟨_,rfl⟩)))
   (ssC (sFl (v_ 0) (eIx xL (v_ 1) (eGl (v:=.int 4) ZZ.m_WEEKDAY ⟨_,rfl⟩)))
   (ss1 (sFl (v_ 0) (eD (ak0 ZZ) hr (aC (eFl (v_ 0)) (aC (eFl (v_ 0)) aN)))))))))),?_⟩
 have hfp:fa≠p:=fun e=>by rw[e,hp] at hf;cases hf
 have g0:H fa=some (.lst [.int m0,.int m1,dv,.int m3,wv]):=hf
 have g1:(upd H p (.ins C_Row dx (aaP "minute_mask" (.int m0) []))) fa=some (.lst [.int m0,.int m1,dv,.int m3,wv]):=by rw[aaE hfp];exact g0
 have g2:(upd (upd H p (.ins C_Row dx (aaP "minute_mask" (.int m0) []))) p (.ins C_Row dx (aaP "hour_mask" (.int m1) (aaP "minute_mask" (.int m0) [])))) fa=some (.lst [.int m0,.int m1,dv,.int m3,wv]):=by rw[aaE hfp];exact g1
 have g3:(upd (upd (upd H p (.ins C_Row dx (aaP "minute_mask" (.int m0) []))) p (.ins C_Row dx (aaP "hour_mask" (.int m1) (aaP "minute_mask" (.int m0) [])))) p (.ins C_Row dx (aaP "day_marks" dv (aaP "hour_mask" (.int m1) (aaP "minute_mask" (.int m0) []))))) fa=some (.lst [.int m0,.int m1,dv,.int m3,wv]):=by rw[aaE hfp];exact g2
 have g4:(upd (upd (upd (upd H p (.ins C_Row dx (aaP "minute_mask" (.int m0) []))) p (.ins C_Row dx (aaP "hour_mask" (.int m1) (aaP "minute_mask" (.int m0) [])))) p (.ins C_Row dx (aaP "day_marks" dv (aaP "hour_mask" (.int m1) (aaP "minute_mask" (.int m0) []))))) p (.ins C_Row dx (aaP "month_mask" (.int m3) (aaP "day_marks" dv (aaP "hour_mask" (.int m1) (aaP "minute_mask" (.int m0) [])))))) fa=some (.lst [.int m0,.int m1,dv,.int m3,wv]):=by rw[aaE hfp];exact g3
 have g5:(upd (upd (upd (upd (upd H p (.ins C_Row dx (aaP "minute_mask" (.int m0) []))) p (.ins C_Row dx (aaP "hour_mask" (.int m1) (aaP "minute_mask" (.int m0) [])))) p (.ins C_Row dx (aaP "day_marks" dv (aaP "hour_mask" (.int m1) (aaP "minute_mask" (.int m0) []))))) p (.ins C_Row dx (aaP "month_mask" (.int m3) (aaP "day_marks" dv (aaP "hour_mask" (.int m1) (aaP "minute_mask" (.int m0) [])))))) p (.ins C_Row dx (aaP "weekday_marks" wv (aaP "month_mask" (.int m3) (aaP "day_marks" dv (aaP "hour_mask" (.int m1) (aaP "minute_mask" (.int m0) []))))))) fa=some (.lst [.int m0,.int m1,dv,.int m3,wv]):=by rw[aaE hfp];exact g4
 have l5:∀(f:Str) (v:V),(amH m0 m1 dv m3 wv 0).lookup f=some v->f≠"time_mask"->(aaP "weekday_marks" wv (aaP "month_mask" (.int m3) (aaP "day_marks" dv (aaP "hour_mask" (.int m1) (aaP "minute_mask" (.int m0) []))))).lookup f=some v:=fun f v h hne=>by
  unfold amH at h
  rw[aaM,if_neg hne] at h
  exact h
 refine⟨_,rfl,fa,_,_,_,rfl,rfl,SqL.of g0,rfl,_,rfl,p,C_Row,dx,_,rfl,hp,ZZ.c_Row.cl,ZZ.n_Row_minute_mask,(by show 0<1000;decide),_,rfl,fa,_,_,_,rfl,rfl,SqL.of g1,rfl,_,rfl,p,C_Row,dx,_,rfl,aaA,ZZ.c_Row.cl,ZZ.n_Row_hour_mask,(by show 1<1000;decide),_,rfl,fa,_,_,_,rfl,rfl,SqL.of g2,rfl,_,rfl,p,C_Row,dx,_,rfl,aaA,ZZ.c_Row.cl,ZZ.n_Row_day_marks,(by show 2<1000;decide),_,rfl,fa,_,_,_,rfl,rfl,SqL.of g3,rfl,_,rfl,p,C_Row,dx,_,rfl,aaA,ZZ.c_Row.cl,ZZ.n_Row_month_mask,(by show 3<1000;decide),_,rfl,fa,_,_,_,rfl,rfl,SqL.of g4,rfl,_,rfl,p,C_Row,dx,_,rfl,aaA,ZZ.c_Row.cl,ZZ.n_Row_weekday_marks,(by show 4<1000;decide),_,rfl,p,C_Row,dx,_,_,rfl,aaA,ZZ.c_Row.cl,ZZ.n_Row_hour_mask,l5 _ _ (aiV ..) (by decide +kernel),_,rfl,p,C_Row,dx,_,_,rfl,aaA,ZZ.c_Row.cl,ZZ.n_Row_minute_mask,l5 _ _ (agA ..) (by decide +kernel),m1,m0,rfl,h1,h0,fun t HT ht sT=>?_⟩
 refine⟨_,rfl,p,C_Row,dx,_,rfl,sT _ _ aaA,ZZ.c_Row.cl,ZZ.n_Row_time_mask,(by show 5<1000;decide),q t _ aaA fun b o hb hne=>?_⟩
 rw[aaE hne]
 refine sT _ _ ?_
 rw[aaE hne,aaE hne,aaE hne,aaE hne,aaE hne]
 exact hb
theorem akL:Df P w K mg base "read_word" 9 ["word","place"] (aj6 K C_Numbers C_Last C_Near C_LastWork C_Weekdays C_Nth C_LastOne C_Mark):=by
 refine ZZ.F_read_word.dfs sc_read_word (fun vs H Q E h=>?_) (fun f cdv A outer s H vs Q E hr h=>?_)
 ·obtain⟨t,pl,rfl,h⟩:=h
  rfl
 obtain⟨t,pl,rfl,h⟩:=h
 refine⟨_,(ssC (sIf (tCm oEq (v_ 1) (eGl (v:=.int 2) ZZ.m_DAY ⟨_,rfl⟩)) (ss1 (aaH (eD (aj1 ZZ) hr (aC (v_ 0) aN)))) ssN)
   (ssC (sIf (tCm oEq (v_ 1) (eGl (v:=.int 4) ZZ.m_WEEKDAY ⟨_,rfl⟩)) (ss1 (aaH (eD (af6 ZZ) hr (aC (v_ 0) aN)))) ssN)
   (ssC (aaN 2 (eDgK (eGl (v:=.ref a_BOUNDS) ZZ.m_BOUNDS rfl) (v_ 1)) sc_read_word.nd)
   (ss1 (aaH (eD (ajA ZZ) hr (aC (v_ 0) (aC (eIx xT (v_ 2) eI) (aC (eIx xT (v_ 2) eI) aN))))))))),?_⟩
 rcases h with ⟨rfl,ko,hT,q⟩ | ⟨rfl,ko,hT,q⟩ | ⟨lo,hi,m,hp,hT,q⟩
 ·cases ko with
  |none=>
   have et:t=[42]:=hT.2.2
   exact⟨_,rfl,rfl,_,rfl,ifI (fun _=>⟨_,rfl,t,rfl,hT.2.1,(fun _ H' s'=>q _ H' s' rfl (fun p e=>nomatch e)),(fun c=>absurd et c)⟩) (fun c=>absurd rfl c)⟩
  |some ks=>
   exact⟨_,rfl,rfl,_,rfl,ifI (fun _=>⟨_,rfl,t,rfl,hT.2.1,(fun e=>absurd e hT.2.2.1),(fun _ m qs H' hm s' hl hF=>q _ H' s' ⟨m,qs,rfl,hl,by rw[←hT.2.2.2.2];exact hF,fun k hk=>(alH hT.2.2.2.1 k hk).2.2⟩ (fun p e=>by cases e;exact hm))⟩) (fun c=>absurd rfl c)⟩
 ·cases ko with
  |none=>
   have et:t=[42]:=hT.2.2
   exact⟨_,rfl,rfl,_,rfl,ifI (fun c=>absurd c (by decide)) (fun _=>⟨_,rfl,rfl,_,rfl,ifI (fun _=>⟨_,rfl,t,rfl,hT.2.1,(fun _ H' s'=>q _ H' s' rfl (fun p e=>nomatch e)),(fun c=>absurd et c)⟩) (fun c=>absurd rfl c)⟩)⟩
  |some ks=>
   exact⟨_,rfl,rfl,_,rfl,ifI (fun c=>absurd c (by decide)) (fun _=>⟨_,rfl,rfl,_,rfl,ifI (fun _=>⟨_,rfl,t,rfl,hT.2.1,(fun e=>absurd e hT.2.2.1),(fun _ m qs H' hm s' hl hF=>q _ H' s' ⟨m,qs,rfl,hl,by rw[←hT.2.2.2.2];exact hF,fun k hk=>(alH hT.2.2.2.1 k hk).2.2⟩ (fun p e=>by cases e;exact hm))⟩) (fun c=>absurd rfl c)⟩)⟩
 ·have hl:=hT.len
  have hne:pl≠2/\pl≠4:=by omega
  rcases hp with ⟨rfl,rfl,rfl⟩ | ⟨rfl,rfl,rfl⟩ | ⟨rfl,rfl,rfl⟩
  ·exact⟨_,rfl,rfl,_,rfl,ifI (fun c=>absurd c (by decide)) (fun _=>⟨_,rfl,rfl,_,rfl,ifI (fun c=>absurd c (by decide)) (fun _=>⟨_,rfl,a_BOUNDS,_,_,_,rfl,ZZ.q_BOUNDS,rfl,rfl,_,rfl,_,rfl,a_BOUNDS_0,_,_,_,rfl,rfl,ZZ.q_BOUNDS_0 _,rfl,_,rfl,a_BOUNDS_0,_,_,_,rfl,rfl,ZZ.q_BOUNDS_0 _,rfl,t,_,_,rfl,hl,⟨by decide,by decide,by decide⟩,hT.ok,fun H' s'=>by rw[hT.is];exact q H' s'⟩)⟩)⟩
  ·exact⟨_,rfl,rfl,_,rfl,ifI (fun c=>absurd c (by decide)) (fun _=>⟨_,rfl,rfl,_,rfl,ifI (fun c=>absurd c (by decide)) (fun _=>⟨_,rfl,a_BOUNDS,_,_,_,rfl,ZZ.q_BOUNDS,rfl,rfl,_,rfl,_,rfl,a_BOUNDS_1,_,_,_,rfl,rfl,ZZ.q_BOUNDS_1 _,rfl,_,rfl,a_BOUNDS_1,_,_,_,rfl,rfl,ZZ.q_BOUNDS_1 _,rfl,t,_,_,rfl,hl,⟨by decide,by decide,by decide⟩,hT.ok,fun H' s'=>by rw[hT.is];exact q H' s'⟩)⟩)⟩
  ·exact⟨_,rfl,rfl,_,rfl,ifI (fun c=>absurd c (by decide)) (fun _=>⟨_,rfl,rfl,_,rfl,ifI (fun c=>absurd c (by decide)) (fun _=>⟨_,rfl,a_BOUNDS,_,_,_,rfl,ZZ.q_BOUNDS,rfl,rfl,_,rfl,_,rfl,a_BOUNDS_3,_,_,_,rfl,rfl,ZZ.q_BOUNDS_3 _,rfl,_,rfl,a_BOUNDS_3,_,_,_,rfl,rfl,ZZ.q_BOUNDS_3 _,rfl,t,_,_,rfl,hl,⟨by decide,by decide,by decide⟩,hT.ok,fun H' s'=>by rw[hT.is];exact q H' s'⟩)⟩)⟩
theorem am4:Df P w K mg base "read_at" 10 ["word","place"] (amO K C_Numbers C_Last C_Near C_LastWork C_Weekdays C_Nth C_LastOne C_Mark):=by
 refine ZZ.F_read_at.dfs amZ (fun vs H Q E h=>?_) (fun f cdv A outer s H vs Q E hr h=>?_)
 ·obtain⟨t,pl,rfl,h⟩:=h
  rfl
 obtain⟨t,pl,rfl,h⟩:=h
 refine⟨_,(ss1 (aMF (ss1 (aaH (eD (akL ZZ) hr (aC (v_ 0) (aC (v_ 1) aN))))))),?_⟩
 exact⟨_,rfl,_,rfl,t,pl,rfl,h⟩
theorem adM:Df P w K mg base "read_row" 11 ["text"] (amB K C_Numbers C_Last C_Near C_LastWork C_Weekdays C_Nth C_LastOne C_Mark C_Row):=by
 refine ZZ.F_read_row.dfs sc_read_row (fun vs H Q E h=>?_) (fun f cdv A outer s H vs Q E hr h=>?_)
 ·obtain⟨w0,w1,w2,w3,w4,m0,m1,m3,kd,kw,rfl,f0,f1,f3,d2,d4,hb,q⟩:=h
  rfl
 obtain⟨w0,w1,w2,w3,w4,m0,m1,m3,kd,kw,rfl,f0,f1,f3,d2,d4,hb,q⟩:=h
 refine⟨_,(ssC (sIf (tW (wOr (tNo (tVa (eCB cIs ZZ.z_isinstance PyProof.Rows.boot_isinstance (aC (v_ 0) (aC (eTy ZZ.z_str PyProof.Rows.boot_str) aN))))) (acN (tCm oGt (eCB axT ZZ.z_len PySem.boot_len (aC (v_ 0) aN)) (eGl (v:=.int 1600) ZZ.m_MOST_ROW_SIGNS ⟨_,rfl⟩))))) (ss1 amI) ssN)
   (ssC (aaN 1 (arC (v_ 0) (eSx [32])) sc_read_row.nd)
   (ssC (sIf (tW (wOr (tCm oNe (eCB ahQ ZZ.z_len PySem.boot_len (aC (v_ 1) aN)) (eGl (v:=.int 5) ZZ.m_NO_PLACE ⟨_,rfl⟩)) (acN (tCm oIn (eSx []) (v_ 1))))) (ss1 amI) ssN)
   (ss1 (aaH (eMk ZZ.c_Row (agX ZZ) hr (aC (aGW ["place","word"] [] [] (iE ZZ.z_enumerate (v_ 1)) (fun _ _ _ _ _ _=>gTuc (K:=K) (n:=2) (gsC (gN 0 (show ((["place","word"]:List Str)++([]:List Str)).Nodup by decide +kernel)) (gsC (gN 1 (show ((["place","word"]:List Str)++([]:List Str)).Nodup by decide +kernel)) gsN))) (fun _ _ _ _ _ _=>fsN) (fun _ _ _ _ _ _=>(eD (am4 ZZ) hr (aC (v_ 1) (aC (v_ 0) aN))))) aN))))))),?_⟩
 have n32:∀w∈[w0,w1,w2,w3,w4],32∉w:=fun w hw=>by
  simp only[List.mem_cons,List.not_mem_nil,or_false] at hw
  rcases hw with rfl | rfl | rfl | rfl | rfl
  ·exact f0.sp
  ·exact f1.sp
  ·exact d2.1.1
  ·exact f3.sp
  ·exact d4.1.1
 have nn:∀w∈[w0,w1,w2,w3,w4],w≠[]:=fun w hw=>by
  simp only[List.mem_cons,List.not_mem_nil,or_false] at hw
  rcases hw with rfl | rfl | rfl | rfl | rfl
  ·exact f0.ne
  ·exact f1.ne
  ·exact d2.1.2
  ·exact f3.ne
  ·exact d4.1.2
 have hs:=ac8 32 [w0,w1,w2,w3,w4] (List.cons_ne_nil _ _) n32
 obtain⟨L,eL⟩:∃L,L=abM 32 [w0,w1,w2,w3,w4]:=⟨_,rfl⟩
 have hl:L.length<=1600:=by
  have:=f0.len
  have:=f1.len
  have:=f3.len
  have:=d2.2.1.len
  have:=d4.2.1.len
  rw[eL]
  show (w0++32::(w1++32::(w2++32::(w3++32::w4)))).length<=1600
  simp only[List.length_append,List.length_cons]
  omega
 rw[←eL] at hs ⊢
 refine⟨_,rfl,_,.str,.str,rfl,(by decide),rfl,_,rfl,ifF rfl ⟨_,rfl,L,rfl,(by rw[sizeLine_eq];omega),_,_,rfl,rfl,_,rfl,?_⟩⟩
 rw[decide_eq_false (show ¬(1600:Int)<((L.length:Nat):Int) by omega)]
 refine aaX ⟨_,rfl,rfl,L,32,rfl,rfl,(by rw[sizeLine_eq];omega),fun ps hps=>?_⟩
 rw[hs]
 have s0:=aaB hps (.lst ([w0,w1,w2,w3,w4].map fun q=>V.str (Tx q)))
 refine⟨_,rfl,ps,_,rfl,.inl (SqL.of aaA),rfl,_,rfl,ap4 rfl ⟨_,rfl,ps,_,rfl,.inl (SqL.of aaA),rfl,rfl,_,rfl,?_⟩⟩
 show if inV (.str (Tx [])) ([w0,w1,w2,w3,w4].map fun q=>V.str (Tx q))=true then _ else _
 rw[azS nn]
 refine aaX ⟨_,rfl,ps,rfl,⟨_,SqL.of aaA⟩,amM (xs:=[w0,w1,w2,w3,w4].map fun q=>V.str (Tx q)) (fun D i l H=>i=0/\l=[]∨(∃l',H D=some (.lst l'))/\RR (⟨C_Numbers,C_Last,C_Near,C_LastWork,C_Weekdays,C_Nth,C_LastOne,C_Mark⟩:Cs) m0 m1 m3 (gO false kd) (gO true kw) D i l H) ?u1 ?u2 (by show 5<=sizeLine;decide) (fun D _=>.inl ⟨rfl,rfl⟩) (SqL.of aaA) ?st ?dn⟩
 case u1=>
  rintro D i l HX l' (h | ⟨hl,h⟩)
  ·exact .inl h
  ·exact .inr ⟨⟨_,aaA⟩,h.upd hl⟩
 case u2=>
  rintro D i l HX HY s (h | ⟨⟨l',hl⟩,h⟩)
  ·exact .inl h
  ·exact .inr ⟨⟨l',s _ _ hl⟩,h.keep s⟩
 case st=>
  intro i x l D H2 E' F' hx hR hD s2 hz hE hF
  have hR':RR (⟨C_Numbers,C_Last,C_Near,C_LastWork,C_Weekdays,C_Nth,C_LastOne,C_Mark⟩:Cs) m0 m1 m3 (gO false kd) (gO true kw) D i l H2:=by
   rcases hR with ⟨rfl,rfl⟩ | h
   ·rfl
   ·exact h.2
  have up:∀{H5:Hp},Same H2 H5->∃l',H5 D=some (.lst l'):=fun s=>⟨_,s _ _ hz⟩
  have fr:∀{p:Addr},H2 p=none->p≠D:=fun h e=>by rw[e,hz] at h;cases h
  match i,hx,hR' with
  |0,hx,e=>cases hx;exact⟨_,rfl,_,rfl,w0,0,rfl,.inr (.inr ⟨0,59,m0,.inl ⟨rfl,rfl,rfl⟩,f0,fun H' s'=>hE _ _ s' (.inr ⟨up s',by rw[e];rfl⟩)⟩)⟩
  |1,hx,e=>cases hx;exact⟨_,rfl,_,rfl,w1,1,rfl,.inr (.inr ⟨0,23,m1,.inr (.inl ⟨rfl,rfl,rfl⟩),f1,fun H' s'=>hE _ _ s' (.inr ⟨up s',by rw[e];rfl⟩)⟩)⟩
  |2,hx,e=>cases hx;exact⟨_,rfl,_,rfl,w2,2,rfl,.inl ⟨rfl,kd,d2,fun v H' s' hv hn=>hE _ _ s' (.inr ⟨up s',v,by rw[e];rfl,hv,fun p ep=>fr (hn p ep)⟩)⟩⟩
  |3,hx,⟨dv,e,hd⟩=>cases hx;exact⟨_,rfl,_,rfl,w3,3,rfl,.inr (.inr ⟨1,12,m3,.inr (.inr ⟨rfl,rfl,rfl⟩),f3,fun H' s'=>hE _ _ s' (.inr ⟨up s',dv,by rw[e];rfl,hd.keep s'⟩)⟩)⟩
  |4,hx,⟨dv,e,hd⟩=>cases hx;exact⟨_,rfl,_,rfl,w4,4,rfl,.inr (.inl ⟨rfl,kw,d4,fun v H' s' hv hn=>hE _ _ s' (.inr ⟨up s',dv,v,by rw[e];rfl,hd.keep s',hv,fun p ep=>fr (hn p ep)⟩)⟩)⟩
  |i+5,hx,_=>cases hx
 case dn=>
  intro D H2 l hR hD s2 hz
  rcases hR with ⟨e,_⟩ | ⟨_,hR⟩
  ·cases e
  obtain⟨dv,wv,rfl,hd,hw⟩:=hR
  intro x dx nx ndx nex
  have n1:=aaF (a:=.own x) (b:=.ins C_Row dx []) nx ndx
  refine⟨x,dx,D,m0,m1,m3,dv,wv,rfl,aaA,n1 _ _ hz,⟨f0.nn,hb.1⟩,⟨f1.nn,hb.2⟩,fun tm H' hx' hs'=>⟨rfl,?_⟩⟩
  have sX:Same H2 H':=fun b o hb'=>hs' b o (n1 _ _ hb') (fun e=>by rw[e,nx] at hb';cases hb')
  exact q x dx dv wv tm H' (s0.trans (s2.trans sX)) hx' (hd.1.keep sX) (hw.1.keep sX)
theorem adF{k0:Nat}:DfM P w K mg base C_Book "tally" (k0+1) ["self"] (sp1 C_Book):=by
 refine ZZ.F_Book_tally.dfs ai9 (fun vs H Q E h=>?_) (fun f cdv A outer s H vs Q E hr h=>?_)
 ·obtain⟨x,dx,fs,rfl,_⟩:=h
  rfl
 obtain⟨x,dx,fs,rfl,hx,q⟩:=h
 refine⟨_,(ss1 (aaH eI)),?_⟩
 exact q
theorem afC{k0:Nat}:DfM P w K mg base C_Of "tally" (k0+1) ["self"] (sp1 C_Of):=by
 refine ZZ.F_Of_tally.dfs alI (fun vs H Q E h=>?_) (fun f cdv A outer s H vs Q E hr h=>?_)
 ·obtain⟨x,dx,fs,rfl,_⟩:=h
  rfl
 obtain⟨x,dx,fs,rfl,hx,q⟩:=h
 refine⟨_,(ss1 (aaH eI)),?_⟩
 exact q
theorem abN{k0:Nat}{sp0:Sp}(D0:Df P w K mg base "tally_of" k0 ["books"] sp0):DfM P w K mg base C_Joined "tally" (k0+1) ["self"] (spT C_Joined sp0):=by
 refine ZZ.F_Joined_tally.dfs ahF (fun vs H Q E h=>?_) (fun f cdv A outer s H vs Q E hr h=>?_)
 ·obtain⟨x,dx,t,rfl,hx,q⟩:=h
  rfl
 obtain⟨x,dx,t,rfl,hx,q⟩:=h
 refine⟨_,(ss1 (aaH (eDr D0 hr (aC (eFl (v_ 0)) aN)))),?_⟩
 exact⟨_,rfl,x,C_Joined,dx,_,_,rfl,hx,ZZ.c_Joined.cl,ZZ.n_Joined_books,rfl,q⟩
theorem acB{k0:Nat}{sp0:Sp}(D0:Df P w K mg base "tally_of" k0 ["books"] sp0):DfM P w K mg base C_Met "tally" (k0+1) ["self"] (spT C_Met sp0):=by
 refine ZZ.F_Met_tally.dfs akA (fun vs H Q E h=>?_) (fun f cdv A outer s H vs Q E hr h=>?_)
 ·obtain⟨x,dx,t,rfl,hx,q⟩:=h
  rfl
 obtain⟨x,dx,t,rfl,hx,q⟩:=h
 refine⟨_,(ss1 (aaH (eDr D0 hr (aC (eFl (v_ 0)) aN)))),?_⟩
 exact⟨_,rfl,x,C_Met,dx,_,_,rfl,hx,ZZ.c_Met.cl,ZZ.n_Met_books,rfl,q⟩
theorem ac5{k0:Nat}{sp0:Sp}(D0:Df P w K mg base "tally_of" k0 ["books"] sp0):DfM P w K mg base C_Less "tally" (k0+1) ["self"] (spL C_Less sp0):=by
 refine ZZ.F_Less_tally.dfs aiW (fun vs H Q E h=>?_) (fun f cdv A outer s H vs Q E hr h=>?_)
 ·obtain⟨x,dx,v1,v2,rfl,hx,q⟩:=h
  rfl
 obtain⟨x,dx,v1,v2,rfl,hx,q⟩:=h
 refine⟨_,(ss1 (aaH (eDr D0 hr (aC (abF (aC (eFl (v_ 0)) (aC (eFl (v_ 0)) aN))) aN)))),?_⟩
 exact⟨_,rfl,x,C_Less,dx,_,_,rfl,hx,ZZ.c_Less.cl,ZZ.n_Less_one,rfl,_,rfl,x,C_Less,dx,_,_,rfl,hx,ZZ.c_Less.cl,ZZ.n_Less_other,rfl,(by show 2<=sizeLine;decide),fun l hl=>q l hl⟩
theorem acJ{k0:Nat}{sp0:Sp}(D0:Df P w K mg base "tally_of" k0 ["books"] sp0):DfM P w K mg base C_Turned "tally" (k0+1) ["self"] (spU C_Turned sp0):=by
 refine ZZ.F_Turned_tally.dfs ag5 (fun vs H Q E h=>?_) (fun f cdv A outer s H vs Q E hr h=>?_)
 ·obtain⟨x,dx,v1,rfl,hx,q⟩:=h
  rfl
 obtain⟨x,dx,v1,rfl,hx,q⟩:=h
 refine⟨_,(ss1 (aaH (eDr D0 hr (aC (abF (aC (eFl (v_ 0)) aN)) aN)))),?_⟩
 exact⟨_,rfl,x,C_Turned,dx,_,_,rfl,hx,ZZ.c_Turned.cl,ZZ.n_Turned_one,rfl,(by show 1<=sizeLine;decide),fun l hl=>q l hl⟩
theorem adN{k0:Nat}:DfM P w K mg base C_Book "depth" (k0+1) ["self"] (sp1 C_Book):=by
 refine ZZ.F_Book_depth.dfs ai1 (fun vs H Q E h=>?_) (fun f cdv A outer s H vs Q E hr h=>?_)
 ·obtain⟨x,dx,fs,rfl,_⟩:=h
  rfl
 obtain⟨x,dx,fs,rfl,hx,q⟩:=h
 refine⟨_,(ss1 (aaH eI)),?_⟩
 exact q
theorem afQ{k0:Nat}:DfM P w K mg base C_Of "depth" (k0+1) ["self"] (sp1 C_Of):=by
 refine ZZ.F_Of_depth.dfs alZ (fun vs H Q E h=>?_) (fun f cdv A outer s H vs Q E hr h=>?_)
 ·obtain⟨x,dx,fs,rfl,_⟩:=h
  rfl
 obtain⟨x,dx,fs,rfl,hx,q⟩:=h
 refine⟨_,(ss1 (aaH eI)),?_⟩
 exact q
theorem acE{k0:Nat}{sp0:Sp}(D0:Df P w K mg base "depth_of" k0 ["books"] sp0):DfM P w K mg base C_Joined "depth" (k0+1) ["self"] (spT C_Joined sp0):=by
 refine ZZ.F_Joined_depth.dfs agZ (fun vs H Q E h=>?_) (fun f cdv A outer s H vs Q E hr h=>?_)
 ·obtain⟨x,dx,t,rfl,hx,q⟩:=h
  rfl
 obtain⟨x,dx,t,rfl,hx,q⟩:=h
 refine⟨_,(ss1 (aaH (eDr D0 hr (aC (eFl (v_ 0)) aN)))),?_⟩
 exact⟨_,rfl,x,C_Joined,dx,_,_,rfl,hx,ZZ.c_Joined.cl,ZZ.n_Joined_books,rfl,q⟩
theorem aeL{k0:Nat}{sp0:Sp}(D0:Df P w K mg base "depth_of" k0 ["books"] sp0):DfM P w K mg base C_Met "depth" (k0+1) ["self"] (spT C_Met sp0):=by
 refine ZZ.F_Met_depth.dfs akQ (fun vs H Q E h=>?_) (fun f cdv A outer s H vs Q E hr h=>?_)
 ·obtain⟨x,dx,t,rfl,hx,q⟩:=h
  rfl
 obtain⟨x,dx,t,rfl,hx,q⟩:=h
 refine⟨_,(ss1 (aaH (eDr D0 hr (aC (eFl (v_ 0)) aN)))),?_⟩
 exact⟨_,rfl,x,C_Met,dx,_,_,rfl,hx,ZZ.c_Met.cl,ZZ.n_Met_books,rfl,q⟩
theorem adP{k0:Nat}{sp0:Sp}(D0:Df P w K mg base "depth_of" k0 ["books"] sp0):DfM P w K mg base C_Less "depth" (k0+1) ["self"] (spL C_Less sp0):=by
 refine ZZ.F_Less_depth.dfs ai5 (fun vs H Q E h=>?_) (fun f cdv A outer s H vs Q E hr h=>?_)
 ·obtain⟨x,dx,v1,v2,rfl,hx,q⟩:=h
  rfl
 obtain⟨x,dx,v1,v2,rfl,hx,q⟩:=h
 refine⟨_,(ss1 (aaH (eDr D0 hr (aC (abF (aC (eFl (v_ 0)) (aC (eFl (v_ 0)) aN))) aN)))),?_⟩
 exact⟨_,rfl,x,C_Less,dx,_,_,rfl,hx,ZZ.c_Less.cl,ZZ.n_Less_one,rfl,_,rfl,x,C_Less,dx,_,_,rfl,hx,ZZ.c_Less.cl,ZZ.n_Less_other,rfl,(by show 2<=sizeLine;decide),fun l hl=>q l hl⟩
theorem acK{k0:Nat}{sp0:Sp}(D0:Df P w K mg base "depth_of" k0 ["books"] sp0):DfM P w K mg base C_Turned "depth" (k0+1) ["self"] (spU C_Turned sp0):=by
 refine ZZ.F_Turned_depth.dfs ahH (fun vs H Q E h=>?_) (fun f cdv A outer s H vs Q E hr h=>?_)
 ·obtain⟨x,dx,v1,rfl,hx,q⟩:=h
  rfl
 obtain⟨x,dx,v1,rfl,hx,q⟩:=h
 refine⟨_,(ss1 (aaH (eDr D0 hr (aC (abF (aC (eFl (v_ 0)) aN)) aN)))),?_⟩
 exact⟨_,rfl,x,C_Turned,dx,_,_,rfl,hx,ZZ.c_Turned.cl,ZZ.n_Turned_one,rfl,(by show 1<=sizeLine;decide),fun l hl=>q l hl⟩
theorem aj3{k0 n:Nat}{sp0:Sp}(hs:∀m,n=m+1->sp0=tyT K C_Book C_Of C_Joined C_Met C_Less C_Turned m)(DBook:DfM P w K mg base C_Book "tally" k0 ["self"] (sp1 C_Book))(DOf:DfM P w K mg base C_Of "tally" k0 ["self"] (sp1 C_Of))(DJoined:DfM P w K mg base C_Joined "tally" k0 ["self"] (spT C_Joined sp0))(DMet:DfM P w K mg base C_Met "tally" k0 ["self"] (spT C_Met sp0))(DLess:DfM P w K mg base C_Less "tally" k0 ["self"] (spL C_Less sp0))(DTurned:DfM P w K mg base C_Turned "tally" k0 ["self"] (spU C_Turned sp0)):Df P w K mg base "tally_of" (k0+1) ["books"] (tyT K C_Book C_Of C_Joined C_Met C_Less C_Turned n):=by
 refine ZZ.F_tally_of.dfs agH (fun vs H Q E h=>?_) (fun f cdv A outer s H vs Q E hr h=>?_)
 ·obtain⟨a,us,tds,rfl,_⟩:=h
  rfl
 obtain⟨a,us,tds,rfl,hS,hbs,hl,q⟩:=h
 refine⟨_,(ss1 (aaH (eOp ahX eI (eCB aOU ZZ.z_sum PyProof.Rows.boot_sum (aC (abE (agR [] [] (iL (v_ 0)) (fun _ _ _ _ _ _=>fsN) (fun _ _ _ _ _ _=>(abE (aa8 ZZ.c_Book.cl DBook hr (v_ 0)) (abE (aa8 ZZ.c_Of.cl DOf hr (v_ 0)) (abE (aa8 ZZ.c_Joined.cl DJoined hr (v_ 0)) (abE (aa8 ZZ.c_Met.cl DMet hr (v_ 0)) (abE (aa8 ZZ.c_Less.cl DLess hr (v_ 0)) (aa8 ZZ.c_Turned.cl DTurned hr (v_ 0))))))))) (agR [] [] (iT (v_ 0)) (fun _ _ _ _ _ _=>fsN) (fun _ _ _ _ _ _=>(abE (aa8 ZZ.c_Book.cl DBook hr (v_ 0)) (abE (aa8 ZZ.c_Of.cl DOf hr (v_ 0)) (abE (aa8 ZZ.c_Joined.cl DJoined hr (v_ 0)) (abE (aa8 ZZ.c_Met.cl DMet hr (v_ 0)) (abE (aa8 ZZ.c_Less.cl DLess hr (v_ 0)) (aa8 ZZ.c_Turned.cl DTurned hr (v_ 0)))))))))) aN))))),?_⟩
 rcases hS with hS | hS
 ·refine .inl ⟨_,rfl,a,rfl,⟨_,hS⟩,acI (xs:=us) (fun i l=>l=((tds.take i).map Prod.fst).map V.int) (by rw[sizeLine_eq];omega) rfl hS (fun i v l D H2 E' F' hv hR hD s2 hz hE hF=>?_) (fun D H2 l hR hD s2 hz=>?_)⟩
  ·subst hR
   obtain⟨td,etd,hb0⟩:=KM.Paired.at hbs hv
   have hb:=aaD s2 n hb0
   have fin:∀H5,Same H2 H5->E' (.int td.1) H5:=fun H5 s5=>hE _ _ s5 (by rw[List.take_succ,etd,List.map_append,List.map_append];rfl)
   cases n with
   |zero=>exact hb.elim
   |succ m=>
    obtain rfl:=hs m rfl
    obtain⟨x,dx,rfl,hb⟩:=hb
    rcases hb with ⟨e,hx | ⟨r,hx⟩⟩ | ⟨C,t,vs,tds',hC,hx,ht,hp,h0,h8,e1,_,_⟩ | ⟨v1,v2,a',b',hx,h1,h2,e1,_,_⟩ | ⟨v1,a',hx,h1,e⟩
    ·rw[show td.1=1 by rw[e]] at fin
     exact .inl ⟨_,rfl,x,dx,_,rfl,hx,rfl,x,dx,_,rfl,hx,fin _ (Same.refl _)⟩
    ·rw[show td.1=1 by rw[e]] at fin
     exact .inr (.inl ⟨_,rfl,x,dx,_,rfl,hx,lk1 (by decide +kernel),x,dx,_,rfl,hx,fin _ (Same.refl _)⟩)
    ·rw[e1] at fin
     rcases hC with rfl | rfl
     ·exact .inr (.inr (.inl ⟨_,rfl,x,dx,_,rfl,hx,lk1 (by decide +kernel),x,dx,t,rfl,hx,t,vs,tds',rfl,.inr (SqT.of ht),hp,by omega,fin⟩))
     ·exact .inr (.inr (.inr (.inl ⟨_,rfl,x,dx,_,rfl,hx,lk1 (by decide +kernel),x,dx,t,rfl,hx,t,vs,tds',rfl,.inr (SqT.of ht),hp,by omega,fin⟩)))
    ·rw[e1] at fin
     exact .inr (.inr (.inr (.inr (.inl ⟨_,rfl,x,dx,_,rfl,hx,lk2 (by decide +kernel) (by decide +kernel),x,dx,v1,v2,rfl,hx,fun l hl=>⟨l,[v1,v2],[a',b'],rfl,.inl (SqL.of aaA),.cons (aaD (aaB hl _) m h1) (.cons (aaD (aaB hl _) m h2) .nil),(by show 2<=9;decide),fun H5 s5=>by have:=fin H5 ((aaB hl _).trans s5);simpa using this⟩⟩))))
    ·rw[show td.1=1+a'.1 by rw[e]] at fin
     exact .inr (.inr (.inr (.inr (.inr ⟨_,rfl,x,dx,_,rfl,hx,lk1 (by decide +kernel),x,dx,v1,rfl,hx,fun l hl=>⟨l,[v1],[a'],rfl,.inl (SqL.of aaA),.cons (aaD (aaB hl _) m h1) .nil,(by show 1<=9;decide),fun H5 s5=>by have:=fin H5 ((aaB hl _).trans s5);simpa using this⟩⟩))))
  ·subst hR
   refine⟨D,tds.map Prod.fst,rfl,SqL.of (by rw[hz,Paired.length hbs,List.take_length]),_,_,rfl,rfl,q H2 s2⟩
 ·refine .inr ⟨_,rfl,a,rfl,⟨_,hS⟩,alD (xs:=us) (fun i l=>l=((tds.take i).map Prod.fst).map V.int) (by rw[sizeLine_eq];omega) rfl hS (fun i v l D H2 E' F' hv hR hD s2 hz hE hF=>?_) (fun D H2 l hR hD s2 hz=>?_)⟩
  ·subst hR
   obtain⟨td,etd,hb0⟩:=KM.Paired.at hbs hv
   have hb:=aaD s2 n hb0
   have fin:∀H5,Same H2 H5->E' (.int td.1) H5:=fun H5 s5=>hE _ _ s5 (by rw[List.take_succ,etd,List.map_append,List.map_append];rfl)
   cases n with
   |zero=>exact hb.elim
   |succ m=>
    obtain rfl:=hs m rfl
    obtain⟨x,dx,rfl,hb⟩:=hb
    rcases hb with ⟨e,hx | ⟨r,hx⟩⟩ | ⟨C,t,vs,tds',hC,hx,ht,hp,h0,h8,e1,_,_⟩ | ⟨v1,v2,a',b',hx,h1,h2,e1,_,_⟩ | ⟨v1,a',hx,h1,e⟩
    ·rw[show td.1=1 by rw[e]] at fin
     exact .inl ⟨_,rfl,x,dx,_,rfl,hx,rfl,x,dx,_,rfl,hx,fin _ (Same.refl _)⟩
    ·rw[show td.1=1 by rw[e]] at fin
     exact .inr (.inl ⟨_,rfl,x,dx,_,rfl,hx,lk1 (by decide +kernel),x,dx,_,rfl,hx,fin _ (Same.refl _)⟩)
    ·rw[e1] at fin
     rcases hC with rfl | rfl
     ·exact .inr (.inr (.inl ⟨_,rfl,x,dx,_,rfl,hx,lk1 (by decide +kernel),x,dx,t,rfl,hx,t,vs,tds',rfl,.inr (SqT.of ht),hp,by omega,fin⟩))
     ·exact .inr (.inr (.inr (.inl ⟨_,rfl,x,dx,_,rfl,hx,lk1 (by decide +kernel),x,dx,t,rfl,hx,t,vs,tds',rfl,.inr (SqT.of ht),hp,by omega,fin⟩)))
    ·rw[e1] at fin
     exact .inr (.inr (.inr (.inr (.inl ⟨_,rfl,x,dx,_,rfl,hx,lk2 (by decide +kernel) (by decide +kernel),x,dx,v1,v2,rfl,hx,fun l hl=>⟨l,[v1,v2],[a',b'],rfl,.inl (SqL.of aaA),.cons (aaD (aaB hl _) m h1) (.cons (aaD (aaB hl _) m h2) .nil),(by show 2<=9;decide),fun H5 s5=>by have:=fin H5 ((aaB hl _).trans s5);simpa using this⟩⟩))))
    ·rw[show td.1=1+a'.1 by rw[e]] at fin
     exact .inr (.inr (.inr (.inr (.inr ⟨_,rfl,x,dx,_,rfl,hx,lk1 (by decide +kernel),x,dx,v1,rfl,hx,fun l hl=>⟨l,[v1],[a'],rfl,.inl (SqL.of aaA),.cons (aaD (aaB hl _) m h1) .nil,(by show 1<=9;decide),fun H5 s5=>by have:=fin H5 ((aaB hl _).trans s5);simpa using this⟩⟩))))
  ·subst hR
   refine⟨D,tds.map Prod.fst,rfl,SqL.of (by rw[hz,Paired.length hbs,List.take_length]),_,_,rfl,rfl,q H2 s2⟩
theorem akR:Df P w K mg base "tally_of" 1 ["books"] (fun _ _ _ _=>False):=ZZ.F_tally_of.dfs agH (fun _ _ _ _ h=>h.elim) (fun _ _ _ _ _ _ _ _ _ _ h=>h.elim)
theorem adS{k0 n:Nat}{sp0:Sp}(hs:∀m,n=m+1->sp0=tyT K C_Book C_Of C_Joined C_Met C_Less C_Turned m)(D0:Df P w K mg base "tally_of" k0 ["books"] sp0):Df P w K mg base "tally_of" (k0+2) ["books"] (tyT K C_Book C_Of C_Joined C_Met C_Less C_Turned n):=
 aj3 ZZ hs (adF ZZ) (afC ZZ) (abN ZZ D0) (acB ZZ D0) (ac5 ZZ D0) (acJ ZZ D0)
theorem aa2:∀n:Nat,Df P w K mg base "tally_of" (2*n+3) ["books"] (tyT K C_Book C_Of C_Joined C_Met C_Less C_Turned n)
 |0=>adS ZZ (fun m h=>absurd h.symm (Nat.succ_ne_zero m)) (akR ZZ)
 |n+1=>adS ZZ (fun m h=>congrArg (fun z=>tyT K C_Book C_Of C_Joined C_Met C_Less C_Turned z) (Nat.succ.inj h)) (aa2 n)
theorem akX:Df P w K mg base "tally_of" 15 ["books"] (alT K C_Book C_Of C_Joined C_Met C_Less C_Turned):=aa2 ZZ 6
theorem afN:Mb P w K mg base C_Book C_Of C_Joined C_Met C_Less C_Turned "tally" 14 (tyT K C_Book C_Of C_Joined C_Met C_Less C_Turned 5):=⟨ZZ.c_Book.cl,ZZ.c_Of.cl,ZZ.c_Joined.cl,ZZ.c_Met.cl,ZZ.c_Less.cl,ZZ.c_Turned.cl,adF ZZ,afC ZZ,abN ZZ (aa2 ZZ 5),acB ZZ (aa2 ZZ 5),ac5 ZZ (aa2 ZZ 5),acJ ZZ (aa2 ZZ 5)⟩
theorem akF{k0 n:Nat}{sp0:Sp}(hs:∀m,n=m+1->sp0=tyD K C_Book C_Of C_Joined C_Met C_Less C_Turned m)(DBook:DfM P w K mg base C_Book "depth" k0 ["self"] (sp1 C_Book))(DOf:DfM P w K mg base C_Of "depth" k0 ["self"] (sp1 C_Of))(DJoined:DfM P w K mg base C_Joined "depth" k0 ["self"] (spT C_Joined sp0))(DMet:DfM P w K mg base C_Met "depth" k0 ["self"] (spT C_Met sp0))(DLess:DfM P w K mg base C_Less "depth" k0 ["self"] (spL C_Less sp0))(DTurned:DfM P w K mg base C_Turned "depth" k0 ["self"] (spU C_Turned sp0)):Df P w K mg base "depth_of" (k0+1) ["books"] (tyD K C_Book C_Of C_Joined C_Met C_Less C_Turned n):=by
 refine ZZ.F_depth_of.dfs agE (fun vs H Q E h=>?_) (fun f cdv A outer s H vs Q E hr h=>?_)
 ·obtain⟨a,us,tds,rfl,_⟩:=h
  rfl
 obtain⟨a,us,tds,rfl,hS,hbs,h0,hl,q⟩:=h
 refine⟨_,(ss1 (aaH (eOp ahX eI (eCB aNE ZZ.z_max PyProof.Rows.boot_max (aC (abE (agR [] [] (iL (v_ 0)) (fun _ _ _ _ _ _=>fsN) (fun _ _ _ _ _ _=>(abE (aa8 ZZ.c_Book.cl DBook hr (v_ 0)) (abE (aa8 ZZ.c_Of.cl DOf hr (v_ 0)) (abE (aa8 ZZ.c_Joined.cl DJoined hr (v_ 0)) (abE (aa8 ZZ.c_Met.cl DMet hr (v_ 0)) (abE (aa8 ZZ.c_Less.cl DLess hr (v_ 0)) (aa8 ZZ.c_Turned.cl DTurned hr (v_ 0))))))))) (agR [] [] (iT (v_ 0)) (fun _ _ _ _ _ _=>fsN) (fun _ _ _ _ _ _=>(abE (aa8 ZZ.c_Book.cl DBook hr (v_ 0)) (abE (aa8 ZZ.c_Of.cl DOf hr (v_ 0)) (abE (aa8 ZZ.c_Joined.cl DJoined hr (v_ 0)) (abE (aa8 ZZ.c_Met.cl DMet hr (v_ 0)) (abE (aa8 ZZ.c_Less.cl DLess hr (v_ 0)) (aa8 ZZ.c_Turned.cl DTurned hr (v_ 0)))))))))) aN))))),?_⟩
 rcases hS with hS | hS
 ·refine .inl ⟨_,rfl,a,rfl,⟨_,hS⟩,acI (xs:=us) (fun i l=>l=((tds.take i).map Prod.snd).map V.int) (by rw[sizeLine_eq];omega) rfl hS (fun i v l D H2 E' F' hv hR hD s2 hz hE hF=>?_) (fun D H2 l hR hD s2 hz=>?_)⟩
  ·subst hR
   obtain⟨td,etd,hb0⟩:=KM.Paired.at hbs hv
   have hb:=aaD s2 n hb0
   have fin:∀H5,Same H2 H5->E' (.int td.2) H5:=fun H5 s5=>hE _ _ s5 (by rw[List.take_succ,etd,List.map_append,List.map_append];rfl)
   cases n with
   |zero=>exact hb.elim
   |succ m=>
    obtain rfl:=hs m rfl
    obtain⟨x,dx,rfl,hb⟩:=hb
    rcases hb with ⟨e,hx | ⟨r,hx⟩⟩ | ⟨C,t,vs,tds',hC,hx,ht,hp,h0,h8,_,e2,e1⟩ | ⟨v1,v2,a',b',hx,h1,h2,_,e2,e1⟩ | ⟨v1,a',hx,h1,e⟩
    ·rw[show td.2=1 by rw[e]] at fin
     exact .inl ⟨_,rfl,x,dx,_,rfl,hx,rfl,x,dx,_,rfl,hx,fin _ (Same.refl _)⟩
    ·rw[show td.2=1 by rw[e]] at fin
     exact .inr (.inl ⟨_,rfl,x,dx,_,rfl,hx,lk1 (by decide +kernel),x,dx,_,rfl,hx,fin _ (Same.refl _)⟩)
    ·rcases hC with rfl | rfl
     ·exact .inr (.inr (.inl ⟨_,rfl,x,dx,_,rfl,hx,lk1 (by decide +kernel),x,dx,t,rfl,hx,t,vs,tds',rfl,.inr (SqT.of ht),hp,h0,by omega,fun M H5 s5 hM hle=>by rw[show 1+M=td.2 by have:=e2 M hM;have:=hle _ e1;omega];exact fin H5 s5⟩))
     ·exact .inr (.inr (.inr (.inl ⟨_,rfl,x,dx,_,rfl,hx,lk1 (by decide +kernel),x,dx,t,rfl,hx,t,vs,tds',rfl,.inr (SqT.of ht),hp,h0,by omega,fun M H5 s5 hM hle=>by rw[show 1+M=td.2 by have:=e2 M hM;have:=hle _ e1;omega];exact fin H5 s5⟩)))
    ·skip
     exact .inr (.inr (.inr (.inr (.inl ⟨_,rfl,x,dx,_,rfl,hx,lk2 (by decide +kernel) (by decide +kernel),x,dx,v1,v2,rfl,hx,fun l hl=>⟨l,[v1,v2],[a',b'],rfl,.inl (SqL.of aaA),.cons (aaD (aaB hl _) m h1) (.cons (aaD (aaB hl _) m h2) .nil),(by show 0<2;decide),(by show 2<=9;decide),fun M H5 s5 hM hle=>by
       have m1:=hle a'.2 (by simp)
       have m2:=hle b'.2 (by simp)
       have m3:M=a'.2∨M=b'.2:=by simpa using hM
       rw[show 1+M=td.2 by omega]
       exact fin H5 ((aaB hl _).trans s5)⟩⟩))))
    ·rw[show td.2=1+a'.2 by rw[e]] at fin
     exact .inr (.inr (.inr (.inr (.inr ⟨_,rfl,x,dx,_,rfl,hx,lk1 (by decide +kernel),x,dx,v1,rfl,hx,fun l hl=>⟨l,[v1],[a'],rfl,.inl (SqL.of aaA),.cons (aaD (aaB hl _) m h1) .nil,(by show 0<1;decide),(by show 1<=9;decide),fun M H5 s5 hM hle=>by
       have m3:M=a'.2:=by simpa using hM
       rw[m3]
       exact fin H5 ((aaB hl _).trans s5)⟩⟩))))
  ·subst hR
   refine⟨D,tds.map Prod.snd,rfl,SqL.of (by rw[hz,Paired.length hbs,List.take_length]),(by rw[List.length_map,←Paired.length hbs];exact h0),fun M hM hle=>⟨_,_,rfl,rfl,q M H2 s2 hM hle⟩⟩
 ·refine .inr ⟨_,rfl,a,rfl,⟨_,hS⟩,alD (xs:=us) (fun i l=>l=((tds.take i).map Prod.snd).map V.int) (by rw[sizeLine_eq];omega) rfl hS (fun i v l D H2 E' F' hv hR hD s2 hz hE hF=>?_) (fun D H2 l hR hD s2 hz=>?_)⟩
  ·subst hR
   obtain⟨td,etd,hb0⟩:=KM.Paired.at hbs hv
   have hb:=aaD s2 n hb0
   have fin:∀H5,Same H2 H5->E' (.int td.2) H5:=fun H5 s5=>hE _ _ s5 (by rw[List.take_succ,etd,List.map_append,List.map_append];rfl)
   cases n with
   |zero=>exact hb.elim
   |succ m=>
    obtain rfl:=hs m rfl
    obtain⟨x,dx,rfl,hb⟩:=hb
    rcases hb with ⟨e,hx | ⟨r,hx⟩⟩ | ⟨C,t,vs,tds',hC,hx,ht,hp,h0,h8,_,e2,e1⟩ | ⟨v1,v2,a',b',hx,h1,h2,_,e2,e1⟩ | ⟨v1,a',hx,h1,e⟩
    ·rw[show td.2=1 by rw[e]] at fin
     exact .inl ⟨_,rfl,x,dx,_,rfl,hx,rfl,x,dx,_,rfl,hx,fin _ (Same.refl _)⟩
    ·rw[show td.2=1 by rw[e]] at fin
     exact .inr (.inl ⟨_,rfl,x,dx,_,rfl,hx,lk1 (by decide +kernel),x,dx,_,rfl,hx,fin _ (Same.refl _)⟩)
    ·rcases hC with rfl | rfl
     ·exact .inr (.inr (.inl ⟨_,rfl,x,dx,_,rfl,hx,lk1 (by decide +kernel),x,dx,t,rfl,hx,t,vs,tds',rfl,.inr (SqT.of ht),hp,h0,by omega,fun M H5 s5 hM hle=>by rw[show 1+M=td.2 by have:=e2 M hM;have:=hle _ e1;omega];exact fin H5 s5⟩))
     ·exact .inr (.inr (.inr (.inl ⟨_,rfl,x,dx,_,rfl,hx,lk1 (by decide +kernel),x,dx,t,rfl,hx,t,vs,tds',rfl,.inr (SqT.of ht),hp,h0,by omega,fun M H5 s5 hM hle=>by rw[show 1+M=td.2 by have:=e2 M hM;have:=hle _ e1;omega];exact fin H5 s5⟩)))
    ·skip
     exact .inr (.inr (.inr (.inr (.inl ⟨_,rfl,x,dx,_,rfl,hx,lk2 (by decide +kernel) (by decide +kernel),x,dx,v1,v2,rfl,hx,fun l hl=>⟨l,[v1,v2],[a',b'],rfl,.inl (SqL.of aaA),.cons (aaD (aaB hl _) m h1) (.cons (aaD (aaB hl _) m h2) .nil),(by show 0<2;decide),(by show 2<=9;decide),fun M H5 s5 hM hle=>by
       have m1:=hle a'.2 (by simp)
       have m2:=hle b'.2 (by simp)
       have m3:M=a'.2∨M=b'.2:=by simpa using hM
       rw[show 1+M=td.2 by omega]
       exact fin H5 ((aaB hl _).trans s5)⟩⟩))))
    ·rw[show td.2=1+a'.2 by rw[e]] at fin
     exact .inr (.inr (.inr (.inr (.inr ⟨_,rfl,x,dx,_,rfl,hx,lk1 (by decide +kernel),x,dx,v1,rfl,hx,fun l hl=>⟨l,[v1],[a'],rfl,.inl (SqL.of aaA),.cons (aaD (aaB hl _) m h1) .nil,(by show 0<1;decide),(by show 1<=9;decide),fun M H5 s5 hM hle=>by
       have m3:M=a'.2:=by simpa using hM
       rw[m3]
       exact fin H5 ((aaB hl _).trans s5)⟩⟩))))
  ·subst hR
   refine⟨D,tds.map Prod.snd,rfl,SqL.of (by rw[hz,Paired.length hbs,List.take_length]),(by rw[List.length_map,←Paired.length hbs];exact h0),fun M hM hle=>⟨_,_,rfl,rfl,q M H2 s2 hM hle⟩⟩
theorem akU:Df P w K mg base "depth_of" 1 ["books"] (fun _ _ _ _=>False):=ZZ.F_depth_of.dfs agE (fun _ _ _ _ h=>h.elim) (fun _ _ _ _ _ _ _ _ _ _ h=>h.elim)
theorem adT{k0 n:Nat}{sp0:Sp}(hs:∀m,n=m+1->sp0=tyD K C_Book C_Of C_Joined C_Met C_Less C_Turned m)(D0:Df P w K mg base "depth_of" k0 ["books"] sp0):Df P w K mg base "depth_of" (k0+2) ["books"] (tyD K C_Book C_Of C_Joined C_Met C_Less C_Turned n):=
 akF ZZ hs (adN ZZ) (afQ ZZ) (acE ZZ D0) (aeL ZZ D0) (adP ZZ D0) (acK ZZ D0)
theorem abD:∀n:Nat,Df P w K mg base "depth_of" (2*n+3) ["books"] (tyD K C_Book C_Of C_Joined C_Met C_Less C_Turned n)
 |0=>adT ZZ (fun m h=>absurd h.symm (Nat.succ_ne_zero m)) (akU ZZ)
 |n+1=>adT ZZ (fun m h=>congrArg (fun z=>tyD K C_Book C_Of C_Joined C_Met C_Less C_Turned z) (Nat.succ.inj h)) (abD n)
theorem alG:Df P w K mg base "depth_of" 15 ["books"] (alV K C_Book C_Of C_Joined C_Met C_Less C_Turned):=abD ZZ 6
theorem an4:Mb P w K mg base C_Book C_Of C_Joined C_Met C_Less C_Turned "depth" 14 (tyD K C_Book C_Of C_Joined C_Met C_Less C_Turned 5):=⟨ZZ.c_Book.cl,ZZ.c_Of.cl,ZZ.c_Joined.cl,ZZ.c_Met.cl,ZZ.c_Less.cl,ZZ.c_Turned.cl,adN ZZ,afQ ZZ,acE ZZ (abD ZZ 5),aeL ZZ (abD ZZ 5),adP ZZ (abD ZZ 5),acK ZZ (abD ZZ 5)⟩
theorem aeO:Df1 P w K mg base "checked" 16 ["books"] (am6 K C_NoBook C_Book C_Of C_Joined C_Met C_Less C_Turned):=by
 refine ZZ.F_checked.dfs1 amX (fun vs H Q E h=>?_) (fun f cdv A outer s H vs Q E hr h=>?_)
 ·obtain⟨a,us,r,rfl,hS,hl,hv,qE,qQ⟩:=h
  rfl
 obtain⟨a,us,r,rfl,hS,hl,hv,qE,qQ⟩:=h
 refine⟨_,(ssC (sIf (tNo (tVa (eCB aL8 ZZ.z_all boot_all (aC (agR [] [] (iL (v_ 0)) (fun _ _ _ _ _ _=>fsN) (fun _ _ _ _ _ _=>(eCB (cInc (K:=K)) ZZ.z_isinstance PyProof.Rows.boot_isinstance (aC (v_ 0) (aC (eGl (v:=.ref C_Book) ZZ.c_Book.at_ rfl) aN))))) aN)))) (ss1 (sRz ak9 ZZ.xc_NoBook (aC (eSx [110,111,32,98,111,111,107]) aN))) ssN)
   (ssC (sIf (tCm oGt (eD (akX ZZ) hr (aC (v_ 0) aN)) (eGl (v:=.int 24) ZZ.m_MOST_TALLY ⟨_,rfl⟩)) (ss1 (sRz ak9 ZZ.xc_NoBook (aC (eSx [116,111,111,32,109,97,110,121,32,98,111,111,107,115]) aN))) ssN)
   (ssC (sIf (tCm oGt (eD (alG ZZ) hr (aC (v_ 0) aN)) (eGl (v:=.int 5) ZZ.m_MOST_DEPTH ⟨_,rfl⟩)) (ss1 (sRz ak9 ZZ.xc_NoBook (aC (eSx [116,111,111,32,100,101,101,112]) aN))) ssN)
   (ss1 (aaH (eCT aNG ZZ.z_tuple PyProof.Rows.boot_tuple (aC (v_ 0) aN))))))),?_⟩
 obtain⟨bs,hbs,hcase⟩:∃bs,Paired (IsB K C_Book H) us bs/\((bs.all id=false/\r=none)∨(bs.all id=true/\∃tds,Paired (aaS C_Book C_Of C_Joined C_Met C_Less C_Turned 6 H) us tds/\0<us.length/\((r=none/\(24<1+(tds.map Prod.fst).sum∨∃m∈tds.map Prod.snd,5<=m))∨∃td,r=some td/\td.1=1+(tds.map Prod.fst).sum/\td.1<=24/\(∀m∈tds.map Prod.snd,m<td.2)/\td.2<=5))):=by
  have all:∀{tds},Paired (aaS C_Book C_Of C_Joined C_Met C_Less C_Turned 6 H) us tds->∃bs,Paired (IsB K C_Book H) us bs/\bs.all id=true:=fun hp=>ajL fun v hv=>by
   obtain⟨td,hb⟩:=aeP hp v hv
   exact aj7 ⟨ZZ.is_Book,ZZ.c_Book.cl,ZZ.kb_Book⟩ ⟨ZZ.is_Of,ZZ.c_Of.cl,ZZ.kb_Of⟩ ⟨ZZ.is_Joined,ZZ.c_Joined.cl,ZZ.kb_Joined⟩ ⟨ZZ.is_Met,ZZ.c_Met.cl,ZZ.kb_Met⟩ ⟨ZZ.is_Less,ZZ.c_Less.cl,ZZ.kb_Less⟩ ⟨ZZ.is_Turned,ZZ.c_Turned.cl,ZZ.kb_Turned⟩ hb
  cases r with
  |none=>
   rcases hv with ⟨h1,h2⟩ | ⟨tds,hp,h0,hz⟩
   ·obtain⟨bs,hbs,e⟩:=al1 h1 h2
    exact⟨bs,hbs,.inl ⟨e,rfl⟩⟩
   ·obtain⟨bs,hbs,e⟩:=all hp
    exact⟨bs,hbs,.inr ⟨e,tds,hp,h0,.inl ⟨rfl,hz⟩⟩⟩
  |some td=>
   obtain⟨tds,hp,h0,e1,e2,e3,_,e5⟩:=hv
   obtain⟨bs,hbs,e⟩:=all hp
   exact⟨bs,hbs,.inr ⟨e,tds,hp,h0,.inr ⟨td,rfl,e1,e2,e3,e5⟩⟩⟩
 refine⟨_,rfl,a,rfl,⟨_,hS⟩,acI (xs:=us) (fun i l=>l=(bs.take i).map V.bl) (by rw[sizeLine_eq];omega) rfl hS (fun i v l D H2 E' F' hv hR hD s2 hz hE hF=>?_) (fun D H2 l hR hD s2 hz=>?_)⟩
 ·subst hR
  obtain⟨b,eb,t,ht,hk⟩:=KM.Paired.at hbs hv
  exact⟨_,rfl,v,t,C_Book,b,rfl,anM s2 ht,hk,hE _ _ (Same.refl _) (by rw[List.take_succ,eb,List.map_append];rfl)⟩
 subst hR
 refine⟨D,bs,rfl,SqL.of (by rw[hz,Paired.length hbs,List.take_length]),_,rfl,?_⟩
 rcases hcase with ⟨e,er⟩ | ⟨e,tds,hp,h0,hc⟩
 ·rw[e]
  exact ab0 ⟨(by show 1<=sizeLine;decide),qE er _ s2⟩
 rw[e]
 have ln:=Paired.length hp
 refine aaX ⟨_,rfl,a,us,tds,rfl,.inl (s2.seq hS),Paired.mapP hp fun _ _ z=>aaD s2 6 z,hl,fun H3 s3=>⟨_,_,rfl,rfl,_,rfl,ifD (fun c=>?_) (fun c=>?_)⟩⟩
 ·rcases hc with ⟨er,_⟩ | ⟨td,_,e1,e2,_⟩
  ·exact⟨(by show 1<=sizeLine;decide),qE er _ (s2.trans s3)⟩
  ·omega
 have s23:=s2.trans s3
 refine⟨_,rfl,a,us,tds,rfl,.inl (s23.seq hS),Paired.mapP hp fun _ _ z=>aaD s23 6 z,h0,hl,fun M H4 s4 hM hle=>⟨_,_,rfl,rfl,_,rfl,ifD (fun c4=>?_) (fun c4=>?_)⟩⟩
 ·rcases hc with ⟨er,_⟩ | ⟨td,_,_,_,e3,e5⟩
  ·exact⟨(by show 1<=sizeLine;decide),qE er _ (s23.trans s4)⟩
  ·have:=e3 M hM
   omega
 rcases hc with ⟨er,hz | ⟨m,hm,h5⟩⟩ | ⟨td,er,_⟩
 ·omega
 ·have:=hle m hm
  omega
 exact⟨_,rfl,a,us,rfl,.inl ⟨(s23.trans s4).seq hS,fun t ht=>qQ td er t _ ((s23.trans s4).trans (aaB ht _)) aaA⟩⟩
theorem acX:Df1 P w K mg base "checked_list" 17 ["books"] (ag7 K C_NoBook C_Book C_Of C_Joined C_Met C_Less C_Turned):=by
 refine ZZ.F_checked_list.dfs1 agU (fun vs H Q E h=>?_) (fun f cdv A outer s H vs Q E hr h=>?_)
 ·obtain⟨v,rfl,h⟩:=h
  rfl
 obtain⟨v,rfl,h⟩:=h
 refine⟨_,(ssC (sIf (tW (wOr (tNo (tVa (eCB cIs ZZ.z_isinstance PyProof.Rows.boot_isinstance (aC (v_ 0) (aC (eTy ZZ.z_list PyProof.Rows.boot_list) aN))))) (acN (tNo (tCh oLe oLe eI (eCB ahQ ZZ.z_len PySem.boot_len (aC (v_ 0) aN)) (eGl (v:=.int 8) ZZ.m_MOST_BOOKS ⟨_,rfl⟩)))))) (ss1 (sRz ak9 ZZ.xc_NoBook (aC (eSx [110,111,32,108,105,115,116,32,111,102,32,111,110,101,32,116,111,32,101,105,103,104,116,32,98,111,111,107,115]) aN))) ssN)
   (ss1 (aaH (eD1 (aeO ZZ) hr aeG (aC (v_ 0) aN))))),?_⟩
 rcases h with ⟨⟨k,hk,nk⟩ | ⟨a,us,rfl,hS,hl,hz⟩,qE⟩ | ⟨a,us,td,rfl,hS,hl,hv,qQ⟩
 ·refine⟨_,rfl,v,.list,k,rfl,(by decide),hk,_,rfl,?_⟩
  have e:Kd.isa k .list=false:=by cases k<;>first | rfl | exact absurd rfl nk
  rw[e]
  exact ab0 (ab0 ⟨(by show 1<=sizeLine;decide),qE _ (Same.refl _)⟩)
 ·refine⟨_,rfl,.ref a,.list,.list,rfl,(by decide),.inl ⟨rfl,us,hS⟩,_,rfl,aaX ⟨_,rfl,a,us,rfl,.inl hS,_,_,rfl,rfl,_,rfl,?_⟩⟩
  by_cases c1:us.length=0
  ·rw[decide_eq_false (show ¬(1:Int)<=((us.length:Nat):Int) by omega)]
   exact aaX ⟨_,rfl,ab0 ⟨(by show 1<=sizeLine;decide),qE _ (Same.refl _)⟩⟩
  rw[decide_eq_true (show (1:Int)<=((us.length:Nat):Int) by omega)]
  refine ab0 ⟨_,_,rfl,rfl,_,rfl,?_⟩
  by_cases c2:us.length=9
  ·rw[decide_eq_false (show ¬((us.length:Nat):Int)<=8 by omega)]
   exact ab0 ⟨(by show 1<=sizeLine;decide),qE _ (Same.refl _)⟩
  rw[decide_eq_true (show ((us.length:Nat):Int)<=8 by omega)]
  exact aaX ⟨_,rfl,a,us,none,rfl,hS,hl,hz.resolve_left (by omega),fun _ H' s'=>qE H' s',fun td e=>nomatch e⟩
 ·have h0:0<us.length:=by obtain⟨_,_,h0,_⟩:=hv;exact h0
  refine⟨_,rfl,.ref a,.list,.list,rfl,(by decide),.inl ⟨rfl,us,hS⟩,_,rfl,aaX ⟨_,rfl,a,us,rfl,.inl hS,_,_,rfl,rfl,_,rfl,?_⟩⟩
  rw[decide_eq_true (show (1:Int)<=((us.length:Nat):Int) by omega)]
  refine ab0 ⟨_,_,rfl,rfl,_,rfl,?_⟩
  rw[decide_eq_true (show ((us.length:Nat):Int)<=8 by omega)]
  exact aaX ⟨_,rfl,a,us,some td,rfl,hS,by omega,hv,(fun e=>nomatch e),fun _ _ t H' s' ht=>qQ t H' s' ht⟩
theorem abJ:DfM1 P w K mg base C_Of "__init__" 1 ["self","row"] (ah8 K C_Of C_NoBook C_Row):=by
 refine ZZ.F_Of___init__.dfs1 ahV (fun vs H Q E h=>?_) (fun f cdv A outer s H vs Q E hr h=>?_)
 ·obtain⟨p,dx,v,rfl,hp,h⟩:=h
  rfl
 obtain⟨p,dx,v,rfl,hp,h⟩:=h
 refine⟨_,(ssC (sIf (tNo (tVa (eCB cIn ZZ.z_isinstance PyProof.Rows.boot_isinstance (aC (v_ 1) (aC (eGl (v:=.ref C_Row) ZZ.c_Row.at_ rfl) aN))))) (ss1 (sRz ak9 ZZ.xc_NoBook (aC (eSx [110,111,32,114,111,119]) aN))) ssN)
   (ss1 (sFl (v_ 0) (v_ 1)))),?_⟩
 rcases h with ⟨⟨t,ht,hk⟩,qE⟩ | ⟨⟨t,ht,hk⟩,q⟩
 ·exact⟨_,rfl,v,t,C_Row,false,rfl,ht,hk,_,rfl,ab0 ⟨(by show 1<=sizeLine;decide),qE _ (Same.refl _)⟩⟩
 ·exact⟨_,rfl,v,t,C_Row,true,rfl,ht,hk,_,rfl,aaX ⟨_,rfl,_,rfl,p,C_Of,dx,_,rfl,hp,ZZ.c_Of.cl,ZZ.n_Of_row,(by show 0<1000;decide),q _ rfl⟩⟩
theorem aaI:DfM1 P w K mg base C_Joined "__init__" 18 ["self","books"] (ae0 K C_Joined C_NoBook C_Book C_Of C_Joined C_Met C_Less C_Turned):=by
 refine ZZ.F_Joined___init__.dfs1 aeW (fun vs H Q E h=>?_) (fun f cdv A outer s H vs Q E hr h=>?_)
 ·obtain⟨p,dx,v,rfl,hp,h⟩:=h
  rfl
 obtain⟨p,dx,v,rfl,hp,h⟩:=h
 refine⟨_,(ss1 (sFl (v_ 0) (eD1 (acX ZZ) hr aeG (aC (v_ 1) aN)))),?_⟩
 rcases h with ⟨hR,qE⟩ | ⟨a,us,td,rfl,hS,hl,hv,q⟩
 ·exact⟨_,rfl,v,rfl,.inl ⟨hR,qE⟩⟩
 ·exact⟨_,rfl,_,rfl,.inr ⟨a,us,td,rfl,hS,hl,hv,fun t H' s' ht=>⟨_,rfl,p,C_Joined,dx,_,rfl,s' _ _ hp,ZZ.c_Joined.cl,ZZ.n_Joined_books,(by show 0<1000;decide),q t _ aaA (by rw[aaE (fun e=>by rw[e,s' _ _ hp] at ht;cases ht)];exact ht) fun b o hb ne=>by rw[aaE ne];exact s' _ _ hb⟩⟩⟩
theorem aa7:DfM1 P w K mg base C_Met "__init__" 18 ["self","books"] (ag9 K C_Met C_NoBook C_Book C_Of C_Joined C_Met C_Less C_Turned):=by
 refine ZZ.F_Met___init__.dfs1 ahB (fun vs H Q E h=>?_) (fun f cdv A outer s H vs Q E hr h=>?_)
 ·obtain⟨p,dx,v,rfl,hp,h⟩:=h
  rfl
 obtain⟨p,dx,v,rfl,hp,h⟩:=h
 refine⟨_,(ss1 (sFl (v_ 0) (eD1 (acX ZZ) hr aeG (aC (v_ 1) aN)))),?_⟩
 rcases h with ⟨hR,qE⟩ | ⟨a,us,td,rfl,hS,hl,hv,q⟩
 ·exact⟨_,rfl,v,rfl,.inl ⟨hR,qE⟩⟩
 ·exact⟨_,rfl,_,rfl,.inr ⟨a,us,td,rfl,hS,hl,hv,fun t H' s' ht=>⟨_,rfl,p,C_Met,dx,_,rfl,s' _ _ hp,ZZ.c_Met.cl,ZZ.n_Met_books,(by show 0<1000;decide),q t _ aaA (by rw[aaE (fun e=>by rw[e,s' _ _ hp] at ht;cases ht)];exact ht) fun b o hb ne=>by rw[aaE ne];exact s' _ _ hb⟩⟩⟩
theorem abQ:DfM1 P w K mg base C_Less "__init__" 17 ["self","one","other"] (af4 K C_Less C_NoBook C_Book C_Of C_Joined C_Met C_Less C_Turned):=by
 refine ZZ.F_Less___init__.dfs1 af3 (fun vs H Q E h=>?_) (fun f cdv A outer s H vs Q E hr h=>?_)
 ·obtain⟨p,dx,v,u,rfl,hp,h⟩:=h
  rfl
 obtain⟨p,dx,v,u,rfl,hp,h⟩:=h
 refine⟨_,(ssC (anD (eD1 (aeO ZZ) hr aeG (aC (abF (aC (v_ 1) (aC (v_ 2) aN))) aN)))
   (ssC (sFl (v_ 0) (v_ 1))
   (ss1 (sFl (v_ 0) (v_ 2))))),?_⟩
 rcases h with ⟨hR,qE⟩ | ⟨td,hv,q⟩
 ·exact⟨_,rfl,_,rfl,(by show 2<=sizeLine;decide),fun l hl=>⟨l,[v,u],none,rfl,SqL.of aaA,(by show 2<=9;decide),aa5 (aaB hl _) hR,fun _ H' s'=>qE H' ((aaB hl _).trans s'),fun td e=>nomatch e⟩⟩
 ·exact⟨_,rfl,_,rfl,(by show 2<=sizeLine;decide),fun l hl=>⟨l,[v,u],some td,rfl,SqL.of aaA,(by show 2<=9;decide),aa5 (aaB hl _) hv,(fun e=>nomatch e),fun _ _ t H' s' ht=>⟨_,rfl,_,rfl,p,C_Less,dx,_,rfl,(s' _ _ (aaB hl _ _ _ hp)),ZZ.c_Less.cl,ZZ.n_Less_one,(by show 0<1000;decide),_,rfl,_,rfl,p,C_Less,dx,_,rfl,aaA,ZZ.c_Less.cl,ZZ.n_Less_other,(by show 1<1000;decide),q _ aaA fun b o hb ne=>by rw[aaE ne,aaE ne];exact s' _ _ (aaB hl _ _ _ hb)⟩⟩⟩
theorem aaY:DfM1 P w K mg base C_Turned "__init__" 17 ["self","one"] (aeR K C_Turned C_NoBook C_Book C_Of C_Joined C_Met C_Less C_Turned):=by
 refine ZZ.F_Turned___init__.dfs1 aeX (fun vs H Q E h=>?_) (fun f cdv A outer s H vs Q E hr h=>?_)
 ·obtain⟨p,dx,v,rfl,hp,h⟩:=h
  rfl
 obtain⟨p,dx,v,rfl,hp,h⟩:=h
 refine⟨_,(ssC (anD (eD1 (aeO ZZ) hr aeG (aC (abF (aC (v_ 1) aN)) aN)))
   (ss1 (sFl (v_ 0) (v_ 1)))),?_⟩
 rcases h with ⟨hR,qE⟩ | ⟨td,hv,q⟩
 ·exact⟨_,rfl,(by show 1<=sizeLine;decide),fun l hl=>⟨l,[v],none,rfl,SqL.of aaA,(by show 1<=9;decide),aa5 (aaB hl _) hR,fun _ H' s'=>qE H' ((aaB hl _).trans s'),fun td e=>nomatch e⟩⟩
 ·exact⟨_,rfl,(by show 1<=sizeLine;decide),fun l hl=>⟨l,[v],some td,rfl,SqL.of aaA,(by show 1<=9;decide),aa5 (aaB hl _) hv,(fun e=>nomatch e),fun _ _ t H' s' ht=>⟨_,rfl,_,rfl,p,C_Turned,dx,_,rfl,(s' _ _ (aaB hl _ _ _ hp)),ZZ.c_Turned.cl,ZZ.n_Turned_one,(by show 0<1000;decide),q _ aaA fun b o hb ne=>by rw[aaE ne];exact s' _ _ (aaB hl _ _ _ hb)⟩⟩⟩
theorem abU:Df P w K mg base "_law_cell_at" 1 ["_law_script","_law_k"] (ahC K):=by
 refine ZZ.F__law_cell_at.dfs ag6 (fun vs H Q E h=>?_) (fun f cdv A outer s H vs Q E hr h=>?_)
 ·obtain⟨a,k,rfl,⟨ns,hS⟩,⟨h0,h9⟩,q⟩:=h
  rfl
 obtain⟨a,k,rfl,⟨ns,hS⟩,⟨h0,h9⟩,q⟩:=h
 refine⟨_,(ssC (sIf (tCm oLt (v_ 1) (eCB ahQ ZZ.z_len PySem.boot_len (aC (v_ 0) aN))) (ss1 (aaH (eIx xL (v_ 0) (v_ 1)))) ssN)
   (ss1 (aaH (eOp ah7 (eOp av1 (eOp aKJ (eOp ahX (v_ 1) eI) eI) eI) eI)))),?_⟩
 refine⟨_,rfl,_,rfl,a,_,rfl,.inl hS,_,_,rfl,rfl,_,rfl,?_⟩
 refine ifD (fun c=>?_) (fun c=>?_)
 ·rw[List.length_map] at c
  have hk:k.toNat<ns.length:=by omega
  have ek:k=((k.toNat:Nat):Int):=by omega
  have e:atI (ns.map V.int) k=some (.int ns[k.toNat]):=by
   have z:atI (ns.map V.int) ((k.toNat:Nat):Int)=some (.int ns[k.toNat]):=an9 (by rw[List.getElem?_map,List.getElem?_eq_getElem hk];rfl)
   rw[←ek] at z
   exact z
  refine⟨_,rfl,_,rfl,a,_,_,_,rfl,rfl,hS,e,?_⟩
  exact q _
 ·refine⟨_,rfl,_,_,rfl,rfl,_,_,rfl,rfl,⟨by decide,by decide,(by show (k+2).natAbs<2^64;omega)⟩,_,_,rfl,rfl,.inr ⟨by decide,by decide⟩,_,_,rfl,rfl,(by show (0:Int)<15485863;decide),?_⟩
  exact q _
theorem aj9:Df P w K mg base "_law_stir" 1 ["_law_number"] (akE K):=by
 refine ZZ.F__law_stir.dfs sc__law_stir (fun vs H Q E h=>?_) (fun f cdv A outer s H vs Q E hr h=>?_)
 ·obtain⟨n,rfl,q⟩:=h
  rfl
 obtain⟨n,rfl,q⟩:=h
 refine⟨_,(ssC (aaN 1 (eOp ah7 (eOp av1 (eOp ahX (eOp ah7 (v_ 0) (eOp aKJ eI eI)) eI) eI) eI) sc__law_stir.nd)
   (ssC (aaN 2 (eOp ah7 (eOp av1 (v_ 1) (eOp ahX (eOp ah7 (v_ 1) eI) eI)) eI) sc__law_stir.nd)
   (ss1 (aaH (eOp ah7 (eOp av1 (v_ 2) (eOp ahX (eOp ah7 (v_ 2) eI) eI)) eI))))),?_⟩
 refine⟨_,rfl,_,_,rfl,rfl,⟨by decide,by decide,by decide⟩,_,_,rfl,rfl,(by rw[aOL];show (0:Int)<_;decide),_,_,rfl,rfl,_,_,rfl,rfl,.inr ⟨by decide,by decide⟩,_,_,rfl,rfl,(by show (0:Int)<4294967291;decide),?_⟩
 refine⟨_,rfl,_,rfl,_,_,rfl,rfl,(by show (0:Int)<65521;decide),_,_,rfl,rfl,_,_,rfl,rfl,aNZ (by decide) (by decide),_,_,rfl,rfl,(by show (0:Int)<999999937;decide),?_⟩
 refine⟨_,rfl,_,rfl,_,_,rfl,rfl,(by show (0:Int)<32749;decide),_,_,rfl,rfl,_,_,rfl,rfl,aNZ (by decide) (by decide),_,_,rfl,rfl,(by show (0:Int)<2147483629;decide),?_⟩
 exact q _ (Int.emod_nonneg _ (by decide)) (Int.emod_lt_of_pos _ (by decide))
theorem ac3:Df P w K mg base "_law_digits" 2 ["_law_cell","_law_sizes","_law_mixed"] (aiA K):=by
 refine ZZ.F__law_digits.dfs sc__law_digits (fun vs H Q E h=>?_) (fun f cdv A outer s H vs Q E hr h=>?_)
 ·obtain⟨c,a,b,ss,rfl,hS,hz,hl,q⟩:=h
  rfl
 obtain⟨c,a,b,ss,rfl,hS,hz,hl,q⟩:=h
 refine⟨_,(ssC (aaN 3 (abF aN) sc__law_digits.nd)
   (ssC (aaN 2 (eOr (v_ 2) (alB (ak8 oLt (eCB cAbs ZZ.z_abs PyProof.Rows.boot_abs (aC (v_ 0) aN)) (eOp aKJ eI eI)))) sc__law_digits.nd)
   (ssC (alM (iL (v_ 1)) (gN 4 sc__law_digits.nd) (ss1 (sIf (tVa (v_ 2)) (ssC (aaN 0 (eD (aj9 ZZ) hr (aC (v_ 0) aN)) sc__law_digits.nd)
   (ss1 (anD (av8 (v_ 3) (eOp ah7 (eOp aC4 (v_ 0) eI) (v_ 4)))))) (ssC (anD (av8 (v_ 3) (eOp ah7 (v_ 0) (v_ 4))))
   (ss1 (aaN 0 (eOp aC4 (v_ 0) (v_ 4)) sc__law_digits.nd))))) PassesOwn.never)
   (ss1 (aaH (v_ 3)))))),?_⟩
 refine⟨(by show 0<=sizeLine;decide),fun fl hfl=>?_⟩
 refine⟨_,rfl,_,rfl,aFT (fun _=>?_) (fun _=>⟨_,rfl,_,rfl,_,_,rfl,rfl,⟨by decide,by decide,by decide⟩,_,_,rfl,rfl,?_⟩)⟩
 all_goals
  refine⟨_,rfl,a,rfl,⟨_,(aaB hfl _).seq hS⟩,afO (K:=K) (a:=a) (xs:=ss.map V.int) (fun i σ H2=>∃(c':Int) (b':Bool) (u:Option V) (ds:List Int),σ=[some (.int c'),some (.ref a),some (.bl b'),some (.ref fl),u]/\Same H H2/\H2 fl=some (.lst (ds.map V.int))/\Digs ds (ss.take i)) ⟨_,_,_,[],rfl,aaB hfl _,aaA,.nil⟩ (fun i σ H2 _ ⟨_,_,_,_,_,s2,_⟩=>s2.seq hS) ?_ ?_⟩
  ·rintro i x σ H2 hx ⟨c',b',u,ds,rfl,s2,hf,hd⟩
   rw[List.getElem?_map] at hx
   cases e:ss[i]? with
   |none=>rw[e] at hx;cases hx
   |some z=>
    rw[e] at hx
    obtain rfl:V.int z=x:=Option.some.inj hx
    have hzz:=hz z (List.mem_of_getElem? e)
    have et:ss.take (i+1)=ss.take i++[z]:=by rw[List.take_succ,e];rfl
    have hdl:(ds.map V.int).length<sizeLine:=by
     have q1:=hd.len
     rw[List.length_take] at q1
     rw[List.length_map,sizeLine_eq]
     omega
    have app:∀d:Int,(ds.map V.int)++[V.int d]=(ds++[d]).map V.int:=fun d=>by rw[List.map_append];rfl
    refine⟨_,rfl,_,rfl,?_⟩
    cases b' with
    |true=>
     refine ab0 ⟨_,rfl,_,rfl,fun r hr0 hr1=>?_⟩
     refine⟨_,rfl,.inl ⟨rfl,_,SqL.of hf⟩,_,rfl,_,_,rfl,rfl,⟨by decide,by decide⟩,_,rfl,_,_,rfl,rfl,hzz.1,fl,_,_,rfl,rfl,hf,hdl,?_⟩
     refine⟨_,_,_,ds++[r / 8%z],rfl,ab2 hfl s2,by rw[app];exact aaA,?_⟩
     rw[et]
     exact hd.snoc (Int.emod_nonneg _ (Int.ne_of_gt hzz.1)) (Int.emod_lt_of_pos _ hzz.1)
    |false=>
     refine aaX ⟨_,rfl,.inl ⟨rfl,_,SqL.of hf⟩,_,rfl,_,rfl,_,_,rfl,rfl,hzz.1,fl,_,_,rfl,rfl,hf,hdl,?_⟩
     refine⟨_,rfl,_,rfl,_,_,rfl,rfl,hzz,?_⟩
     refine⟨_,_,_,ds++[c'%z],rfl,ab2 hfl s2,by rw[app];exact aaA,?_⟩
     rw[et]
     exact hd.snoc (Int.emod_nonneg _ (Int.ne_of_gt hzz.1)) (Int.emod_lt_of_pos _ hzz.1)
  ·rintro σ H2 ⟨c',b',u,ds,rfl,s2,hf,hd⟩
   rw[List.length_map,List.take_length] at hd
   exact⟨_,rfl,q ds fl H2 s2 hf hd⟩
theorem akI:Df1 P w K mg base "_law_made" 20 ["_law_word","_law_thing","_law_other"] (akB K C_NoBook C_Row C_Book C_Of C_Joined C_Met C_Less C_Turned):=by
 refine ZZ.F__law_made.dfs1 aj2 (fun vs H Q E h=>?_) (fun f cdv A outer s H vs Q E hr h=>?_)
 ·obtain⟨wd,v,u,rfl,h,qE⟩:=h
  rfl
 obtain⟨wd,v,u,rfl,h,qE⟩:=h
 refine⟨_,(ssC (sIf (tCm oEq (v_ 0) (eSx [111,102])) (ss1 (aaH (abO ZZ.c_Of (abJ ZZ) hr aeG (aC (v_ 1) aN)))) ssN)
   (ssC (sIf (tCm oEq (v_ 0) (eSx [106,111,105,110])) (ss1 (aaH (abO ZZ.c_Joined (aaI ZZ) hr aeG (aC (v_ 1) aN)))) ssN)
   (ssC (sIf (tCm oEq (v_ 0) (eSx [109,101,101,116])) (ss1 (aaH (abO ZZ.c_Met (aa7 ZZ) hr aeG (aC (v_ 1) aN)))) ssN)
   (ssC (sIf (tCm oEq (v_ 0) (eSx [108,101,115,115])) (ss1 (aaH (abO ZZ.c_Less (abQ ZZ) hr aeG (aC (v_ 1) (aC (v_ 2) aN))))) ssN)
   (ss1 (aaH (abO ZZ.c_Turned (aaY ZZ) hr aeG (aC (v_ 1) aN)))))))),?_⟩
 rcases h with ⟨rfl,h⟩ | ⟨rfl,h⟩ | ⟨rfl,h⟩ | ⟨rfl,h⟩ | ⟨rfl,h⟩
 ·exact⟨_,rfl,rfl,_,rfl,ay1 ⟨_,rfl,fun x dx nx nd _=>aKR h qE nx nd⟩⟩
 ·exact⟨_,rfl,rfl,_,rfl,ajC (by decide) ⟨_,rfl,rfl,_,rfl,ay1 ⟨_,rfl,fun x dx nx nd _=>avZ h qE nx nd⟩⟩⟩
 ·exact⟨_,rfl,rfl,_,rfl,ajC (by decide) ⟨_,rfl,rfl,_,rfl,ajC (by decide) ⟨_,rfl,rfl,_,rfl,ay1 ⟨_,rfl,fun x dx nx nd _=>avZ h qE nx nd⟩⟩⟩⟩
 ·exact⟨_,rfl,rfl,_,rfl,ajC (by decide) ⟨_,rfl,rfl,_,rfl,ajC (by decide) ⟨_,rfl,rfl,_,rfl,ajC (by decide) ⟨_,rfl,rfl,_,rfl,ay1 ⟨_,rfl,_,rfl,fun x dx nx nd _=>aGY h qE nx nd⟩⟩⟩⟩⟩
 ·exact⟨_,rfl,rfl,_,rfl,ajC (by decide) ⟨_,rfl,rfl,_,rfl,ajC (by decide) ⟨_,rfl,rfl,_,rfl,ajC (by decide) ⟨_,rfl,rfl,_,rfl,ajC (by decide) ⟨_,rfl,fun x dx nx nd _=>aKV h qE nx nd⟩⟩⟩⟩⟩
theorem aaK:Df P w K mg base "_law_refused" 21 ["_law_word","_law_thing","_law_other"] (agV K C_NoBook C_Row C_Book C_Of C_Joined C_Met C_Less C_Turned):=by
 refine ZZ.F__law_refused.dfs sc__law_refused (fun vs H Q E h=>?_) (fun f cdv A outer s H vs Q E hr h=>?_)
 ·obtain⟨wd,v,u,rfl,h,q⟩:=h
  rfl
 obtain⟨wd,v,u,rfl,h,q⟩:=h
 refine⟨_,(ssC (aFR 3 ZZ.m_FieldError ZZ.xb_FieldError (bE (xD (akI ZZ) hr (aC (v_ 0) (aC (v_ 1) (aC (v_ 2) aN))))) (fun _=>(ssC (sIf (tW (wOr (tNo (tVa (eCB cXi ZZ.z_isinstance PyProof.Rows.boot_isinstance (aC (v_ 3) (aC (eGl (v:=.ref C_NoBook) ZZ.m_NoBook rfl) aN))))) (acN (tNo (tVa (eCB cXy ZZ.z_isinstance PyProof.Rows.boot_isinstance (aC (v_ 3) (aC (eTy ZZ.z_ValueError ahE) aN)))))))) (ss1 (aaH eB)) ssN)
   (ss1 (aaH (eNot (eCB cXt ZZ.z_isinstance PyProof.Rows.boot_isinstance (aC (v_ 3) (aC (ak5 (aC (eGl (v:=.ref C_NoDay) ZZ.m_NoDay rfl) (aC (eGl (v:=.ref C_NoMoment) ZZ.m_NoMoment rfl) (aC (eGl (v:=.ref C_NoField) ZZ.m_NoField rfl) (aC (eGl (v:=.ref C_NoRow) ZZ.m_NoRow rfl) (aC (eGl (v:=.ref C_NoClock) ZZ.m_NoClock rfl) (aC (eGl (v:=.ref C_NoName) ZZ.m_NoName rfl) (aC (eGl (v:=.ref C_NoWord) ZZ.m_NoWord rfl) aN)))))))) aN)))))))) sc__law_refused.nd)
   (ss1 (aaH eB))),?_⟩
 refine⟨fun e _ H'=>e=.ref C_NoBook/\Same H H',⟨_,rfl,_,rfl,_,rfl,wd,v,u,rfl,h,fun H' s'=>⟨rfl,s'⟩⟩,fun C d b H' ⟨hC,s0⟩=>?_⟩
 obtain rfl:C=C_NoBook:=(aK3 hC).1
 refine⟨ZZ.xk_NoBook_FieldError,fun a ha=>?_⟩
 have sa:=s0.trans (aaB ha (xo a C d b))
 refine⟨_,rfl,a,C,C,d,b,true,rfl,aaA,ZZ.xf_NoBook,ZZ.xi_NoBook,_,rfl,aaX ⟨_,rfl,a,C,"ValueError",d,b,true,rfl,aaA,ZZ.xf_NoBook,ZZ.xv_NoBook,_,rfl,aaX ?_⟩⟩
 refine⟨_,rfl,(by show 7<=sizeLine;decide),fun tp htp=>⟨a,C,tp,[C_NoDay,C_NoMoment,C_NoField,C_NoRow,C_NoClock,C_NoName,C_NoWord],d,b,false,rfl,aaB htp _ _ _ aaA,ZZ.xf_NoBook,SqT.of aaA,ZZ.xt_NoBook,_,rfl,q _ (sa.trans (aaB htp _))⟩⟩
theorem alF:Df P w K mg base "_law_odd" 12 ["_law_way"] (alW K C_NoBook C_Row C_Book C_Of C_Joined C_Met C_Less C_Turned):=by
 refine ZZ.F__law_odd.dfs sc__law_odd (fun vs H Q E h=>?_) (fun f cdv A outer s H vs Q E hr h=>?_)
 ·obtain⟨w,rfl,hw,q⟩:=h
  rfl
 obtain⟨w,rfl,hw,q⟩:=h
 refine⟨_,(ssC (aaN 1 (eD (adM ZZ) hr (aC (eSx [48,32,48,32,42,32,42,32,42]) aN)) sc__law_odd.nd)
   (ss1 (aaH (eIx xL (abF (aC eN (aC (v_ 1) (aC (eSx [48,32,48,32,42,32,42,32,42]) (aC eI (aC eB (aC (abF (aC (ac2 ZZ.c_Book ZZ.i_Book) aN)) (aC (ak5 (aC (abO ZZ.c_Of (abJ ZZ) hr aa0 (aC (v_ 1) aN)) aN)) (aC eDi (aC (eSx []) (aC (abF (aC (v_ 1) aN)) aN))))))))))) (v_ 0))))),?_⟩
 refine⟨[48],[48],[42],[42],[42],_,_,_,none,none,rfl,agC (a:=0) ⟨by decide,by decide,by decide,by decide⟩ (by decide +kernel),agC (a:=0) ⟨by decide,by decide,by decide,by decide⟩ (by decide +kernel),am0 ⟨by decide,by decide,by decide⟩,afS false,afS true,⟨by decide +kernel,by decide +kernel⟩,fun x dx dv wv tm H1 s1 hx _ _=>?_⟩
 refine⟨_,rfl,fun xb db nb ndb _=>⟨(by show 1<=sizeLine;decide),fun l1 hl1=>⟨_,rfl,fun xo dxo no ndo _=>mkO (CB:=C_Book) (CJ:=C_Joined) (CM:=C_Met) (CL:=C_Less) (CT:=C_Turned) (IsB.keep ⟨_,ZZ.is_Row.ty ZZ.c_Row.cl hx,ZZ.kr_Row⟩ ((aaF nb ndb).trans (aaB hl1 _))) (fun H3 s3 _=>⟨rfl,(by show 1<=sizeLine;decide),fun t1 ht1=>fun d1 hd1=>⟨_,rfl,(by show 1<=sizeLine;decide),fun l2 hl2=>⟨(by show 10<=sizeLine;decide),fun p hp=>?_⟩⟩⟩) no ndo⟩⟩⟩
 have s2:=aaF (a:=.own xb) (b:=.ins C_Book db []) nb ndb
 have a1:=aaB hl1 (.lst [V.ref xb])
 have a2:=aaB ht1 (.tup [V.ref xo])
 have a3:=aaB hd1 (.dK [])
 have a4:=aaB hl2 (.lst [V.ref x])
 have a5:=aaB hp (.lst [.non,.ref x,.str (Tx [48,32,48,32,42,32,42,32,42]),.int 7,.bl true,.ref l1,.ref t1,.ref d1,.str (Tx []),.ref l2])
 have sx:=s2.trans (a1.trans (s3.trans (a2.trans (a3.trans (a4.trans a5)))))
 have sA:=s1.trans sx
 obtain⟨n,rfl⟩:∃n:Nat,w=n:=⟨w.toNat,by omega⟩
 match n,hw with
 |0,_=>exact⟨_,rfl,p,_,_,_,rfl,rfl,SqL.of aaA,rfl,q _ _ sA ⟨_,.non,ZZ.kb_NoneType⟩ fun _=>⟨_,.non,ZZ.kr_NoneType⟩⟩
 |1,_=>exact⟨_,rfl,p,_,_,_,rfl,rfl,SqL.of aaA,rfl,q _ _ sA ⟨_,ZZ.is_Row.ty ZZ.c_Row.cl (sx _ _ hx),ZZ.kb_Row⟩ fun c=>absurd rfl c⟩
 |2,_=>exact⟨_,rfl,p,_,_,_,rfl,rfl,SqL.of aaA,rfl,q _ _ sA ⟨_,.str _,ZZ.kb_str⟩ fun _=>⟨_,.str _,ZZ.kr_str⟩⟩
 |3,_=>exact⟨_,rfl,p,_,_,_,rfl,rfl,SqL.of aaA,rfl,q _ _ sA ⟨_,.int _,ZZ.kb_int⟩ fun _=>⟨_,.int _,ZZ.kr_int⟩⟩
 |4,_=>exact⟨_,rfl,p,_,_,_,rfl,rfl,SqL.of aaA,rfl,q _ _ sA ⟨_,.bl _,ZZ.kb_bool⟩ fun _=>⟨_,.bl _,ZZ.kr_bool⟩⟩
 |5,_=>have e:=(s3.trans (a2.trans (a3.trans (a4.trans a5)))) _ _ aaA;exact⟨_,rfl,p,_,_,_,rfl,rfl,SqL.of aaA,rfl,q _ _ sA ⟨_,.lst e,ZZ.kb_list⟩ fun _=>⟨_,.lst e,ZZ.kr_list⟩⟩
 |6,_=>have e:=(a3.trans (a4.trans a5)) _ _ aaA;exact⟨_,rfl,p,_,_,_,rfl,rfl,SqL.of aaA,rfl,q _ _ sA ⟨_,.tup e,ZZ.kb_tuple⟩ fun _=>⟨_,.tup e,ZZ.kr_tuple⟩⟩
 |7,_=>have e:=(a4.trans a5) _ _ aaA;exact⟨_,rfl,p,_,_,_,rfl,rfl,SqL.of aaA,rfl,q _ _ sA ⟨_,.dK e,ZZ.kb_dict⟩ fun _=>⟨_,.dK e,ZZ.kr_dict⟩⟩
 |8,_=>exact⟨_,rfl,p,_,_,_,rfl,rfl,SqL.of aaA,rfl,q _ _ sA ⟨_,.str _,ZZ.kb_str⟩ fun _=>⟨_,.str _,ZZ.kr_str⟩⟩
 |9,_=>have e:=a5 _ _ aaA;exact⟨_,rfl,p,_,_,_,rfl,rfl,SqL.of aaA,rfl,q _ _ sA ⟨_,.lst e,ZZ.kb_list⟩ fun _=>⟨_,.lst e,ZZ.kr_list⟩⟩
 |n+10,h=>exact absurd h.2 (by have:((n+10:Nat):Int)=(n:Int)+10:=rfl;omega)
theorem afX:Df P w K mg base "_law_bad_list" 1 ["_law_way","_law_at","_law_odd_here","_law_some"] (acM K C_Row C_Book C_Of C_Joined C_Met C_Less C_Turned):=by
 refine ZZ.F__law_bad_list.dfs sc__law_bad_list (fun vs H Q E h=>?_) (fun f cdv A outer s H vs Q E hr h=>?_)
 ·obtain⟨w,at_,od,s,us,tds,rfl,hw,hat,hod,hs,hp,hl,q⟩:=h
  rfl
 obtain⟨w,at_,od,s,us,tds,rfl,hw,hat,hod,hs,hp,hl,q⟩:=h
 refine⟨_,(ssC (sIf (tCm oLt (v_ 0) eI) (ss1 (aaH (eIx xL (abF (aC eN (aC (abF aN) (aC (eCT aNG ZZ.z_tuple PyProof.Rows.boot_tuple (aC (v_ 3) aN)) (aC (eSx [97]) aN))))) (v_ 0)))) ssN)
   (ssC (sIf (tCm oEq (v_ 0) eI) (ss1 (aaH (eSl slL (eOp anV (v_ 3) eI) poN (poS eI)))) ssN)
   (ssC (aaN 4 (eOp ah7 (v_ 1) (eOp ahX (eCB ahQ ZZ.z_len PySem.boot_len (aC (v_ 3) aN)) eI)) sc__law_bad_list.nd)
   (ss1 (aaH (eOp aEW (eOp aEW (eSl slL (v_ 3) poN (poS (v_ 4))) (abF (aC (v_ 2) aN))) (eSl slL (v_ 3) (poS (v_ 4)) poN))))))),?_⟩
 refine⟨_,rfl,_,_,rfl,rfl,_,rfl,ifD (fun c=>?_) (fun c=>?_)⟩
 ·refine⟨(by show 0<=sizeLine;decide),fun l1 hl1=>⟨_,rfl,s,us,rfl,.inl ⟨(aaB hl1 _).seq (SqL.of hs),fun t1 ht1=>⟨(by show 4<=sizeLine;decide),fun p hp_=>?_⟩⟩⟩⟩
  have a1:=aaB hl1 (.lst [])
  have a2:=aaB ht1 (.tup us)
  have a3:=aaB hp_ (.lst [.non,.ref l1,.ref t1,.str (Tx [97])])
  have sA:=a1.trans (a2.trans a3)
  obtain⟨n,rfl⟩:∃n:Nat,w=n:=⟨w.toNat,by omega⟩
  match n,c with
  |0,_=>exact⟨_,rfl,p,_,_,_,rfl,rfl,SqL.of aaA,rfl,q _ _ sA (.inl ⟨.non,rfl,(fun e=>nomatch e)⟩)⟩
  |1,_=>exact⟨_,rfl,p,_,_,_,rfl,rfl,SqL.of aaA,rfl,q _ _ sA (.inr ⟨l1,[],rfl,SqL.of ((a2.trans a3) _ _ aaA),by decide,.inl (.inl rfl)⟩)⟩
  |2,_=>exact⟨_,rfl,p,_,_,_,rfl,rfl,SqL.of aaA,rfl,q _ _ sA (.inl ⟨.tuple,.inr (.inl ⟨rfl,us,SqT.of (a3 _ _ aaA)⟩),(fun e=>nomatch e)⟩)⟩
  |3,_=>exact⟨_,rfl,p,_,_,_,rfl,rfl,SqL.of aaA,rfl,q _ _ sA (.inl ⟨.str,rfl,(fun e=>nomatch e)⟩)⟩
  |n+4,h=>exact absurd h (by have:((n+4:Nat):Int)=(n:Int)+4:=rfl;omega)
 refine⟨_,rfl,rfl,_,rfl,ifI (fun c4=>?_) (fun c4=>?_)⟩
 ·refine⟨_,rfl,s,9,us,rfl,rfl,hs,(by decide),(by decide),(by rw[sizeLine_eq];show us.length*9<=_;omega),fun p1 h1=>⟨_,rfl,p1,_,rfl,SqL.of aaA,fun p2 h2=>q _ _ ((aaB h1 _).trans (aaB h2 _)) (.inr ⟨p2,_,rfl,SqL.of aaA,?_,.inl (.inr ?_)⟩)⟩⟩
  ·rw[anN (show 9<=((List.replicate (Int.toNat 9) us).flatten).length by rw[acS];show 9<=9*us.length;omega)]
   decide
  ·exact anN (by rw[acS];show 9<=9*us.length;omega)
 ·refine⟨_,rfl,_,rfl,s,us,rfl,.inl (SqL.of hs),_,_,rfl,rfl,_,_,rfl,rfl,(by omega),?_⟩
  refine (fun pl=>?_:∀pl:Int,afK 4 (V.int pl) _ _ _) _
  refine⟨_,rfl,_,rfl,_,rfl,s,us,rfl,SqL.of hs,fun p1 h1=>⟨_,rfl,(by show 1<=sizeLine;decide),fun p2 h2=>⟨p1,p2,_,_,rfl,rfl,SqL.of ((aaB h2 _) _ _ aaA),SqL.of aaA,(by have:=abI us none (some pl);rw[sizeLine_eq];show _+1<=_;omega),fun p3 h3=>⟨_,rfl,_,rfl,_,rfl,s,us,rfl,SqL.of ((aaB h3 _) _ _ ((aaB h2 _) _ _ ((aaB h1 _) _ _ hs))),fun p4 h4=>⟨p3,p4,_,_,rfl,rfl,SqL.of ((aaB h4 _) _ _ aaA),SqL.of aaA,?sz,fun p5 h5=>?_⟩⟩⟩⟩⟩
  case sz=>
   have:=abI us none (some pl)
   have:=abI us (some pl) none
   rw[sizeLine_eq,List.length_append]
   show _+1+_<=_
   omega
  have sA:=(aaB h1 (.lst (ac1 us none (some pl)))).trans ((aaB h2 (.lst [od])).trans ((aaB h3 (.lst (ac1 us none (some pl)++[od]))).trans ((aaB h4 (.lst (ac1 us (some pl) none))).trans (aaB h5 (.lst (ac1 us none (some pl)++[od]++ac1 us (some pl) none))))))
  have bo:∀z∈us,IsB K C_Book H z true:=fun z hz=>by
   obtain⟨td,hb⟩:=aeP hp z hz
   exact aj7 ⟨ZZ.is_Book,ZZ.c_Book.cl,ZZ.kb_Book⟩ ⟨ZZ.is_Of,ZZ.c_Of.cl,ZZ.kb_Of⟩ ⟨ZZ.is_Joined,ZZ.c_Joined.cl,ZZ.kb_Joined⟩ ⟨ZZ.is_Met,ZZ.c_Met.cl,ZZ.kb_Met⟩ ⟨ZZ.is_Less,ZZ.c_Less.cl,ZZ.kb_Less⟩ ⟨ZZ.is_Turned,ZZ.c_Turned.cl,ZZ.kb_Turned⟩ hb
  refine q _ _ sA (.inr ⟨p5,_,rfl,SqL.of aaA,?_,.inr (.inl ⟨fun z hz=>?_,od,?_,hod.keep sA⟩)⟩)
  ·have:=abI us none (some pl)
   have:=abI us (some pl) none
   rw[List.length_append,List.length_append]
   show _+1+_<=_
   omega
  ·rcases List.mem_append.mp hz with hz | hz
   ·rcases List.mem_append.mp hz with hz | hz
    ·exact⟨_,(bo z (alS hz)).keep sA⟩
    ·rw[List.mem_singleton.mp hz]
     exact⟨_,hod.keep sA⟩
   ·exact⟨_,(bo z (alS hz)).keep sA⟩
  ·exact List.mem_append.mpr (.inl (List.mem_append.mpr (.inr (List.mem_singleton.mpr rfl))))
theorem afR:Df P w K mg base "_law_deep" 20 ["_law_ways","_law_many"] (akW K C_NoBook C_Row C_Book C_Of C_Joined C_Met C_Less C_Turned):=by
 refine ZZ.F__law_deep.dfs sc__law_deep (fun vs H Q E h=>?_) (fun f cdv A outer s H vs Q E hr h=>?_)
 ·obtain⟨wa,d0,d1,d2,d3,d4,mn,rfl,hw,⟨h0,h1,h2,h3,h4⟩,hm,q⟩:=h
  rfl
 obtain⟨wa,d0,d1,d2,d3,d4,mn,rfl,hw,⟨h0,h1,h2,h3,h4⟩,hm,q⟩:=h
 refine⟨_,(ssK (aaN 2 (eIx xL (abF (aC (ac2 ZZ.c_Book ZZ.i_Book) (aC (abO ZZ.c_Of (abJ ZZ) hr aa0 (aC (eD (adM ZZ) hr (aC (eSx [53,32,52,32,42,32,42,32,49]) aN)) aN)) aN))) (eOp aC4 (eIx xL (v_ 0) eI) eI)) sc__law_deep.nd)
   (ssC (alM (iL (eSl slL (v_ 0) (poS eI) (poS (v_ 1)))) (gN 3 sc__law_deep.nd) (ss1 (sIf (tCm oEq (v_ 3) eI) (ss1 (aaN 2 (abO ZZ.c_Turned (aaY ZZ) hr aa0 (aC (v_ 2) aN)) sc__law_deep.nd)) (ss1 (sIf (tCm oEq (v_ 3) eI) (ss1 (aaN 2 (abO ZZ.c_Joined (aaI ZZ) hr aa0 (aC (abF (aC (v_ 2) aN)) aN)) sc__law_deep.nd)) (ss1 (sIf (tCm oEq (v_ 3) eI) (ss1 (aaN 2 (abO ZZ.c_Met (aa7 ZZ) hr aa0 (aC (abF (aC (ac2 ZZ.c_Book ZZ.i_Book) (aC (v_ 2) aN))) aN)) sc__law_deep.nd)) (ss1 (aaN 2 (abO ZZ.c_Less (abQ ZZ) hr aa0 (aC (v_ 2) (aC (ac2 ZZ.c_Book ZZ.i_Book) aN))) sc__law_deep.nd)))))))) PassesOwn.never)
   (ss1 (aaH (v_ 2))))),?_⟩
 refine⟨fun σ' H'=>∃v:V,σ'=[some (.ref wa),some (.int mn),some v,none]/\Same H H'/\aaS C_Book C_Of C_Joined C_Met C_Less C_Turned 6 H' v (1,1),?_,?_⟩
 ·refine fun xb db nb ndb _=>⟨[53],[52],[42],[42],[49],_,_,_,none,some [.wkd 2],rfl,agC (a:=5) ⟨by decide,by decide,by decide,by decide⟩ (by decide +kernel),agC (a:=4) ⟨by decide,by decide,by decide,by decide⟩ (by decide +kernel),am0 ⟨by decide,by decide,by decide⟩,afS false,aGF,⟨by decide +kernel,by decide +kernel⟩,fun x dx dv wv tm H1 s1 hx _ _=>fun xo dxo no ndo _=>mkO (CB:=C_Book) (CJ:=C_Joined) (CM:=C_Met) (CL:=C_Less) (CT:=C_Turned) ⟨_,ZZ.is_Row.ty ZZ.c_Row.cl hx,ZZ.kr_Row⟩ (fun H3 s3 hbO=>⟨rfl,(by show 2<=sizeLine;decide),fun p hp=>?_⟩) no ndo⟩
  have s0:=aaF (a:=.own xb) (b:=.ins C_Book db []) nb ndb
  have sp:=aaB hp (.lst [V.ref xb,V.ref xo])
  have sA:=s0.trans (s1.trans (s3.trans sp))
  refine⟨_,rfl,wa,_,_,_,rfl,rfl,SqL.of (sA _ _ hw),rfl,_,_,rfl,rfl,⟨by decide,by decide⟩,?_⟩
  by_cases c:d0 / 2=0
  ·exact⟨p,_,_,_,rfl,rfl,SqL.of aaA,(by show atI _ (d0 / 2)=_;rw[c];rfl),.ref xb,rfl,sA,aaD (s1.trans (s3.trans sp)) 6 (mkB xb db H)⟩
  ·exact⟨p,_,_,_,rfl,rfl,SqL.of aaA,(by show atI _ (d0 / 2)=_;rw[show d0 / 2=1 by omega];rfl),.ref xo,rfl,sA,aaD sp 6 hbO⟩
 rintro σ' H1 ⟨v,rfl,s1,hb⟩
 obtain⟨us,eus,hus,lus⟩:=awR (d0:=d0) hm h1 h2 h3 h4
 refine⟨_,rfl,_,rfl,_,rfl,_,rfl,wa,_,rfl,SqL.of (s1 _ _ hw),fun p hp=>⟨p,rfl,⟨_,SqL.of aaA⟩,?_⟩⟩
 rw[eus]
 have sp:=aaB hp (.lst (us.map V.int))
 refine afO (K:=K) (a:=p) (xs:=us.map V.int) (fun i σ H2=>∃(v:V) (t:Int) (v3:Option V),σ=[some (.ref wa),some (.int mn),some v,v3]/\Same (upd H1 p (.lst (us.map V.int))) H2/\aaS C_Book C_Of C_Joined C_Met C_Less C_Turned 6 H2 v (t,(i:Int)+1)/\t<=2*(i:Int)+1) ⟨v,1,_,rfl,Same.refl _,aeF (aaD sp 6 hb) rfl rfl,by decide⟩ (fun i σ H2 _ ⟨_,_,_,_,s2,_⟩=>SqL.of (s2 _ _ aaA)) ?turn ?done
 case done=>
  rintro σ H2 ⟨v,t,v3,rfl,s2,hb,ht⟩
  rw[List.length_map] at hb ht
  refine⟨_,rfl,q v t H2 (s1.trans (sp.trans s2)) (aeF hb rfl (by omega)) (by omega)⟩
 case turn=>
  rintro i x σ H2 hx ⟨v,t,v3,rfl,s2,hb,ht⟩
  rw[List.getElem?_map] at hx
  cases ez:us[i]? with
  |none=>rw[ez] at hx;cases hx
  |some z=>
   rw[ez] at hx
   obtain rfl:V.int z=x:=Option.some.inj hx
   have hz:=hus z (List.mem_of_getElem? ez)
   have hi:(i:Int)<mn-1:=by rw[←lus];have:=(List.getElem?_eq_some_iff.mp ez).1;omega
   have ic:((i+1:Nat):Int)=(i:Int)+1:=rfl
   refine⟨_,rfl,rfl,_,rfl,ifI (fun c=>?_) (fun c=>?_)⟩
   ·exact⟨_,rfl,fun x dx nx nd _=>mkT (ahT hb ⟨by show t<24;omega,by show (i:Int)+1<5;omega⟩) (fun H3 s3 hb3=>⟨rfl,.ref x,1+t,_,rfl,s2.trans s3,aeF hb3 rfl (by omega),by omega⟩) nx nd⟩
   refine⟨_,rfl,rfl,_,rfl,ifI (fun c=>?_) (fun c=>?_)⟩
   ·exact⟨_,rfl,(by show 1<=sizeLine;decide),fun l hl=>fun x dx nx nd _=>mkJ (.inl rfl) (SqL.of aaA) (by show 1<=8;decide) (ahT (aaD (aaB hl _) 6 hb) ⟨by show t<24;omega,by show (i:Int)+1<5;omega⟩) (fun H3 s3 hb3 _=>⟨rfl,.ref x,1+t,_,rfl,s2.trans ((aaB hl _).trans s3),aeF hb3 rfl (by omega),by omega⟩) nx nd⟩
   refine⟨_,rfl,rfl,_,rfl,ifI (fun c=>?_) (fun c=>?_)⟩
   ·refine fun xb db nb ndb _=>⟨_,rfl,(by show 2<=sizeLine;decide),fun l hl=>fun x dx nx nd _=>?_⟩
    have sb:=aaF (a:=.own xb) (b:=.ins C_Book db []) nb ndb
    exact mkJ (.inr rfl) (SqL.of aaA) (by show 2<=8;decide) (akT (t:=2+t) (d:=(i:Int)+2) (aaD (aaB hl _) 6 (mkB xb db H2)) (aaD (sb.trans (aaB hl _)) 6 hb) (by show 2+t=1+(1+t);omega) ⟨by show (1:Int)<_;omega,by show (i:Int)+1<_;omega,.inr (by show (i:Int)+2-1=i+1;omega)⟩ ⟨by omega,by omega⟩) (fun H3 s3 hb3 _=>⟨rfl,.ref x,2+t,_,rfl,s2.trans (sb.trans ((aaB hl _).trans s3)),aeF hb3 rfl (by omega),by omega⟩) nx nd
   ·refine⟨_,rfl,fun xb db nb ndb _=>fun x dx nx nd _=>?_⟩
    have sb:=aaF (a:=.own xb) (b:=.ins C_Book db []) nb ndb
    exact mkL (akT (t:=2+t) (d:=(i:Int)+2) (aaD sb 6 hb) (mkB xb db H2) (by show 2+t=1+(t+1);omega) ⟨by show (i:Int)+1<_;omega,by show (1:Int)<_;omega,.inl (by show (i:Int)+2-1=i+1;omega)⟩ ⟨by omega,by omega⟩) (fun H3 s3 hb3=>⟨rfl,.ref x,2+t,_,rfl,s2.trans (sb.trans s3),aeF hb3 rfl (by omega),by omega⟩) nx nd
theorem abZ:Df P w K mg base "_law_wide" 20 ["_law_many"] (akK K C_NoBook C_Book C_Of C_Joined C_Met C_Less C_Turned):=by
 refine ZZ.F__law_wide.dfs sc__law_wide (fun vs H Q E h=>?_) (fun f cdv A outer s H vs Q E hr h=>?_)
 ·obtain⟨mn,rfl,hm,q⟩:=h
  rfl
 obtain⟨mn,rfl,hm,q⟩:=h
 refine⟨_,(ssC (aaN 1 (abF aN) sc__law_wide.nd)
   (ssC (aaN 2 (eOp aH6 (v_ 0) eI) sc__law_wide.nd)
   (ssC (sWh (tCm oGt (v_ 2) eI) (ssC (anD (av8 (v_ 1) (abO ZZ.c_Joined (aaI ZZ) hr aa0 (aC (eOp anV (abF (aC (ac2 ZZ.c_Book ZZ.i_Book) aN)) eI) aN))))
   (ss1 (aaN 2 (eOp aH6 (v_ 2) eI) sc__law_wide.nd))) PassesOwn.never)
   (ssC (sIf (tCm oGt (v_ 2) eI) (ss1 (anD (av8 (v_ 1) (abO ZZ.c_Met (aa7 ZZ) hr aa0 (aC (eOp anV (abF (aC (ac2 ZZ.c_Book ZZ.i_Book) aN)) (eOp aH6 (v_ 2) eI)) aN))))) ssN)
   (ss1 (aaH (v_ 1))))))),?_⟩
 refine⟨(by show 0<=sizeLine;decide),fun p hp=>⟨_,rfl,_,_,rfl,rfl,?_⟩⟩
 refine arW (fun σ H2=>∃(i:Nat) (us:List V),i<=2/\σ=[some (.int mn),some (.ref p),some (.int (mn-1-9*(i:Int)))]/\Same H H2/\H2 p=some (.lst us)/\Paired (aaS C_Book C_Of C_Joined C_Met C_Less C_Turned 6 H2) us (List.replicate i (9,2))) (fun σ _=>match σ[2]? with | some (some (V.int l))=>l.toNat | _=>0) ⟨0,[],by decide,by rw[show mn-1-9*((0:Nat):Int)=mn-1 by omega];rfl,aaB hp _,aaA,.nil⟩ ?_
 rintro σ H2 ⟨i,us,hi,rfl,s2,h2,hP⟩
 have ln:us.length=i:=by rw[Paired.length hP,List.length_replicate]
 refine⟨_,rfl,_,_,rfl,rfl,_,rfl,ifD (fun c=>?_) (fun c=>?_)⟩
 ·refine⟨fun σ' H'=>∃us',σ'=[some (.int mn),some (.ref p),some (.int (mn-1-9*(i:Int)-9))]/\Same H H'/\H' p=some (.lst us')/\Paired (aaS C_Book C_Of C_Joined C_Met C_Less C_Turned 6 H') us' (List.replicate (i+1) (9,2)),?_,?_⟩
  ·rintro σ' H' ⟨us',rfl,s',h',hP'⟩
   refine⟨_,?_,rfl,i+1,us',by omega,?_,s',h',hP'⟩
   ·show (mn-1-9*(i:Int)-9).toNat<(mn-1-9*(i:Int)).toNat
    omega
   ·rw[show mn-1-9*((i+1:Nat):Int)=mn-1-9*(i:Int)-9 by omega]
  ·refine⟨_,rfl,.inl ⟨rfl,_,SqL.of h2⟩,fun xb db nb ndb _=>⟨(by show 1<=sizeLine;decide),fun l1 hl1=>⟨l1,_,_,rfl,rfl,aaA,(by decide),(by decide),(by show 1*8<=sizeLine;decide),fun l2 hl2=>fun x dx nx nd _=>mkJ (.inl rfl) (SqL.of aaA) (by rw[acS];show _*1<=8;omega) (amV (aaD ((aaB hl1 _).trans (aaB hl2 _)) 6 (mkB xb db _)) (by omega) (by omega)) (fun H3 s3 hb3 hc3=>⟨rfl,p,_,_,rfl,rfl,((aaF nb ndb).trans ((aaB hl1 _).trans ((aaB hl2 _).trans s3))) _ _ h2,(by rw[ln,sizeLine_eq];omega),?_⟩) nx nd⟩⟩⟩
   have sb:=aaF (a:=.own xb) (b:=.ins C_Book db []) nb ndb
   have sA:=sb.trans ((aaB hl1 (.lst [V.ref xb])).trans ((aaB hl2 (.lst (List.replicate (Int.toNat 8) [V.ref xb]).flatten)).trans s3))
   refine⟨_,rfl,_,_,rfl,rfl,us++[.ref x],rfl,ab2 hp (s2.trans sA),aaA,?_⟩
   rw[List.replicate_succ']
   exact adJ (Paired.mapP hP fun _ _ z=>adL (sA _ _ h2) 6 (aaD sA 6 z)) (adL (sA _ _ h2) 6 hb3)
 have i2:i=2:=by omega
 subst i2
 refine⟨_,rfl,_,_,rfl,rfl,_,rfl,ifD (fun c2=>?_) (fun c2=>absurd (show (1:Int)<mn-1-9*((2:Nat):Int) by omega) c2)⟩
 obtain⟨k,ek,hk⟩:∃k:Nat,mn-20=(k:Int)/\2<=k/\k<=5:=⟨(mn-20).toNat,by omega,by omega,by omega⟩
 refine⟨_,rfl,.inl ⟨rfl,_,SqL.of h2⟩,fun xb db nb ndb _=>⟨(by show 1<=sizeLine;decide),fun l1 hl1=>⟨_,rfl,_,_,rfl,rfl,⟨l1,_,_,rfl,rfl,aaA,(by show -(2^63)<=mn-1-9*((2:Nat):Int)-1;omega),(by show mn-1-9*((2:Nat):Int)-1<2^63;omega),(by rw[sizeLine_eq];show 1*_<=_;omega),fun l2 hl2=>fun x dx nx nd _=>mkJ (.inr rfl) (SqL.of aaA) (by rw[acS];show _*1<=8;omega) (amV (aaD ((aaB hl1 _).trans (aaB hl2 _)) 6 (mkB xb db _)) (by omega) (by omega)) (fun H3 s3 hb3 hc3=>⟨rfl,p,_,_,rfl,rfl,((aaF nb ndb).trans ((aaB hl1 _).trans ((aaB hl2 _).trans s3))) _ _ h2,(by rw[ln,sizeLine_eq];omega),?_⟩) nx nd⟩⟩⟩⟩
 have sb:=aaF (a:=.own xb) (b:=.ins C_Book db []) nb ndb
 have sA:=sb.trans ((aaB hl1 (.lst [V.ref xb])).trans ((aaB hl2 (.lst (List.replicate (Int.toNat (mn-1-9*((2:Nat):Int)-1)) [V.ref xb]).flatten)).trans s3))
 refine⟨_,rfl,q p _ _ (ab2 hp (s2.trans sA)) aaA ?_⟩
 exact adJ (Paired.mapP hP fun _ _ z=>adL (sA _ _ h2) 6 (aaD sA 6 z)) (adL (sA _ _ h2) 6 (aeF hb3 (by show 1+((Int.toNat (mn-1-9*((2:Nat):Int)-1):Nat):Int)=mn-19;omega) rfl))
theorem aa4:Df P w K mg base "_law_sizes_are" 16 ["_law_book","_law_tally","_law_depth"] (ae6 K C_Book C_Of C_Joined C_Met C_Less C_Turned):=by
 refine ZZ.F__law_sizes_are.dfs afE (fun vs H Q E h=>?_) (fun f cdv A outer s H vs Q E hr h=>?_)
 ·obtain⟨v,t,d,rfl,hb,q⟩:=h
  rfl
 obtain⟨v,t,d,rfl,hb,q⟩:=h
 refine⟨_,(ss1 (aaH (amR (eCB cIn ZZ.z_isinstance PyProof.Rows.boot_isinstance (aC (v_ 0) (aC (eGl (v:=.ref C_Book) ZZ.c_Book.at_ rfl) aN))) (alB (ak8 (oEqI hr.units) (ak5 (aC (auT (afN ZZ) hr (v_ 0)) (aC (aN1 (an4 ZZ) hr (v_ 0)) aN))) (ak5 (aC (v_ 1) (aC (v_ 2) aN)))))))),?_⟩
 obtain⟨ty,ht,hk⟩:=aj7 ⟨ZZ.is_Book,ZZ.c_Book.cl,ZZ.kb_Book⟩ ⟨ZZ.is_Of,ZZ.c_Of.cl,ZZ.kb_Of⟩ ⟨ZZ.is_Joined,ZZ.c_Joined.cl,ZZ.kb_Joined⟩ ⟨ZZ.is_Met,ZZ.c_Met.cl,ZZ.kb_Met⟩ ⟨ZZ.is_Less,ZZ.c_Less.cl,ZZ.kb_Less⟩ ⟨ZZ.is_Turned,ZZ.c_Turned.cl,ZZ.kb_Turned⟩ hb
 refine⟨_,rfl,v,ty,C_Book,true,rfl,ht,hk,_,rfl,ab0 ⟨v,(t,d),rfl,hb,fun H1 s1=>⟨v,(t,d),rfl,aaD s1 6 hb,fun H2 s2=>⟨(by show 2<=sizeLine;decide),fun t1 h1=>⟨_,rfl,_,rfl,(by show 2<=sizeLine;decide),fun t2 h2=>⟨t1,t2,true,[t,d],[t,d],rfl,rfl,SqT.of ((aaB h2 _) _ _ aaA),SqT.of aaA,?_⟩⟩⟩⟩⟩⟩
 show Q (.bl (decide ([t,d]=[t,d]))) _
 rw[decide_eq_true rfl]
 exact q _ (s1.trans (s2.trans ((aaB h1 _).trans (aaB h2 _))))
theorem aeN:Df P w K mg base "_law_deep_edges" 22 ["_law_ways"] (aeV K C_NoBook C_Row C_Book C_Of C_Joined C_Met C_Less C_Turned):=by
 refine ZZ.F__law_deep_edges.dfs sc__law_deep_edges (fun vs H Q E h=>?_) (fun f cdv A outer s H vs Q E hr h=>?_)
 ·obtain⟨wa,d0,d1,d2,d3,d4,rfl,hw,hd,q⟩:=h
  rfl
 obtain⟨wa,d0,d1,d2,d3,d4,rfl,hw,hd,q⟩:=h
 refine⟨_,(ssC (aaN 1 (eD (afR ZZ) hr (aC (v_ 0) (aC eI aN))) sc__law_deep_edges.nd)
   (ssK (aaN 2 (eD (afR ZZ) hr (aC (v_ 0) (aC eI aN))) sc__law_deep_edges.nd)
   (ssK (sIf (tW (wOr (tCm oNe (aN1 (an4 ZZ) hr (v_ 1)) eI) (acN (tNo (tVa (eD (aa4 ZZ) hr (aC (abO ZZ.c_Turned (aaY ZZ) hr aa0 (aC (v_ 2) aN)) (aC (eOp ahX eI (auT (afN ZZ) hr (v_ 2))) (aC eI aN))))))))) (ss1 (aaH eB)) ssN)
   (ssC (alM (iT (ak5 (aC (eSx [106,111,105,110]) (aC (eSx [109,101,101,116]) aN)))) (gN 3 sc__law_deep_edges.nd) (ss1 (sIf (tW (wOr (tNo (tVa (eD (aaK ZZ) hr (aC (v_ 3) (aC (abF (aC (ac2 ZZ.c_Book ZZ.i_Book) (aC (v_ 1) aN))) (aC eN aN)))))) (acN (tNo (tVa (eD (aaK ZZ) hr (aC (v_ 3) (aC (abF (aC (v_ 1) aN)) (aC eN aN))))))))) (ss1 (aaH eB)) ssN)) PassesOwn.never)
   (ssC (sIf (tW (wOr (tNo (tVa (eD (aaK ZZ) hr (aC (eSx [108,101,115,115]) (aC (v_ 1) (aC (ac2 ZZ.c_Book ZZ.i_Book) aN)))))) (acN (tNo (tVa (eD (aaK ZZ) hr (aC (eSx [108,101,115,115]) (aC (ac2 ZZ.c_Book ZZ.i_Book) (aC (v_ 1) aN))))))))) (ss1 (aaH eB)) ssN)
   (ss1 (aaH (eD (aaK ZZ) hr (aC (eSx [116,117,114,110]) (aC (v_ 1) (aC eN aN))))))))))),?_⟩
 refine⟨_,rfl,wa,d0,d1,d2,d3,d4,5,rfl,hw,hd,.inr rfl,fun v5 t5 H1 s1 b5 l5=>?_⟩
 refine⟨fun σ' H'=>∃(v4:V) (t4:Int),σ'=[some (.ref wa),some v5,some v4,none]/\Same H1 H'/\aaS C_Book C_Of C_Joined C_Met C_Less C_Turned 6 H' v4 (t4,4)/\t4<=9,⟨_,rfl,wa,d0,d1,d2,d3,d4,4,rfl,s1 _ _ hw,hd,.inl rfl,fun v4 t4 H2 s2 b4 l4=>⟨v4,t4,rfl,s2,b4,l4⟩⟩,?_⟩
 rintro σ' H2 ⟨v4,t4,rfl,s2',b4,l4⟩
 replace b5:=aaD s2' 6 b5
 refine⟨fun σ' H'=>σ'=[some (.ref wa),some v5,some v4,none]/\Same H2 H',⟨v5,(t5,5),rfl,b5,fun H3 s3=>⟨rfl,_,rfl,ap4 rfl ⟨_,rfl,fun x dx nx nd _=>mkT (ahT (aaD s3 6 b4) ⟨by show t4<24;omega,by show (4:Int)<5;decide⟩) (fun H4 s4 hbT=>⟨rfl,v4,(t4,4),rfl,aaD (s3.trans s4) 6 b4,fun H5 s5=>⟨_,_,rfl,rfl,.ref x,1+t4,5,rfl,aeF (aaD s5 6 hbT) rfl rfl,fun H6 s6=>⟨_,rfl,aaX ⟨rfl,s3.trans (s4.trans (s5.trans s6))⟩⟩⟩⟩) nx nd⟩⟩⟩,?_⟩
 rintro σ' H7 ⟨rfl,s7⟩
 replace b5:=aaD s7 6 b5
 refine⟨(by show 2<=sizeLine;decide),fun tt ht=>?_⟩
 have st:=aaB ht (.tup [.str (Tx [106,111,105,110]),.str (Tx [109,101,101,116])])
 replace b5:=aaD st 6 b5
 refine⟨tt,rfl,⟨_,SqT.of aaA⟩,aDZ (K:=K) (a:=tt) (xs:=[.str (Tx [106,111,105,110]),.str (Tx [109,101,101,116])]) (fun i σ H2=>∃v3,σ=[some (.ref wa),some v5,some v4,v3]/\Same (upd H7 tt (.tup [.str (Tx [106,111,105,110]),.str (Tx [109,101,101,116])])) H2) ⟨_,rfl,Same.refl _⟩ (fun i σ H2 _ ⟨_,_,s2⟩=>SqT.of (s2 _ _ aaA)) ?turn ?done⟩
 case turn=>
  rintro i x σ H2 hx ⟨v3,rfl,s2⟩
  match i,hx with
  |0,hx=>
   cases hx
   refine⟨_,rfl,fun xb db nb ndb _=>⟨_,rfl,(by show 2<=sizeLine;decide),fun l hl=>⟨_,_,_,rfl,.inr (.inl ⟨rfl,adC (SqL.of aaA) (by show 2<=9;decide) (adZ (aaD (aaB hl _) 6 (mkB xb db H2)) (aaD ((aaF nb ndb).trans (aaB hl _)) 6 (aaD s2 6 b5)) (.inr (.inr (Int.le_refl 5))))⟩),fun H8 s8=>⟨_,rfl,aaX ?_⟩⟩⟩⟩
   have sb:=aaF (a:=.own xb) (b:=.ins C_Book db []) nb ndb
   have sc:=s2.trans (sb.trans ((aaB hl (.lst [V.ref xb,v5])).trans s8))
   refine⟨_,rfl,_,rfl,(by show 1<=sizeLine;decide),fun l' hl'=>⟨_,_,_,rfl,.inr (.inl ⟨rfl,adC (SqL.of aaA) (by show 1<=9;decide) (ahM (aaD (sc.trans (aaB hl' _)) 6 b5) (.inr (Int.le_refl 5)))⟩),fun H9 s9=>⟨_,rfl,aaX ⟨_,rfl,sc.trans ((aaB hl' _).trans s9)⟩⟩⟩⟩
  |1,hx=>
   cases hx
   refine⟨_,rfl,fun xb db nb ndb _=>⟨_,rfl,(by show 2<=sizeLine;decide),fun l hl=>⟨_,_,_,rfl,.inr (.inr (.inl ⟨rfl,adC (SqL.of aaA) (by show 2<=9;decide) (adZ (aaD (aaB hl _) 6 (mkB xb db H2)) (aaD ((aaF nb ndb).trans (aaB hl _)) 6 (aaD s2 6 b5)) (.inr (.inr (Int.le_refl 5))))⟩)),fun H8 s8=>⟨_,rfl,aaX ?_⟩⟩⟩⟩
   have sb:=aaF (a:=.own xb) (b:=.ins C_Book db []) nb ndb
   have sc:=s2.trans (sb.trans ((aaB hl (.lst [V.ref xb,v5])).trans s8))
   refine⟨_,rfl,_,rfl,(by show 1<=sizeLine;decide),fun l' hl'=>⟨_,_,_,rfl,.inr (.inr (.inl ⟨rfl,adC (SqL.of aaA) (by show 1<=9;decide) (ahM (aaD (sc.trans (aaB hl' _)) 6 b5) (.inr (Int.le_refl 5)))⟩)),fun H9 s9=>⟨_,rfl,aaX ⟨_,rfl,sc.trans ((aaB hl' _).trans s9)⟩⟩⟩⟩
  |i+2,hx=>cases hx
 case done=>
  rintro σ H2 ⟨v3,rfl,s2⟩
  replace b5:=aaD s2 6 b5
  refine⟨_,rfl,fun xb db nb ndb _=>⟨_,_,_,rfl,.inr (.inr (.inr (.inl ⟨rfl,adZ (aaD (aaF nb ndb) 6 b5) (mkB xb db H2) (.inr (.inl (Int.le_refl 5)))⟩))),fun H8 s8=>⟨_,rfl,aaX ?_⟩⟩⟩
  have sb:=aaF (a:=.own xb) (b:=.ins C_Book db []) nb ndb
  refine fun xc dc nc ndc _=>⟨_,rfl,_,_,_,rfl,.inr (.inr (.inr (.inl ⟨rfl,adZ (mkB xc dc H8) (aaD (aaF nc ndc) 6 (aaD (sb.trans s8) 6 b5)) (.inr (.inr (Int.le_refl 5)))⟩))),fun H9 s9=>⟨_,rfl,aaX ?_⟩⟩
  have sc:=aaF (a:=.own xc) (b:=.ins C_Book dc []) nc ndc
  have sA:=sb.trans (s8.trans (sc.trans s9))
  exact⟨_,rfl,_,_,_,rfl,.inr (.inr (.inr (.inr ⟨rfl,ahM (aaD sA 6 b5) (.inr (Int.le_refl 5))⟩))),fun H10 s10=>q _ (s1.trans (s2'.trans (s7.trans (st.trans (s2.trans (sA.trans s10))))))⟩
theorem aeQ:Df P w K mg base "_law_wide_edges" 22 [] (ae3 K C_NoBook C_Row C_Book C_Of C_Joined C_Met C_Less C_Turned):=by
 refine ZZ.F__law_wide_edges.dfs sc__law_wide_edges (fun vs H Q E h=>?_) (fun f cdv A outer s H vs Q E hr h=>?_)
 ·obtain⟨rfl,q⟩:=h
  rfl
 obtain⟨rfl,q⟩:=h
 refine⟨_,(ssC (aaN 0 (eD (abZ ZZ) hr (aC eI aN)) sc__law_wide_edges.nd)
   (ssK (aaN 1 (eD (abZ ZZ) hr (aC eI aN)) sc__law_wide_edges.nd)
   (ssK (sIf (tW (wOr (tNo (tVa (eD (aa4 ZZ) hr (aC (abO ZZ.c_Joined (aaI ZZ) hr aa0 (aC (v_ 0) aN)) (aC eI (aC eI aN)))))) (acN (tNo (tVa (eD (aa4 ZZ) hr (aC (abO ZZ.c_Met (aa7 ZZ) hr aa0 (aC (v_ 0) aN)) (aC eI (aC eI aN))))))))) (ss1 (aaH eB)) ssN)
   (ssK (sIf (tW (wOr (tNo (tVa (eD (aaK ZZ) hr (aC (eSx [106,111,105,110]) (aC (v_ 1) (aC eN aN)))))) (acN (tNo (tVa (eD (aaK ZZ) hr (aC (eSx [109,101,101,116]) (aC (v_ 1) (aC eN aN))))))))) (ss1 (aaH eB)) ssN)
   (ssK (aaN 2 (abO ZZ.c_Joined (aaI ZZ) hr aa0 (aC (eD (abZ ZZ) hr (aC eI aN)) aN)) sc__law_wide_edges.nd)
   (ssK (sIf (tW (wOr (tNo (tVa (eD (aa4 ZZ) hr (aC (abO ZZ.c_Turned (aaY ZZ) hr aa0 (aC (v_ 2) aN)) (aC eI (aC eI aN)))))) (acN (tNo (tVa (eD (aaK ZZ) hr (aC (eSx [116,117,114,110]) (aC (abO ZZ.c_Joined (aaI ZZ) hr aa0 (aC (v_ 0) aN)) (aC eN aN))))))))) (ss1 (aaH eB)) ssN)
   (ss1 (aaH (amR (eD (aaK ZZ) hr (aC (eSx [108,101,115,115]) (aC (v_ 2) (aC (ac2 ZZ.c_Book ZZ.i_Book) aN)))) (alB (eD (aa4 ZZ) hr (aC (abO ZZ.c_Less (abQ ZZ) hr aa0 (aC (abO ZZ.c_Joined (aaI ZZ) hr aa0 (aC (eD (abZ ZZ) hr (aC eI aN)) aN)) (aC (ac2 ZZ.c_Book ZZ.i_Book) aN))) (aC eI (aC eI aN)))))))))))))),?_⟩
 refine⟨24,rfl,⟨by decide,by decide⟩,fun p us H1 s1 hp hP=>?_⟩
 have lu:us.length=3:=Paired.length hP
 refine⟨fun σ' H'=>∃(o:Addr) (os:List V),σ'=[some (.ref p),some (.ref o),none]/\Same H1 H'/\H' o=some (.lst os)/\Paired (aaS C_Book C_Of C_Joined C_Met C_Less C_Turned 6 H') os [(9,2),(9,2),(25-19,2)],⟨25,rfl,⟨by decide,by decide⟩,fun o os H2 s2 ho hO=>⟨o,os,rfl,s2,ho,hO⟩⟩,?_⟩
 rintro σ' H2 ⟨o,os,rfl,s2,ho,hO⟩
 replace hP:=Paired.mapP hP fun _ _ z=>aaD s2 6 z
 replace hp:=s2 _ _ hp
 refine⟨fun σ' H'=>σ'=[some (.ref p),some (.ref o),none]/\Same H2 H',⟨_,rfl,fun xa da na ea _=>mkJ (.inl rfl) (SqL.of (hp)) (by rw[lu];decide) (afF hP (by decide)) (fun Ha sa ba ca=>⟨rfl,_,24,3,rfl,ba,fun H6 s6=>⟨_,rfl,aaX ⟨_,rfl,fun xb db nb eb _=>mkJ (.inr rfl) (SqL.of ((sa.trans s6) _ _ hp)) (by rw[lu];decide) (afF (Paired.mapP hP fun _ _ z=>aaD (sa.trans s6) 6 z) (by decide)) (fun Hb sb bb cb=>⟨rfl,_,24,3,rfl,bb,fun H7 s7=>⟨_,rfl,aaX ⟨rfl,sa.trans (s6.trans (sb.trans s7))⟩⟩⟩) nb eb⟩⟩⟩) na ea⟩,?_⟩
 rintro σ' H3 ⟨rfl,s3⟩
 replace hO:=Paired.mapP hO fun _ _ z=>aaD s3 6 z
 replace ho:=s3 _ _ ho
 replace hP:=Paired.mapP hP fun _ _ z=>aaD s3 6 z
 replace hp:=s3 _ _ hp
 refine⟨fun σ' H'=>σ'=[some (.ref p),some (.ref o),none]/\Same H3 H',⟨_,rfl,_,_,_,rfl,.inr (.inl ⟨rfl,ak3 (SqL.of ho) hO⟩),fun H4 s4=>⟨_,rfl,aaX ⟨_,rfl,_,_,_,rfl,.inr (.inr (.inl ⟨rfl,ak3 (SqL.of (s4 _ _ ho)) (Paired.mapP hO fun _ _ z=>aaD s4 6 z)⟩)),fun H5 s5=>⟨_,rfl,aaX ⟨rfl,s4.trans s5⟩⟩⟩⟩⟩,?_⟩
 rintro σ' H4 ⟨rfl,s4⟩
 replace hP:=Paired.mapP hP fun _ _ z=>aaD s4 6 z
 replace hp:=s4 _ _ hp
 refine⟨fun σ' H'=>∃one:V,σ'=[some (.ref p),some (.ref o),some one]/\Same H4 H'/\aaS C_Book C_Of C_Joined C_Met C_Less C_Turned 6 H' one (23,3),⟨23,rfl,⟨by decide,by decide⟩,fun r rs H5 s5 hr_ hR=>fun xa da na ea _=>mkJ (.inl rfl) (SqL.of (hr_)) (by rw[show rs.length=3 from Paired.length hR];decide) (afF hR (by decide)) (fun Ha sa ba ca=>⟨rfl,.ref xa,rfl,s5.trans sa,ba⟩) na ea⟩,?_⟩
 rintro σ' H5 ⟨one,rfl,s5,h1⟩
 replace hP:=Paired.mapP hP fun _ _ z=>aaD s5 6 z
 replace hp:=s5 _ _ hp
 refine⟨fun σ' H'=>σ'=[some (.ref p),some (.ref o),some one]/\Same H5 H',⟨_,rfl,fun x dx nx nd _=>mkT (ahT h1 ⟨by show (23:Int)<24;decide,by show (3:Int)<5;decide⟩) (fun H6 s6 b6=>⟨rfl,.ref x,24,4,rfl,aeF b6 rfl rfl,fun H7 s7=>⟨_,rfl,aaX ⟨_,rfl,fun xa da na ea _=>mkJ (.inl rfl) (SqL.of ((s6.trans s7) _ _ hp)) (by rw[lu];decide) (afF (Paired.mapP hP fun _ _ z=>aaD (s6.trans s7) 6 z) (by decide)) (fun Ha sa ba ca=>⟨rfl,_,_,_,rfl,.inr (.inr (.inr (.inr ⟨rfl,ahM ba (.inl (by show (24:Int)<1+24;decide))⟩))),fun H8 s8=>⟨_,rfl,aaX ⟨rfl,s6.trans (s7.trans (sa.trans s8))⟩⟩⟩) na ea⟩⟩⟩) nx nd⟩,?_⟩
 rintro σ' H6 ⟨rfl,s6⟩
 replace h1:=aaD s6 6 h1
 refine⟨_,rfl,fun xb db nb ndb _=>⟨_,_,_,rfl,.inr (.inr (.inr (.inl ⟨rfl,adZ (aaD (aaF nb ndb) 6 h1) (mkB xb db H6) (.inl (by show (24:Int)<1+(23+1);decide))⟩))),fun H7 s7=>⟨_,rfl,ab0 ⟨22,rfl,⟨by decide,by decide⟩,fun r rs H8 s8 hr_ hR=>fun xa da na ea _=>mkJ (.inl rfl) (SqL.of (hr_)) (by rw[show rs.length=3 from Paired.length hR];decide) (afF hR (by decide)) (fun Ha sa ba ca=>⟨rfl,fun xc dc nc ndc _=>fun x dx nx nd _=>mkL (akT (t:=24) (d:=4) (aaD (aaF nc ndc) 6 ba) (mkB xc dc Ha) (by decide) (by decide) (by decide)) (fun H9 s9 b9=>⟨rfl,.ref x,24,4,rfl,b9,fun H10 s10=>q _ (s1.trans (s2.trans (s3.trans (s4.trans (s5.trans (s6.trans ((aaF nb ndb).trans (s7.trans (s8.trans (sa.trans ((aaF nc ndc).trans (s9.trans s10))))))))))))⟩) nx nd⟩) na ea⟩⟩⟩⟩
theorem ai8:Df P w K mg base "_law_twice" 22 [] (aiY K C_NoBook C_Row C_Book C_Of C_Joined C_Met C_Less C_Turned):=by
 refine ZZ.F__law_twice.dfs sc__law_twice (fun vs H Q E h=>?_) (fun f cdv A outer s H vs Q E hr h=>?_)
 ·obtain⟨rfl,q⟩:=h
  rfl
 obtain⟨rfl,q⟩:=h
 refine⟨_,(ssK (aaN 0 (abO ZZ.c_Joined (aaI ZZ) hr aa0 (aC (eOp anV (abF (aC (ac2 ZZ.c_Book ZZ.i_Book) aN)) eI) aN)) sc__law_twice.nd)
   (ssK (aaN 1 (abO ZZ.c_Joined (aaI ZZ) hr aa0 (aC (abF (aC (v_ 0) (aC (v_ 0) aN))) aN)) sc__law_twice.nd)
   (ssC (sIf (tW (wOr (tCm oNe (auT (afN ZZ) hr (v_ 0)) eI) (acN (tCm oNe (auT (afN ZZ) hr (v_ 1)) eI)))) (ss1 (aaH eB)) ssN)
   (ss1 (aaH (amR (eD (aaK ZZ) hr (aC (eSx [106,111,105,110]) (aC (abF (aC (v_ 0) (aC (v_ 0) (aC (v_ 0) aN)))) (aC eN aN)))) (alB (eD (aaK ZZ) hr (aC (eSx [108,101,115,115]) (aC (v_ 1) (aC (v_ 0) aN))))))))))),?_⟩
 refine⟨fun σ' H'=>∃one:V,σ'=[some one,none]/\Same H H'/\aaS C_Book C_Of C_Joined C_Met C_Less C_Turned 6 H' one (9,2),fun xb db nb ndb _=>⟨(by show 1<=sizeLine;decide),fun l1 hl1=>⟨l1,_,_,rfl,rfl,aaA,(by decide),(by decide),(by show 1*8<=sizeLine;decide),fun l2 hl2=>fun x dx nx nd _=>mkJ (.inl rfl) (SqL.of aaA) (by rw[acS];show _*1<=8;omega) (amV (aaD ((aaB hl1 _).trans (aaB hl2 _)) 6 (mkB xb db _)) (by omega) (by omega)) (fun H3 s3 hb3 hc3=>⟨rfl,.ref x,rfl,(aaF nb ndb).trans ((aaB hl1 _).trans ((aaB hl2 _).trans s3)),hb3⟩) nx nd⟩⟩,?_⟩
 rintro σ' H1 ⟨one,rfl,s1,b1⟩
 refine⟨fun σ' H'=>∃dbl:V,σ'=[some one,some dbl]/\Same H1 H'/\aaS C_Book C_Of C_Joined C_Met C_Less C_Turned 6 H' dbl (19,3),⟨_,rfl,_,rfl,(by show 2<=sizeLine;decide),fun l hl=>fun x dx nx nd _=>mkJ (.inl rfl) (SqL.of aaA) (by show 2<=8;decide) (akT (t:=19) (d:=3) (aaD (aaB hl _) 6 b1) (aaD (aaB hl _) 6 b1) (by decide) (by decide) (by decide)) (fun H2 s2 b2 _=>⟨rfl,.ref x,rfl,(aaB hl _).trans s2,b2⟩) nx nd⟩,?_⟩
 rintro σ' H2 ⟨dbl,rfl,s2,b2⟩
 replace b1:=aaD s2 6 b1
 refine⟨one,(9,2),rfl,b1,fun H3 s3=>⟨rfl,_,rfl,ap4 rfl ⟨dbl,(19,3),rfl,aaD s3 6 b2,fun H4 s4=>⟨rfl,_,rfl,ap4 rfl ?_⟩⟩⟩⟩
 have s34:=s3.trans s4
 refine⟨_,rfl,_,rfl,_,rfl,(by show 3<=sizeLine;decide),fun l hl=>⟨_,_,_,rfl,.inr (.inl ⟨rfl,adC (SqL.of aaA) (by show 3<=9;decide) (av9 (aaD (s34.trans (aaB hl _)) 6 b1))⟩),fun H5 s5=>⟨_,rfl,ab0 ⟨_,rfl,_,rfl,_,_,_,rfl,.inr (.inr (.inr (.inl ⟨rfl,adZ (aaD (s34.trans ((aaB hl _).trans s5)) 6 b2) (aaD (s34.trans ((aaB hl _).trans s5)) 6 b1) (.inl (by show (24:Int)<1+(19+9);decide))⟩))),fun H6 s6=>q _ (s1.trans (s2.trans (s34.trans ((aaB hl _).trans (s5.trans s6)))))⟩⟩⟩⟩
theorem aL1{fL:Addr}{fdL:FuncData}(F:Fun K "law" "law" ajK fL fdL):FnOk P w K mg base CX0 23 fL fdL ["_law_script"] (sp_law K):=by
 refine F.oks sc_law (fun vs H Q E h=>?_) (fun cdv A outer s H vs Q E hr h=>?_)
 ·obtain⟨a,ns,rfl,hS,hlen,q⟩:=h
  rfl
 obtain⟨a,ns,rfl,hS,hlen,q⟩:=h
 refine⟨_,(ssC (aaN 1 (ak8 oEq (eOp ah7 (eD (abU ZZ) hr (aC (v_ 0) (aC eI aN))) eI) eI) sc_law.nd)
   (ssC (alM (iR2 ZZ.z_range (aC eI (aC (eCB cMax ZZ.z_max PyProof.Rows.boot_max (aC eI (aC (eCB cMin ZZ.z_min PyProof.Rows.boot_min (aC eI (aC (eCB ahQ ZZ.z_len PySem.boot_len (aC (v_ 0) aN)) aN))) aN))) aN))) (gN 2 sc_law.nd) (ssK (aaN 3 (eD (ac3 ZZ) hr (aC (eD (abU ZZ) hr (aC (v_ 0) (aC (v_ 2) aN))) (aC (abF (aE7 [5,10,8,4,3,2])) (aC (v_ 1) aN)))) sc_law.nd)
   (ssC (aaN 4 (eIx xL (abF (aC (eSx [111,102]) (aC (eSx [106,111,105,110]) (aC (eSx [109,101,101,116]) (aC (eSx [108,101,115,115]) (aC (eSx [116,117,114,110]) aN)))))) (eIx xL (v_ 3) eI)) sc_law.nd)
   (ssK (aaN 5 (eSl slL (abF (aC (abO ZZ.c_Of (abJ ZZ) hr aa0 (aC (eD (adM ZZ) hr (aC (eSx [48,32,48,32,42,32,42,32,42]) aN)) aN)) (aC (ac2 ZZ.c_Book ZZ.i_Book) (aC (abO ZZ.c_Turned (aaY ZZ) hr aa0 (aC (ac2 ZZ.c_Book ZZ.i_Book) aN)) aN)))) poN (poS (eOp ahX eI (eIx xL (v_ 3) eI)))) sc_law.nd)
   (ssC (aaN 6 (eCT cLst ZZ.z_list PyProof.Rows.boot_list (aC (v_ 5) aN)) sc_law.nd)
   (ssC (aaN 7 (eD (alF ZZ) hr (aC (eIx xL (v_ 3) eI) aN)) sc_law.nd)
   (ssK (aaN 8 (ac2 ZZ.c_Book ZZ.i_Book) sc_law.nd)
   (ssK (sIf (tW (aO2 (tCm oEq (v_ 4) (eSx [111,102])) (aFB (tCm oEq (eIx xL (v_ 3) eI) eI)))) (ss1 (aaN 7 (ac2 ZZ.c_Book ZZ.i_Book) sc_law.nd)) ssN)
   (ssK (sIf (tW (wOr (tCm oEq (v_ 4) (eSx [106,111,105,110])) (acN (tCm oEq (v_ 4) (eSx [109,101,101,116]))))) (ss1 (aaN 7 (eD (afX ZZ) hr (aC (eIx xL (v_ 3) eI) (aC (eIx xL (v_ 3) eI) (aC (v_ 7) (aC (v_ 5) aN))))) sc_law.nd)) ssN)
   (ssK (sIf (tW (aO2 (tCm oEq (v_ 4) (eSx [108,101,115,115])) (aFB (tCm oEq (eIx xL (v_ 3) eI) eI)))) (ss1 (sPar 7 8 (aC (v_ 8) (aC (v_ 7) aN)) sc_law.nd)) ssN)
   (ssC (sIf (tW (wOr (tNo (tVa (eD (aaK ZZ) hr (aC (v_ 4) (aC (v_ 7) (aC (v_ 8) aN)))))) (acN (tCm (aOB hr.units) (v_ 5) (v_ 6))))) (ss1 (aaH eB)) ssN)
   (ssK (aaN 9 (eOp ahX eI (eCB aOU ZZ.z_sum PyProof.Rows.boot_sum (aC (agR [] [] (iL (v_ 5)) (fun _ _ _ _ _ _=>fsN) (fun _ _ _ _ _ _=>(auT (afN ZZ) hr (v_ 0)))) aN))) sc_law.nd)
   (ss1 (sIf (tW (wOr (tCm oNe (aeZ ZZ.c_Joined.cl (abN ZZ (aa2 ZZ 5)) hr (abO ZZ.c_Joined (aaI ZZ) hr aa0 (aC (v_ 5) aN))) (v_ 9)) (wOr (tCm oNe (aeZ ZZ.c_Met.cl (acB ZZ (aa2 ZZ 5)) hr (abO ZZ.c_Met (aa7 ZZ) hr aa0 (aC (v_ 5) aN))) (v_ 9)) (acN (tCm (aOB hr.units) (v_ 5) (v_ 6)))))) (ss1 (aaH eB)) ssN))))))))))))) PassesOwn.never)
   (ssC (aaN 10 (eD (ac3 ZZ) hr (aC (eOp aC4 (eD (abU ZZ) hr (aC (v_ 0) (aC eI aN))) eI) (aC (abF (aE7 [4,4,4,4,4])) (aC (v_ 1) aN)))) sc_law.nd)
   (ss1 (aaH (amR (eD (aeN ZZ) hr (aC (v_ 10) aN)) (amR (eD0 (aeQ ZZ) hr) (alB (eD0 (ai8 ZZ) hr))))))))),?_⟩
 have hl63:(ns.map V.int).length=ns.length:=List.length_map _
 refine⟨_,rfl,a,_,rfl,⟨ns,hS⟩,⟨by decide,by decide⟩,fun c0=>⟨_,_,rfl,rfl,(by show (0:Int)<2;decide),rfl,?_⟩⟩
 refine (fun bm=>?_:∀bm:Bool,afK 1 (V.bl bm) _ _ _) _
 refine⟨_,rfl,a,_,rfl,.inl hS,_,_,rfl,_,_,rfl,_,_,rfl,?bd,asZ (fun i σ H2=>∃v2 v3 v4 v5 v6 v7 v8 v9 v10:Option V,σ=[some (.ref a),some (.bl bm),v2,v3,v4,v5,v6,v7,v8,v9,v10]/\Same H H2) ⟨_,_,_,_,_,_,_,_,_,rfl,Same.refl _⟩ ?turn ?done⟩
 case bd=>
  rw[hl63]
  split<;>(try split)<;>omega
 case turn=>
  rintro i σ H2 hi ⟨v2,v3,v4,v5,v6,v7,v8,v9,v10,rfl,s2⟩
  have hi':i<40:=by
   rw[hl63] at hi
   split at hi<;>(try split at hi)<;>omega
  refine⟨fun σ' H'=>∃(p:Addr) (d0 d1 d2 d3 d4 d5:Int),σ'=[some (.ref a),some (.bl bm),some (.int (1+(i:Int))),some (.ref p),v4,v5,v6,v7,v8,v9,v10]/\Same H H'/\H' p=some (.lst [.int d0,.int d1,.int d2,.int d3,.int d4,.int d5])/\(0<=d0/\d0<5)/\(0<=d1/\d1<10)/\(0<=d2/\d2<8)/\(0<=d3/\d3<4)/\(0<=d4/\d4<3)/\0<=d5/\d5<2,?_,?_⟩
  ·refine⟨_,rfl,_,rfl,a,_,rfl,⟨ns,s2.seq hS⟩,⟨by omega,by omega⟩,fun c=>⟨(by show 6<=sizeLine;decide),fun ls hls=>⟨_,rfl,c,ls,bm,[5,10,8,4,3,2],rfl,SqL.of aaA,(by decide),(by decide),fun ds p H3 s3 hp hd=>?_⟩⟩⟩
   obtain⟨d0,d1,d2,d3,d4,d5,rfl,b0,b1,b2,b3,b4,b5⟩:=hd.six
   exact⟨p,d0,d1,d2,d3,d4,d5,rfl,s2.trans ((aaB hls _).trans s3),hp,b0,b1,b2,b3,b4,b5⟩
  rintro σ' H3 ⟨p,d0,d1,d2,d3,d4,d5,rfl,s3,hp,b0,b1,b2,b3,b4,b5⟩
  obtain⟨wd,ewd,hwd⟩:=axO b0.1 b0.2
  refine⟨(by show 5<=sizeLine;decide),fun lw hlw=>⟨_,rfl,p,_,_,_,rfl,rfl,SqL.of ((aaB hlw _) _ _ hp),rfl,lw,_,_,_,rfl,rfl,SqL.of aaA,ewd,?_⟩⟩
  have sw:=aaB hlw (.lst [.str (Tx [111,102]),.str (Tx [106,111,105,110]),.str (Tx [109,101,101,116]),.str (Tx [108,101,115,115]),.str (Tx [116,117,114,110])])
  refine⟨fun σ' H'=>∃(so:Addr) (ps:List Addr) (tds:List (Int×Int)) (dp:Int),σ'=[some (.ref a),some (.bl bm),some (.int (1+(i:Int))),some (.ref p),some (.str (Tx wd)),some (.ref so),v6,v7,v8,v9,v10]/\Same H3 H'/\H' so=some (.lst (ps.map V.ref))/\Paired (aaS C_Book C_Of C_Joined C_Met C_Less C_Turned 6 H') (ps.map V.ref) tds/\(1<=ps.length/\ps.length<=3)/\(∀m∈tds.map Prod.snd,m<=5)/\Vd K C_Book C_Of C_Joined C_Met C_Less C_Turned H' (ps.map V.ref) (some (1+(tds.map Prod.fst).sum,dp)),?_,?_⟩
  ·refine⟨[48],[48],[42],[42],[42],_,_,_,none,none,rfl,agC (a:=0) ⟨by decide,by decide,by decide,by decide⟩ (by decide +kernel),agC (a:=0) ⟨by decide,by decide,by decide,by decide⟩ (by decide +kernel),am0 ⟨by decide,by decide,by decide⟩,afS false,afS true,⟨by decide +kernel,by decide +kernel⟩,fun x dx dv wv tm H4 s4 hx _ _=>fun xo dxo no ndo _=>mkO (CB:=C_Book) (CJ:=C_Joined) (CM:=C_Met) (CL:=C_Less) (CT:=C_Turned) ⟨_,ZZ.is_Row.ty ZZ.c_Row.cl hx,ZZ.kr_Row⟩ (fun H5 s5 hbO=>⟨rfl,fun xb db nb ndb _=>fun xc dc nc ndc _=>fun xt dt nt ndt _=>mkT (ahT (mkB xc dc _) ⟨by show (1:Int)<24;decide,by show (1:Int)<5;decide⟩) (fun H6 s6 hbT=>⟨rfl,(by show 3<=sizeLine;decide),fun l hl=>?_⟩) nt ndt⟩) no ndo⟩
   have sb:=aaF (a:=.own xb) (b:=.ins C_Book db []) nb ndb
   have sc:=aaF (a:=.own xc) (b:=.ins C_Book dc []) nc ndc
   have sl:=aaB hl (.lst [V.ref xo,V.ref xb,V.ref xt])
   have sA:=sw.trans (s4.trans (s5.trans (sb.trans (sc.trans (s6.trans sl)))))
   obtain⟨ps,tds,dp,ec,hP,hl3,hdp,hV⟩:=atZ (K:=K) b4.1 b4.2 (aaD (sb.trans (sc.trans (s6.trans sl))) 6 hbO) (aaD (sc.trans (s6.trans sl)) 6 (mkB xb db H5)) (aeF (aaD sl 6 hbT) rfl rfl)
   refine⟨_,rfl,p,_,_,_,rfl,rfl,SqL.of (sA _ _ hp),rfl,_,_,rfl,rfl,_,rfl,l,_,rfl,SqL.of aaA,fun so hso=>?_⟩
   have ss:=aaB hso (.lst (ps.map V.ref))
   rw[ec]
   exact⟨so,ps,tds,dp,rfl,sA.trans ss,aaA,Paired.mapP hP fun _ _ z=>aaD ss 6 z,hl3,hdp,aa5 ss hV⟩
  rintro σ' H4 ⟨so,ps,tds,dp,rfl,s4,hso,hP,hl3,hdp,hV⟩
  replace hp:=s4 _ _ hp
  replace s3:=s3.trans s4
  refine⟨_,rfl,so,_,rfl,.inl (SqL.of hso),fun kp hkp=>?_⟩
  have sk:=aaB hkp (.lst (ps.map V.ref))
  refine⟨_,rfl,p,_,_,_,rfl,rfl,SqL.of (sk _ _ hp),rfl,d1,rfl,b1,fun th H5 s5 iB iR=>?_⟩
  have s45:=sk.trans s5
  refine⟨fun σ' H'=>∃ot:V,σ'=[some (.ref a),some (.bl bm),some (.int (1+(i:Int))),some (.ref p),some (.str (Tx wd)),some (.ref so),some (.ref kp),some th,some ot,v9,v10]/\Same H4 H'/\H' kp=some (.lst (ps.map V.ref))/\aaS C_Book C_Of C_Joined C_Met C_Less C_Turned 6 H' ot (1,1)/\IsB K C_Book H' ot true/\IsB K C_Book H' th false/\(d1≠1->IsB K C_Row H' th false),fun xb db nb ndb _=>⟨.ref xb,rfl,s45.trans (aaF nb ndb),(aaF nb ndb) _ _ (s5 _ _ aaA),mkB xb db H5,aj7 ⟨ZZ.is_Book,ZZ.c_Book.cl,ZZ.kb_Book⟩ ⟨ZZ.is_Of,ZZ.c_Of.cl,ZZ.kb_Of⟩ ⟨ZZ.is_Joined,ZZ.c_Joined.cl,ZZ.kb_Joined⟩ ⟨ZZ.is_Met,ZZ.c_Met.cl,ZZ.kb_Met⟩ ⟨ZZ.is_Less,ZZ.c_Less.cl,ZZ.kb_Less⟩ ⟨ZZ.is_Turned,ZZ.c_Turned.cl,ZZ.kb_Turned⟩ (mkB xb db H5),iB.keep (aaF nb ndb),fun c=>(iR c).keep (aaF nb ndb)⟩,?_⟩
  rintro σ' H6 ⟨ot,rfl,s6,hk6,bO,iO,iB6,iR6⟩
  have hp6:=s6 _ _ hp
  refine⟨fun σ' H'=>∃th':V,σ'=[some (.ref a),some (.bl bm),some (.int (1+(i:Int))),some (.ref p),some (.str (Tx wd)),some (.ref so),some (.ref kp),some th',some ot,v9,v10]/\Same H6 H'/\((wd=[111,102]/\IsB K C_Row H' th' false)∨(wd≠[111,102]/\IsB K C_Book H' th' false)),?_,?_⟩
  ·refine⟨_,rfl,rfl,_,rfl,ifX (fun e=>⟨_,rfl,p,_,_,_,rfl,rfl,SqL.of (hp6),rfl,rfl,_,rfl,ifI (fun c=>?_) (fun c=>⟨th,rfl,Same.refl _,.inl ⟨e,iR6 c⟩⟩)⟩) (fun c=>aaX ⟨th,rfl,Same.refl _,.inr ⟨c,iB6⟩⟩)⟩
   exact fun xb db nb ndb _=>⟨.ref xb,rfl,aaF nb ndb,.inl ⟨e,_,ZZ.is_Book.ty ZZ.c_Book.cl aaA,ZZ.kr_Book⟩⟩
  rintro σ' H7 ⟨th,rfl,s7,h7⟩
  replace iO:=iO.keep s7
  refine⟨fun σ' H'=>∃th':V,σ'=[some (.ref a),some (.bl bm),some (.int (1+(i:Int))),some (.ref p),some (.str (Tx wd)),some (.ref so),some (.ref kp),some th',some ot,v9,v10]/\Same H7 H'/\((wd=[111,102]/\IsB K C_Row H' th' false)∨(wd=[106,111,105,110]/\afV K C_Book C_Of C_Joined C_Met C_Less C_Turned H' th')∨(wd=[109,101,101,116]/\afV K C_Book C_Of C_Joined C_Met C_Less C_Turned H' th')∨((wd=[108,101,115,115]∨wd=[116,117,114,110])/\IsB K C_Book H' th' false)),?_,?_⟩
  ·have bad:wd≠[111,102]->∀{z:V->Hp->Prop},(∀th' H',Same H7 H'->afV K C_Book C_Of C_Joined C_Met C_Less C_Turned H' th'->z th' H')->acM K C_Row C_Book C_Of C_Joined C_Met C_Less C_Turned [.int d2,.int d3,th,.ref so] H7 z E0:=fun c z hz=>⟨d2,d3,th,so,_,tds,rfl,b2,b3,(h7.resolve_left fun e=>c e.1).2,(s6.trans s7) _ _ hso,Paired.mapP hP fun _ _ z=>aaD (s6.trans s7) 6 z,(by rw[List.length_map];exact hl3),hz⟩
   have hp7:=s7 _ _ hp6
   refine⟨_,rfl,rfl,_,rfl,ifX (fun e=>ab0 ⟨_,rfl,p,_,_,_,rfl,rfl,SqL.of (hp7),rfl,_,rfl,p,_,_,_,rfl,rfl,SqL.of (hp7),rfl,_,rfl,_,rfl,bad (by rw[e];decide) fun th' H' s' r'=>⟨th',rfl,s',.inr (.inl ⟨e,r'⟩)⟩⟩) (fun c1=>⟨_,rfl,rfl,_,rfl,ifX (fun e=>⟨_,rfl,p,_,_,_,rfl,rfl,SqL.of (hp7),rfl,_,rfl,p,_,_,_,rfl,rfl,SqL.of (hp7),rfl,_,rfl,_,rfl,bad (by rw[e];decide) fun th' H' s' r'=>⟨th',rfl,s',.inr (.inr (.inl ⟨e,r'⟩))⟩⟩) (fun c2=>⟨th,rfl,Same.refl _,?_⟩)⟩)⟩
   rcases h7 with h7 | h7
   ·exact .inl h7
   ·rcases hwd with e | e | e | e | e
    ·exact absurd e h7.1
    ·exact absurd e c1
    ·exact absurd e c2
    ·exact .inr (.inr (.inr ⟨.inl e,h7.2⟩))
    ·exact .inr (.inr (.inr ⟨.inr e,h7.2⟩))
  rintro σ' H8 ⟨th,rfl,s8,h8⟩
  replace iO:=iO.keep s8
  have hp8:=s8 _ _ (s7 _ _ hp6)
  refine⟨fun σ' H'=>∃th' ot':V,σ'=[some (.ref a),some (.bl bm),some (.int (1+(i:Int))),some (.ref p),some (.str (Tx wd)),some (.ref so),some (.ref kp),some th',some ot',v9,v10]/\Same H8 H'/\Rf K C_Row C_Book C_Of C_Joined C_Met C_Less C_Turned wd H' th' ot',?_,?_⟩
  ·refine⟨_,rfl,rfl,_,rfl,ifX (fun e=>?_) (fun c=>aaX ⟨th,ot,rfl,Same.refl _,?_⟩)⟩
   ·have iB8:IsB K C_Book H8 th false:=by
     rcases h8 with ⟨z,_⟩ | ⟨z,_⟩ | ⟨z,_⟩ | ⟨_,z⟩
     ·rw[e] at z;exact absurd z (by decide)
     ·rw[e] at z;exact absurd z (by decide)
     ·rw[e] at z;exact absurd z (by decide)
     ·exact z
    refine⟨_,rfl,p,_,_,_,rfl,rfl,SqL.of (hp8),rfl,rfl,_,rfl,ifI (fun c=>?_) (fun c=>⟨th,ot,rfl,Same.refl _,.inr (.inr (.inr (.inl ⟨e,atQ iB8 iO (.inl rfl)⟩)))⟩)⟩
    exact⟨_,rfl,_,rfl,ot,th,rfl,ot,th,rfl,Same.refl _,.inr (.inr (.inr (.inl ⟨e,atQ iO iB8 (.inr rfl)⟩)))⟩
   ·rcases h8 with h | h | h | ⟨h | h,z⟩
    ·exact .inl h
    ·exact .inr (.inl h)
    ·exact .inr (.inr (.inl h))
    ·exact absurd h c
    ·exact .inr (.inr (.inr (.inr ⟨h,aDM z⟩)))
  rintro σ' H9 ⟨th,ot,rfl,s9,h9⟩
  have sB:=s6.trans (s7.trans (s8.trans s9))
  have s79:=s7.trans (s8.trans s9)
  refine⟨_,rfl,_,rfl,_,rfl,wd,th,ot,rfl,h9,fun H10 s10=>⟨_,rfl,aaX ⟨_,rfl,_,rfl,so,kp,ps,rfl,rfl,SqL.of ((sB.trans s10) _ _ hso),SqL.of ((s79.trans s10) _ _ hk6),_,rfl,aaX ?_⟩⟩⟩
  have sC:=sB.trans s10
  have hPC:=Paired.mapP hP fun _ _ z=>aaD sC 6 z
  refine⟨fun σ' H'=>σ'=[some (.ref a),some (.bl bm),some (.int (1+(i:Int))),some (.ref p),some (.str (Tx wd)),some (.ref so),some (.ref kp),some th,some ot,some (.int (1+(tds.map Prod.fst).sum)),v10]/\Same H10 H',⟨_,rfl,so,rfl,⟨_,SqL.of (sC _ _ hso)⟩,acI (xs:=ps.map V.ref) (fun i l=>l=((tds.take i).map Prod.fst).map V.int) (by rw[List.length_map,sizeLine_eq];omega) rfl (SqL.of (sC _ _ hso)) (fun j v l D H11 E' F' hv hR hD s11 hz hE hF=>?_) (fun D H11 l hR hD s11 hz=>?_)⟩,?_⟩
  ·subst hR
   obtain⟨td,etd,hb0⟩:=KM.Paired.at hPC hv
   exact⟨v,td,rfl,aaD s11 6 hb0,fun H5 s5=>hE _ _ s5 (by rw[List.take_succ,etd,List.map_append,List.map_append];rfl)⟩
  ·subst hR
   exact⟨D,tds.map Prod.fst,rfl,SqL.of (by rw[hz,Paired.length hPC,List.take_length]),_,_,rfl,rfl,rfl,s11⟩
  rintro σ' H11 ⟨rfl,s11⟩
  have sD:=sC.trans s11
  refine⟨_,rfl,fun xa da na ea _=>mkJ (.inl rfl) (SqL.of (sD _ _ hso)) (by rw[List.length_map];omega) (aa5 sD hV) (fun Ha sa ba ⟨dda,tta,hxa,hta⟩=>⟨rfl,xa,dda,_,rfl,hxa,lk1 (by decide +kernel),xa,dda,tta,rfl,hxa,tta,_,tds,rfl,.inr (SqT.of hta),ahP (Paired.mapP hP fun _ _ z=>aaD sD 6 z) (fun _ b hb z=>(abS (aaD sa 6 z)).2.2 5 (by have:=hdp b.2 (List.mem_map.mpr ⟨b,hb,rfl⟩);show b.2<=5;omega)),(by rw[List.length_map];omega),fun Hc sc=>⟨_,rfl,rfl,_,rfl,ap4 rfl ⟨_,rfl,fun xb db nb eb _=>mkJ (.inr rfl) (SqL.of ((sD.trans (sa.trans sc)) _ _ hso)) (by rw[List.length_map];omega) (aa5 (sD.trans (sa.trans sc)) hV) (fun Hb sb bb ⟨ddb,ttb,hxb,htb⟩=>⟨rfl,xb,ddb,_,rfl,hxb,lk1 (by decide +kernel),xb,ddb,ttb,rfl,hxb,ttb,_,tds,rfl,.inr (SqT.of htb),ahP (Paired.mapP hP fun _ _ z=>aaD (sD.trans (sa.trans sc)) 6 z) (fun _ b hb z=>(abS (aaD sb 6 z)).2.2 5 (by have:=hdp b.2 (List.mem_map.mpr ⟨b,hb,rfl⟩);show b.2<=5;omega)),(by rw[List.length_map];omega),fun Hd sd=>⟨_,rfl,rfl,_,rfl,ap4 rfl ⟨_,rfl,_,rfl,so,kp,ps,rfl,rfl,SqL.of ((sD.trans (sa.trans (sc.trans (sb.trans sd)))) _ _ hso),SqL.of ((s79.trans (s10.trans (s11.trans (sa.trans (sc.trans (sb.trans sd)))))) _ _ hk6),_,rfl,aaX ⟨_,_,_,_,_,_,_,_,_,rfl,s3.trans (sD.trans (sa.trans (sc.trans (sb.trans sd))))⟩⟩⟩⟩) nb eb⟩⟩⟩) na ea⟩
 case done=>
  rintro σ H2 ⟨v2,v3,v4,v5,v6,v7,v8,v9,v10,rfl,s2⟩
  refine⟨_,rfl,a,_,rfl,⟨ns,s2.seq hS⟩,⟨by decide,by decide⟩,fun c=>⟨_,_,rfl,rfl,⟨by decide,by decide⟩,(by show 5<=sizeLine;decide),fun ls hls=>⟨_,rfl,_,ls,bm,[4,4,4,4,4],rfl,SqL.of aaA,(by decide),(by decide),fun ds p H3 s3 hp hd=>?_⟩⟩⟩
  obtain⟨d0,d1,d2,d3,d4,rfl,b0,b1,b2,b3,b4⟩:=hd.five
  exact⟨_,rfl,p,d0,d1,d2,d3,d4,rfl,hp,⟨b0,b1,b2,b3,b4⟩,fun H4 s4=>⟨_,rfl,ab0 ⟨rfl,fun H5 s5=>⟨_,rfl,ab0 ⟨rfl,fun H6 s6=>q _⟩⟩⟩⟩⟩
end
theorem all_mk{l:PySem.W.OpenLaw}{w:World}{K:PySem.W.Frag}{h:Heap}{mg:Str->Option Value}{fa f:Addr}{C_Numbers C_Last C_Near C_Weekdays C_Nth C_LastOne C_LastWork C_Mark C_Row C_Book C_Of C_Joined C_Met C_Less C_Turned C_read_weekday_mark C_read_day_mark C_NoBook C_FieldError C_NoDay C_NoMoment C_NoField C_NoRow C_NoClock C_NoName C_NoWord a_BOUNDS a_BOUNDS_0 a_BOUNDS_1 a_BOUNDS_3:Addr}{t_FIGURES t_MOST_STRIDE t_MOST_SIGNS t_MOST_ITEMS t_MOST_BACK t_MOST_DAY t_SUNDAY_TOO t_SUNDAY t_MOST_NTH t_MOST_MARKS t_ALL_WEEKDAYS t_HOUR_MINUTES t_MINUTE t_HOUR t_DAY t_MONTH t_WEEKDAY t_MOST_ROW_SIGNS t_NO_PLACE t_MOST_TALLY t_MOST_DEPTH t_MOST_BOOKS:Tok}{oc kV dc pm cd ct:Value}{od an:Option Addr}{sl:Array (Option Value)}(X:K.In h)(G:h.Ns mainGlobals mg)(hfa:mg "law"=some (.ref fa))(ZZ:Fs K mg C_Numbers C_Last C_Near C_Weekdays C_Nth C_LastOne C_LastWork C_Mark C_Row C_Book C_Of C_Joined C_Met C_Less C_Turned C_read_weekday_mark C_read_day_mark C_NoBook C_FieldError C_NoDay C_NoMoment C_NoField C_NoRow C_NoClock C_NoName C_NoWord a_BOUNDS a_BOUNDS_0 a_BOUNDS_1 a_BOUNDS_3 t_FIGURES t_MOST_STRIDE t_MOST_SIGNS t_MOST_ITEMS t_MOST_BACK t_MOST_DAY t_SUNDAY_TOO t_SUNDAY t_MOST_NTH t_MOST_MARKS t_ALL_WEEKDAYS t_HOUR_MINUTES t_MINUTE t_HOUR t_DAY t_MONTH t_WEEKDAY t_MOST_ROW_SIGNS t_NO_PLACE t_MOST_TALLY t_MOST_DEPTH t_MOST_BOOKS)
  (a:PySem.W.nsIn K mainGlobals "law"=some (some (.ref f))) (lk:K.lookup f=some ⟨oc,od,.func (PySem.W.fnOf "law" "law" (aa9 ajK) (aaT ajK) (aaC ajK) .none kV dc pm an cd ct),sl⟩) (c:PySem.W.codeIn K cd "law"=true) (k:PySem.W.keepIn K (.ref f)=true):
  ∃fd:FuncData,(∀(s:Shared) (v:Value),BindsTo s fd ⟨[v],[]⟩ [("_law_script",v)])/\∀base:Heap,K.In base->base.Ns mainGlobals mg->FnOk l.prog w K mg base CX0 23 fa fd ["_law_script"] (sp_law K):=by
 cases hfa.symm.trans (PySem.W.mg_of X G a)
 exact⟨_,fun s v=>.of_eq rfl,fun base _ _=>aL1 ZZ (amY (st:=ajK) lk c k)⟩
theorem walk{l:PySem.W.OpenLaw}{q:Program}{loose:List Str}{XP:(Str->Option Value)->Heap->Prop}{YP:World->Heap->Prop}{d:DefRec}{K:Params->PySem.W.Frag}(hn:l.most=some 63)(hdf:d.params.defaults=[])
  (hY:∀(w:World) (h:Heap),YP w h->(K w.params).In h)
  (F:∀(w:World) (mg:Str->Option Value) (fa:Addr) (h:Heap),(K w.params).In h->h.Ns mainGlobals mg->mg d.name=some (.ref fa)->
   ∃fd:FuncData,(∀(s:Shared) (u:Value),BindsTo s fd ⟨[u],[]⟩ [("_law_script",u)])/\∀base:Heap,(K w.params).In base->base.Ns mainGlobals mg->FnOk l.prog w (K w.params) mg base CX0 23 fa fd ["_law_script"] (sp_law (K w.params))):
  PySem.W.WalkO q loose XP YP l.row.toRowW d [] (fun f vs=>PySem.call f vs):=
 L2.walk_of (n:=63) (k:=23) (x:="_law_script") (CX:=fun _=>CX0) (sp:=fun w=>sp_law (K w.params)) hn (by decide) hdf ⟨rfl,by decide,by decide⟩ hY F (fun _ _ a ns hl _ hS=>⟨a,ns,rfl,hS,hl,fun _=>rfl⟩) fun _ _ _ _ _ z=>z
end K62
open PySem PySem.W PyProof.Rows
local macro_rules
  | `(tactic| o_head $H) => `(tactic| (
      refine holds_open (q := Hd.seenBy) (loose := Hd.free) (N := 18930)
        (Xt := Hd.XT)
        (XP := XL Hd.seenBy Hd.read)
        (Yf := Hook.obs $H) (Ya := Hook.val $H) (YP := Hook.says $H)
        ?hl (Hook.of $H) (Hook.keeps $H)
        (fun z y => xl_of z (Bool.and_eq_true_iff.mp y).1) XL.keeps
        (by rfl) (by rfl) (by rfl)
        (fun z y => recFacts_of (Bool.and_eq_true_iff.mp y).2)
        (by rfl) (by first | assumption | decide +kernel) (by decide +kernel)
        ⟨rfl,rfl,rfl,rfl,rfl,by decide +kernel⟩ ?hw ?hc
      (case hl =>
        refine LeftO.of_pieces Hd.opn Hd.siz Hd.run rfl ?_
        intro w
        funext os
        refine looks_pair (Hd.lk0 w os) (looks_pair (Hd.look w os) ?_)
        refine Eq.trans (b := ((Hd.d0.heap_1 w.params).map fun p => p.1).map (Hd.sF w os).heap.get?) ?_ (Eq.trans (Hd.kk w os) ?_)
        all_goals (as_aux_lemma => kernel_rfl))))
open PySem PySem.W PyProof.Rows L2
set_option maxRecDepth 100000 in
set_option maxHeartbeats 0 in
theorem PySem.Challenge.cw_fivefields_k62_books_refused_holds : PySem.Challenge.rw_fivefields_k62_books_refused.Holds := by
 w_on;o_law;k_head;(case hw=>w_witness2)
 k_fill
 refine K62.walk (l:=PySem.Challenge.rw_fivefields_k62_books_refused) rfl rfl (fun w h Y=>PySem.W.kIn_of Y) ?F
 case F=>
  intro w mg fa h KX G hmg
  refine' K62.all_mk KX G hmg ⟨
   ⟨PySem.W.mg_of KX G ?_,⟨?_,?_,?_,?_⟩,?_,?_⟩,
   ?_,
   ⟨PySem.W.mg_of KX G ?_,⟨?_,?_,?_,?_⟩,?_,?_⟩,
   ?_,
   ⟨PySem.W.mg_of KX G ?_,⟨?_,?_,?_,?_⟩,?_,?_⟩,
   ?_,
   ⟨PySem.W.mg_of KX G ?_,⟨?_,?_,?_,?_⟩,?_,?_⟩,
   ?_,
   ⟨PySem.W.mg_of KX G ?_,⟨?_,?_,?_,?_⟩,?_,?_⟩,
   ?_,
   ?_,
   ⟨PySem.W.mg_of KX G ?_,⟨?_,?_,?_,?_⟩,?_,?_⟩,
   ?_,
   ⟨PySem.W.mg_of KX G ?_,⟨?_,?_,?_,?_⟩,?_,?_⟩,
   ?_,
   ⟨PySem.W.mg_of KX G ?_,⟨?_,?_,?_,?_⟩,?_,?_⟩,
   ?_,
   ⟨PySem.W.mg_of KX G ?_,⟨?_,?_,?_,?_⟩,?_,?_⟩,
   ?_,
   ?_,
   ?_,
   ?_,
   ?_,
   ?_,
   ⟨PySem.W.mg_of KX G ?_,⟨?_,?_,?_,?_⟩,?_,?_⟩,
   ?_,
   ⟨PySem.W.mg_of KX G ?_,⟨?_,?_,?_,?_⟩,?_,?_⟩,
   ?_,
   ⟨PySem.W.mg_of KX G ?_,⟨?_,?_,?_,?_⟩,?_,?_⟩,
   ?_,
   ⟨PySem.W.mg_of KX G ?_,⟨?_,?_,?_,?_⟩,?_,?_⟩,
   ?_,
   ⟨PySem.W.mg_of KX G ?_,⟨?_,?_,?_,?_⟩,?_,?_⟩,
   ?_,
   ?_,
   ⟨PySem.W.mg_of KX G ?_,⟨?_,?_,?_,?_⟩,?_,?_⟩,
   ?_,
   PySem.W.mg_of KX G ?_,
   PySem.W.mg_of KX G ?_,
   PySem.W.mg_of KX G ?_,
   PySem.W.mg_of KX G ?_,
   PySem.W.mg_of KX G ?_,
   PySem.W.mg_of KX G ?_,
   PySem.W.mg_of KX G ?_,
   PySem.W.mg_of KX G ?_,
   PySem.W.mg_of KX G ?_,
   PySem.W.mg_of KX G ?_,
   PySem.W.mg_of KX G ?_,
   ⟨PySem.W.mg_of KX G ?_,?_,?qx_NoBook⟩,
   ⟨?_,?_,?_,?_⟩,
   ⟨?_,?_,?_,?_⟩,
   ⟨?_,?_,?_,?_⟩,
   ⟨?_,?_,?_,?_⟩,
   ⟨?_,?_,?_,?_⟩,
   ⟨?_,?_,?_,?_⟩,
   ?rkb_Book,
   ?rkb_Of,
   ?rkb_Joined,
   ?rkb_Met,
   ?rkb_Less,
   ?rkb_Turned,
   ?_,
   ⟨?f0_NoBook,?_,?_,?_,?_,?_,?_,?_⟩,
   ?rk_NoBook_FieldError,
   ?ri_NoBook,
   ?rv_NoBook,
   ?rt_NoBook,
   ⟨?_,?_,?_,?_⟩,
   ?rkr_Row,
   ?rkb_Row,
   ?rkr_Book,
   ?rkb_NoneType,
   ?rkb_bool,
   ?rkb_int,
   ?rkb_str,
   ?rkb_list,
   ?rkb_tuple,
   ?rkb_dict,
   ?rkr_NoneType,
   ?rkr_bool,
   ?rkr_int,
   ?rkr_str,
   ?rkr_list,
   ?rkr_tuple,
   ?rkr_dict,
   K62.mg_tx (x:="0123456789") KX G (by decide +kernel) ?_,
   PySem.W.mg_of KX G ?_,
   PySem.W.mg_of KX G ?_,
   PySem.W.mg_of KX G ?_,
   PySem.W.mg_of KX G ?_,
   PySem.W.mg_of KX G ?_,
   PySem.W.mg_of KX G ?_,
   PySem.W.mg_of KX G ?_,
   PySem.W.mg_of KX G ?_,
   PySem.W.mg_of KX G ?_,
   PySem.W.mg_of KX G ?_,
   PySem.W.mg_of KX G ?_,
   PySem.W.mg_of KX G ?_,
   PySem.W.mg_of KX G ?_,
   PySem.W.mg_of KX G ?_,
   PySem.W.mg_of KX G ?_,
   PySem.W.mg_of KX G ?_,
   PySem.W.mg_of KX G ?_,
   K62.q_BOUNDS ?_,
   K62.q_BOUNDS_0 ?_,
   K62.q_BOUNDS_1 ?_,
   K62.q_BOUNDS_3 ?_,
   PySem.W.mg_of KX G ?_,
   PySem.W.mg_of KX G ?_,
   PySem.W.mg_of KX G ?_,
   PySem.W.mg_of KX G ?_,
   PySem.W.mg_of KX G ?_,
   PySem.W.mg_none_of KX G ?_,
   PySem.W.mg_none_of KX G ?_,
   PySem.W.mg_none_of KX G ?_,
   PySem.W.mg_none_of KX G ?_,
   PySem.W.mg_none_of KX G ?_,
   PySem.W.mg_none_of KX G ?_,
   PySem.W.mg_none_of KX G ?_,
   PySem.W.mg_none_of KX G ?_,
   PySem.W.mg_none_of KX G ?_,
   PySem.W.mg_none_of KX G ?_,
   PySem.W.mg_none_of KX G ?_,
   PySem.W.mg_none_of KX G ?_,
   PySem.W.mg_none_of KX G ?_,
   PySem.W.mg_none_of KX G ?_,
   aaR KX G ?_ ?_ ?_ ?_ fun _ _ _ _ _ _ us hl=>by obtain⟨_,rfl⟩:=abG hl;rfl,
   aaR KX G ?_ ?_ ?_ ?_ fun _ _ _ _ _ _ us hl=>by obtain⟨_,rfl⟩:=abG hl;rfl,
   aaR KX G ?_ ?_ ?_ ?_ fun _ _ _ _ _ _ us hl=>by obtain⟨_,_,rfl⟩:=ad3 hl;rfl,
   aaR KX G ?_ ?_ ?_ ?_ fun _ _ _ _ _ _ us hl=>by obtain⟨_,rfl⟩:=abG hl;rfl,
   aaR KX G ?_ ?_ ?_ ?_ fun _ _ _ _ _ _ us hl=>by obtain⟨_,rfl⟩:=abG hl;rfl,
   aaR KX G ?_ ?_ ?_ ?_ fun _ _ _ _ _ _ us hl=>by obtain⟨_,_,_,rfl⟩:=ahG hl;rfl,
   aaR KX G ?_ ?_ ?_ ?_ fun _ _ _ _ _ _ us hl=>by obtain⟨_,_,_,rfl⟩:=ahG hl;rfl,
   aaR KX G ?_ ?_ ?_ ?_ fun _ _ _ _ _ _ us hl=>by obtain⟨_,_,_,rfl⟩:=ahG hl;rfl,
   aaR KX G ?_ ?_ ?_ ?_ fun _ _ _ _ _ _ us hl=>by obtain⟨_,_,_,_,rfl⟩:=aIU hl;rfl,
   aaR KX G ?_ ?_ ?_ ?_ fun _ _ _ _ _ _ us hl=>by obtain⟨_,_,_,rfl⟩:=ahG hl;rfl,
   aaR KX G ?_ ?_ ?_ ?_ fun _ _ _ _ _ _ us hl=>by obtain⟨_,_,_,rfl⟩:=ahG hl;rfl,
   aaZ ?_ ?_ ?_ ?_ ?_ fun _ _ _ _ _ _ us hl=>by obtain⟨_,_,rfl⟩:=ad3 hl;rfl,
   K62.md_Last___init__ ?_ ?_ ?_ ?_ ?_ ?_,
   aaZ ?_ ?_ ?_ ?_ ?_ fun _ _ _ _ _ _ us hl=>by obtain⟨_,_,rfl⟩:=ad3 hl;rfl,
   aaZ ?_ ?_ ?_ ?_ ?_ fun _ _ _ _ _ _ us hl=>by obtain⟨_,_,rfl⟩:=ad3 hl;rfl,
   aaZ ?_ ?_ ?_ ?_ ?_ fun _ _ _ _ _ _ us hl=>by obtain⟨_,_,_,rfl⟩:=ahG hl;rfl,
   aaZ ?_ ?_ ?_ ?_ ?_ fun _ _ _ _ _ _ us hl=>by obtain⟨_,_,rfl⟩:=ad3 hl;rfl,
   aaR KX G ?_ ?_ ?_ ?_ fun _ _ _ _ _ _ us hl=>by obtain⟨_,rfl⟩:=abG hl;rfl,
   aaR KX G ?_ ?_ ?_ ?_ fun _ _ _ _ _ _ us hl=>by obtain⟨_,rfl⟩:=abG hl;rfl,
   aaR KX G ?_ ?_ ?_ ?_ fun _ _ _ _ _ _ us hl=>by obtain⟨_,rfl⟩:=abG hl;rfl,
   aaR KX G ?_ ?_ ?_ ?_ fun _ _ _ _ _ _ us hl=>by obtain⟨_,_,_,_,rfl⟩:=aIU hl;rfl,
   aaR KX G ?_ ?_ ?_ ?_ fun _ _ _ _ _ _ us hl=>by obtain⟨_,rfl⟩:=abG hl;rfl,
   aaR KX G ?_ ?_ ?_ ?_ fun _ _ _ _ _ _ us hl=>by obtain⟨_,rfl⟩:=abG hl;rfl,
   aaR KX G ?_ ?_ ?_ ?_ fun _ _ _ _ _ _ us hl=>by obtain⟨_,_,rfl⟩:=ad3 hl;rfl,
   aaZ ?_ ?_ ?_ ?_ ?_ fun _ _ _ _ _ _ us hl=>by obtain⟨_,_,rfl⟩:=ad3 hl;rfl,
   aaR KX G ?_ ?_ ?_ ?_ fun _ _ _ _ _ _ us hl=>by obtain⟨_,_,rfl⟩:=ad3 hl;rfl,
   aaR KX G ?_ ?_ ?_ ?_ fun _ _ _ _ _ _ us hl=>by obtain⟨_,_,rfl⟩:=ad3 hl;rfl,
   aaR KX G ?_ ?_ ?_ ?_ fun _ _ _ _ _ _ us hl=>by obtain⟨_,rfl⟩:=abG hl;rfl,
   aaZ ?_ ?_ ?_ ?_ ?_ fun _ _ _ _ _ _ us hl=>by obtain⟨_,rfl⟩:=abG hl;rfl,
   aaZ ?_ ?_ ?_ ?_ ?_ fun _ _ _ _ _ _ us hl=>by obtain⟨_,rfl⟩:=abG hl;rfl,
   aaZ ?_ ?_ ?_ ?_ ?_ fun _ _ _ _ _ _ us hl=>by obtain⟨_,rfl⟩:=abG hl;rfl,
   aaZ ?_ ?_ ?_ ?_ ?_ fun _ _ _ _ _ _ us hl=>by obtain⟨_,rfl⟩:=abG hl;rfl,
   aaZ ?_ ?_ ?_ ?_ ?_ fun _ _ _ _ _ _ us hl=>by obtain⟨_,rfl⟩:=abG hl;rfl,
   aaZ ?_ ?_ ?_ ?_ ?_ fun _ _ _ _ _ _ us hl=>by obtain⟨_,rfl⟩:=abG hl;rfl,
   aaZ ?_ ?_ ?_ ?_ ?_ fun _ _ _ _ _ _ us hl=>by obtain⟨_,rfl⟩:=abG hl;rfl,
   aaZ ?_ ?_ ?_ ?_ ?_ fun _ _ _ _ _ _ us hl=>by obtain⟨_,rfl⟩:=abG hl;rfl,
   aaZ ?_ ?_ ?_ ?_ ?_ fun _ _ _ _ _ _ us hl=>by obtain⟨_,rfl⟩:=abG hl;rfl,
   aaZ ?_ ?_ ?_ ?_ ?_ fun _ _ _ _ _ _ us hl=>by obtain⟨_,rfl⟩:=abG hl;rfl,
   aaZ ?_ ?_ ?_ ?_ ?_ fun _ _ _ _ _ _ us hl=>by obtain⟨_,rfl⟩:=abG hl;rfl,
   aaZ ?_ ?_ ?_ ?_ ?_ fun _ _ _ _ _ _ us hl=>by obtain⟨_,rfl⟩:=abG hl;rfl,
   aaR KX G ?_ ?_ ?_ ?_ fun _ _ _ _ _ _ us hl=>by obtain⟨_,rfl⟩:=abG hl;rfl,
   aaR KX G ?_ ?_ ?_ ?_ fun _ _ _ _ _ _ us hl=>by obtain⟨_,rfl⟩:=abG hl;rfl,
   aaR KX G ?_ ?_ ?_ ?_ fun _ _ _ _ _ _ us hl=>by obtain⟨_,rfl⟩:=abG hl;rfl,
   aaR KX G ?_ ?_ ?_ ?_ fun _ _ _ _ _ _ us hl=>by obtain⟨_,rfl⟩:=abG hl;rfl,
   aaZ ?_ ?_ ?_ ?_ ?_ fun _ _ _ _ _ _ us hl=>by obtain⟨_,_,rfl⟩:=ad3 hl;rfl,
   aaZ ?_ ?_ ?_ ?_ ?_ fun _ _ _ _ _ _ us hl=>by obtain⟨_,_,rfl⟩:=ad3 hl;rfl,
   aaZ ?_ ?_ ?_ ?_ ?_ fun _ _ _ _ _ _ us hl=>by obtain⟨_,_,rfl⟩:=ad3 hl;rfl,
   aaZ ?_ ?_ ?_ ?_ ?_ fun _ _ _ _ _ _ us hl=>by obtain⟨_,_,_,rfl⟩:=ahG hl;rfl,
   aaZ ?_ ?_ ?_ ?_ ?_ fun _ _ _ _ _ _ us hl=>by obtain⟨_,_,rfl⟩:=ad3 hl;rfl,
   aaR KX G ?_ ?_ ?_ ?_ fun _ _ _ _ _ _ us hl=>by obtain⟨_,_,rfl⟩:=ad3 hl;rfl,
   aaR KX G ?_ ?_ ?_ ?_ fun _ _ _ _ _ _ us hl=>by obtain⟨_,rfl⟩:=abG hl;rfl,
   aaR KX G ?_ ?_ ?_ ?_ fun _ _ _ _ _ _ us hl=>by obtain⟨_,_,_,rfl⟩:=ahG hl;rfl,
   aaR KX G ?_ ?_ ?_ ?_ fun _ _ _ _ _ _ us hl=>by obtain⟨_,_,_,rfl⟩:=ahG hl;rfl,
   aaR KX G ?_ ?_ ?_ ?_ fun _ _ _ _ _ _ us hl=>by obtain⟨_,_,_,rfl⟩:=ahG hl;rfl,
   aaR KX G ?_ ?_ ?_ ?_ fun _ _ _ _ _ _ us hl=>by obtain⟨_,rfl⟩:=abG hl;rfl,
   aaR KX G ?_ ?_ ?_ ?_ fun _ _ _ _ _ _ us hl=>by obtain⟨_,_,_,_,rfl⟩:=aIU hl;rfl,
   aaR KX G ?_ ?_ ?_ ?_ fun _ _ _ _ _ _ us hl=>by obtain⟨_,_,rfl⟩:=ad3 hl;rfl,
   aaR KX G ?_ ?_ ?_ ?_ fun _ _ _ _ _ _ us hl=>by obtain⟨_,rfl⟩:=abG hl;rfl,
   aaR KX G ?_ ?_ ?_ ?_ fun _ _ _ _ _ _ us hl=>by obtain⟨_,_,_,rfl⟩:=ahG hl;rfl,
   aaR KX G ?_ ?_ ?_ ?_ fun _ _ _ _ _ _ us hl=>by obtain⟨_,rfl⟩:=abG hl;rfl,
   aaR KX G ?_ ?_ ?_ ?_ fun _ _ _ _ _ _ us hl=>by obtain⟨rfl⟩:=aOH hl;rfl,
   aaR KX G ?_ ?_ ?_ ?_ fun _ _ _ _ _ _ us hl=>by obtain⟨rfl⟩:=aOH hl;rfl⟩ ?_ ?_ ?_ ?_
  (case qx_NoBook=>kernel_rfl)
  (case rkb_Book=>kernel_rfl)
  (case rkb_Of=>kernel_rfl)
  (case rkb_Joined=>kernel_rfl)
  (case rkb_Met=>kernel_rfl)
  (case rkb_Less=>kernel_rfl)
  (case rkb_Turned=>kernel_rfl)
  (case f0_NoBook=>kernel_rfl)
  (case rk_NoBook_FieldError=>kernel_rfl)
  (case ri_NoBook=>kernel_rfl)
  (case rv_NoBook=>kernel_rfl)
  (case rt_NoBook=>kernel_rfl)
  (case rkr_Row=>kernel_rfl)
  (case rkb_Row=>kernel_rfl)
  (case rkr_Book=>kernel_rfl)
  (case rkb_NoneType=>kernel_rfl)
  (case rkb_bool=>kernel_rfl)
  (case rkb_int=>kernel_rfl)
  (case rkb_str=>kernel_rfl)
  (case rkb_list=>kernel_rfl)
  (case rkb_tuple=>kernel_rfl)
  (case rkb_dict=>kernel_rfl)
  (case rkr_NoneType=>kernel_rfl)
  (case rkr_bool=>kernel_rfl)
  (case rkr_int=>kernel_rfl)
  (case rkr_str=>kernel_rfl)
  (case rkr_list=>kernel_rfl)
  (case rkr_tuple=>kernel_rfl)
  (case rkr_dict=>kernel_rfl)
  all_goals try (as_aux_lemma=>k_is)
