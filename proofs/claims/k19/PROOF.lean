import PyProof.Rows.All
import Wide.All
import OpenK.AllK
import Wide.FinOn
import Lean
import PyProof.EqAt
import PyProof.EqKinds
import PyProof.TupleCall
import PySem.Challenge.RW_fivefields_k19_refusals_apart
set_option maxHeartbeats 4000000
set_option compiler.extract_closed false
namespace Hd
open PySem PySem.W PySem.Calls PyProof.Rows
section
set_option maxHeartbeats 0
set_option maxRecDepth 100000
set_option linter.all false
noncomputable section
noncomputable abbrev pw:Program:=PySem.Challenge.pw_fivefields_k19_refusals_apart
noncomputable abbrev bi:List Stmt:=behindTheImports pw
noncomputable def nth:List Stmt->Nat->Stmt
 |s::_,0=>s
 |_::r,n+1=>nth r n
 |[],_=>.Pass default
noncomputable def tp(i:Nat):Stmt:=nth pw.main.body i
noncomputable def bd:Stmt->List Stmt
 |.FunctionDef _ _ b _ _ _ _ _ _ _=>b
 |.ClassDef _ _ _ b _ _ _ _ _ _ _=>b
 |_=>[]
noncomputable def ag:Stmt->Arguments
 |.FunctionDef _ a _ _ _ _ _ _ _ _=>a
 |_=>⟨[],[],none,[],[],none,[]⟩
noncomputable def sc:Stmt->Scope
 |.FunctionDef _ _ _ _ _ _ s _ _ _=>s
 |.ClassDef _ _ _ _ _ _ s _ _ _ _=>s
 |_=>pw.main.scope
noncomputable def r(a:Addr):Value:=.ref a
noncomputable def i(n:Int):Value:=.int n 0
noncomputable def de(P:Params)(k:Str)(t:Tok)(v:Value):DictEntry:=⟨PyData.keyHash P k,.str k t,v⟩
noncomputable def tu(l:List Value):Obj:=⟨.type "tuple",none,.seq l.toArray 0,#[]⟩
noncomputable def di(l:List DictEntry)(n:Nat):Obj:=⟨.type "dict",none,.dict l.toArray n,#[]⟩
noncomputable def co(l:List Value):Obj:=⟨.type "code",none,.fields l.toArray,#[]⟩
noncomputable def fd(l:List Value):Obj:=⟨.none,none,.fields l.toArray,#[]⟩
noncomputable def lf(x:Obj):BT:=.node x .nil .nil
noncomputable abbrev nd:Obj->BT->BT->BT:=BT.node
noncomputable def sf(t:Tok):Value:=.str "/claim/cut.py" t
noncomputable def fz(n q:Str)(s:Stmt):Obj:=⟨.none,none,.func ⟨n,q,ag s,.stmts (bd s),sc s,0,[],.none,.none,.none,.none,none,.none,.none,0⟩,#[]⟩
noncomputable def fn(n q:Str)(s:Stmt)(g:Addr)(c:List (Str×Addr))(d k o m:Value)(a:Option Addr)(x y:Value)(b:Addr):Obj:=⟨.type "function",none,.func ⟨n,q,ag s,.stmts (bd s),sc s,g,c,d,k,o,m,a,x,y,b⟩,#[]⟩
noncomputable def ib(s:Stmt)(i:Nat):Stmt:=nth (bd s) i
noncomputable def ev:Env:={scope:=pw.main.scope,locals:=mainNs,globals:=mainNs,cells:=[],code:=(r 13),frame:=some 14}
noncomputable def cd:Code:=.body bi ev
noncomputable abbrev an:Option Value:=(some (r 6))
noncomputable abbrev bk:List Frame:=[topFrame ⟨0,0,0,0⟩]
def o0:Obj:=tu []
def o1:Obj:=fd []
def o2:Obj:=co [(.str "<module>" 182),(.str "<module>" 183),(sf 184),(i 1),(i 0),(i 0),(i 0),(i 0),(r 11),(.bool false),(i 181),(r 12),.none,.none,.none,.none,(i 185),(i 1),(sf 186)]
def o3:Obj:=⟨(.type "frame"),none,.plain,#[(some (r 13)),(some (r 3)),(some (r 3)),none,(some (.str "__main__" 164)),none,(some (r 0))]⟩
def hA(P:Params):Heap:=⟨⟨[(boot_o_0 P),(boot_o_1 P),(boot_o_2 P),(boot_o_3 P),(boot_o_4 P),(boot_o_5 P),(boot_o_6 P),(boot_o_7 P),(boot_o_8 P),(boot_o_9 P),(boot_o_10 P),o0,o1,o2,o3]⟩,⟨[],[],[],0,[],[],false,#[],[],0,false,false,false,0,[2000,10,10],false,0,true,[],[],0,false⟩⟩
def sA(w:World)(os:OsState):Shared:=⟨hA w.params,#[],⟨0,0,0,0⟩,187,os⟩
theorem pre(w:World)(os:OsState):
  topGo treeTable pw w 11 an 12 ⟨boot_heap w.params,⟨[]⟩,boot_drawn,boot_toks,os⟩ (topStub pw) =
  some (sA w os,⟨denote treeTable cd,cd,⟨0,0,0,0⟩,bk⟩):=by kernel_rfl
def t0(P:Params):BT:=(nd (boot_o_0 P) (nd (boot_o_1 P) (nd (boot_o_3 P) (lf (boot_o_7 P)) (lf o0)) (nd (boot_o_5 P) (lf (boot_o_9 P)) (lf o2))) (nd (boot_o_2 P) (nd (boot_o_4 P) (lf (boot_o_8 P)) (lf o1)) (nd (boot_o_6 P) (lf (boot_o_10 P)) (lf o3))))
def s0(w:World)(os:OsState):SharedT:=⟨t0 w.params,15,⟨[],[],[],0,[],[],false,#[],[],0,false,false,false,0,[2000,10,10],false,0,true,[],[],0,false⟩,#[],⟨0,0,0,0⟩,187,os⟩
theorem blk(w:World)(os:OsState):
  segRun treeTable pw w 11 an 1 1 (sA w os) (blockOf bi ev cd ⟨0,0,0,0⟩ bk) =
  some (.next,(s0 w os).abs,cd,⟨0,0,0,0⟩):=by kernel_rfl
def o4(P:Params):Obj:=di [(de P "__name__" 165 (.str "fivefields.errors" 187)),(de P "__doc__" 166 .none),(de P "__package__" 167 .none),(de P "__loader__" 168 (.builtin "__main__.__loader__#opaque")),(de P "__spec__" 169 .none),(de P "__annotations__" 170 (r 6)),(de P "__builtins__" 171 (r 4)),(de P "__file__" 173 (sf 172)),(de P "__cached__" 174 .none),(de P "FieldError" 206 (r 24)),(de P "NoDay" 222 (r 37)),(de P "NoMoment" 238 (r 49)),(de P "NoField" 263 (r 68)),(de P "NoRow" 288 (r 87)),(de P "NoBook" 304 (r 99)),(de P "NoClock" 320 (r 111)),(de P "NoName" 345 (r 130)),(de P "NoWord" 361 (r 142))] 18
def o5:Obj:=fd [(i 2),(i 0),(r 20),(i 4),(i 0),(r 33),(i 6),(i 0),(r 45),(i 8),(i 0),(r 57),(i 12),(i 0),(r 76),(i 16),(i 0),(r 95),(i 18),(i 0),(r 107),(i 20),(i 0),(r 119),(i 24),(i 0),(r 138)]
def o6:Obj:=tu [(.type "ValueError")]
def o7:Obj:=⟨(.type "builtin_function_or_method"),none,(.fields #[(.builtin "type.__prepare__"),(.type "type")]),#[]⟩
def o8(P:Params):Obj:=di [(de P "__module__" 196 (.str "fivefields.errors" 187)),(de P "__qualname__" 198 (.str "FieldError" 197)),(de P "__firstlineno__" 200 (.int 2 199)),(de P "__static_attributes__" 201 (r 22))] 4
def o9:Obj:=co [(.str "FieldError" 191),(.str "FieldError" 192),(sf 193),(i 2),(i 0),(i 0),(i 0),(i 0),(r 18),(.bool false),(i 181),(r 19),.none,.none,.none,.none,(i 194),(i 2),(sf 195)]
def o10:Obj:=⟨(.type "frame"),none,.plain,#[(some (r 20)),(some (r 3)),(some (r 17)),none,(some (.str "fivefields.errors" 187)),none,(some (r 0))]⟩
def o11(P:Params):Obj:=di [(de P "__module__" 196 (.str "fivefields.errors" 187)),(de P "__firstlineno__" 200 (.int 2 199)),(de P "__static_attributes__" 201 (r 22)),(de P "__weakref__" 203 (r 25)),(de P "__doc__" 204 .none)] 3
def o12:Obj:=⟨(.type "type"),none,(.cls ⟨"FieldError",[(.type "ValueError")],[(r 24),(.type "ValueError"),(.type "Exception"),(.type "BaseException"),(.type "object")],23,"FieldError",true,[],[(r 37),(r 49),(r 68),(r 87),(r 99),(r 111),(r 130),(r 142)],false,none,false⟩),#[(some (r 15)),none,(some (.str "FieldError" 189)),(some (.str "FieldError" 197)),(some (.builtin "ValueError.__new__")),(some (.bool true))]⟩
def o13:Obj:=⟨(.type "getset_descriptor"),none,(.fields #[(.str "__weakref__" 202),(r 24),(.builtin "ExceptionGroup.__weakref__"),.none]),#[]⟩
def o14:Obj:=⟨(.type "super"),none,(.fields #[(r 24),(r 24),(r 24)]),#[]⟩
def o15:Obj:=⟨(.type "builtin_function_or_method"),none,(.fields #[(.builtin "object.__init_subclass__"),(r 24)]),#[]⟩
def o16:Obj:=tu [(r 24)]
def o17(P:Params):Obj:=di [(de P "__module__" 214 (.str "fivefields.errors" 187)),(de P "__qualname__" 216 (.str "NoDay" 215)),(de P "__firstlineno__" 218 (.int 4 217)),(de P "__static_attributes__" 219 (r 35))] 4
def o18:Obj:=co [(.str "NoDay" 209),(.str "NoDay" 210),(sf 211),(i 4),(i 0),(i 0),(i 0),(i 0),(r 31),(.bool false),(i 181),(r 32),.none,.none,.none,.none,(i 212),(i 4),(sf 213)]
def o19:Obj:=⟨(.type "frame"),none,.plain,#[(some (r 33)),(some (r 3)),(some (r 30)),none,(some (.str "fivefields.errors" 187)),none,(some (r 0))]⟩
def o20(P:Params):Obj:=di [(de P "__module__" 214 (.str "fivefields.errors" 187)),(de P "__firstlineno__" 218 (.int 4 217)),(de P "__static_attributes__" 219 (r 35)),(de P "__doc__" 220 .none)] 2
def o21:Obj:=⟨(.type "type"),none,(.cls ⟨"NoDay",[(r 24)],[(r 37),(r 24),(.type "ValueError"),(.type "Exception"),(.type "BaseException"),(.type "object")],36,"NoDay",true,[],[],false,none,false⟩),#[(some (r 28)),none,(some (.str "NoDay" 207)),(some (.str "NoDay" 215)),(some (.builtin "ValueError.__new__")),(some (.bool true))]⟩
def o22:Obj:=⟨(.type "super"),none,(.fields #[(r 37),(r 37),(r 37)]),#[]⟩
def o23:Obj:=⟨(.type "builtin_function_or_method"),none,(.fields #[(.builtin "object.__init_subclass__"),(r 37)]),#[]⟩
def o24(P:Params):Obj:=di [(de P "__module__" 230 (.str "fivefields.errors" 187)),(de P "__qualname__" 232 (.str "NoMoment" 231)),(de P "__firstlineno__" 234 (.int 6 233)),(de P "__static_attributes__" 235 (r 47))] 4
def o25:Obj:=co [(.str "NoMoment" 225),(.str "NoMoment" 226),(sf 227),(i 6),(i 0),(i 0),(i 0),(i 0),(r 43),(.bool false),(i 181),(r 44),.none,.none,.none,.none,(i 228),(i 6),(sf 229)]
def o26:Obj:=⟨(.type "frame"),none,.plain,#[(some (r 45)),(some (r 3)),(some (r 42)),none,(some (.str "fivefields.errors" 187)),none,(some (r 0))]⟩
def o27(P:Params):Obj:=di [(de P "__module__" 230 (.str "fivefields.errors" 187)),(de P "__firstlineno__" 234 (.int 6 233)),(de P "__static_attributes__" 235 (r 47)),(de P "__doc__" 236 .none)] 2
def o28:Obj:=⟨(.type "type"),none,(.cls ⟨"NoMoment",[(r 24)],[(r 49),(r 24),(.type "ValueError"),(.type "Exception"),(.type "BaseException"),(.type "object")],48,"NoMoment",true,[],[],false,none,false⟩),#[(some (r 40)),none,(some (.str "NoMoment" 223)),(some (.str "NoMoment" 231)),(some (.builtin "ValueError.__new__")),(some (.bool true))]⟩
def o29:Obj:=⟨(.type "super"),none,(.fields #[(r 49),(r 49),(r 49)]),#[]⟩
def o30:Obj:=⟨(.type "builtin_function_or_method"),none,(.fields #[(.builtin "object.__init_subclass__"),(r 49)]),#[]⟩
def o31(P:Params):Obj:=di [(de P "__module__" 246 (.str "fivefields.errors" 187)),(de P "__qualname__" 248 (.str "NoField" 247)),(de P "__firstlineno__" 250 (.int 8 249)),(de P "__init__" 258 (r 65)),(de P "__static_attributes__" 260 (r 66))] 5
def o32:Obj:=fd [(i 10),(i 4),(r 64)]
def o33:Obj:=co [(.str "NoField" 241),(.str "NoField" 242),(sf 243),(i 8),(i 0),(i 0),(i 0),(i 0),(r 55),(.bool false),(i 181),(r 56),.none,.none,.none,.none,(i 244),(i 8),(sf 245)]
def o34:Obj:=⟨(.type "frame"),none,.plain,#[(some (r 57)),(some (r 3)),(some (r 54)),none,(some (.str "fivefields.errors" 187)),none,(some (r 0))]⟩
def o35:Obj:=tu [(.str "self" 254),(.str "at" 255)]
def o36:Obj:=fz "__init__" "NoField.__init__" (ib (tp 4) 0)
def o37:Obj:=co [(.str "__init__" 251),(.str "NoField.__init__" 252),(sf 253),(i 10),(i 2),(i 0),(i 0),(i 3),(r 59),(.bool true),(i 181),(r 60),.none,(r 61),(r 62),(r 63),(i 256),(i 10),(sf 257)]
def o38:Obj:=fn "__init__" "NoField.__init__" (ib (tp 4) 0) 3 [] .none .none .none (.str "fivefields.errors" 187) none (r 64) .none 0
def o39:Obj:=tu [(.str "at" 259)]
def o40(P:Params):Obj:=di [(de P "__module__" 246 (.str "fivefields.errors" 187)),(de P "__firstlineno__" 250 (.int 8 249)),(de P "__init__" 258 (r 65)),(de P "__static_attributes__" 260 (r 66)),(de P "__doc__" 261 .none)] 2
def o41:Obj:=⟨(.type "type"),none,(.cls ⟨"NoField",[(r 24)],[(r 68),(r 24),(.type "ValueError"),(.type "Exception"),(.type "BaseException"),(.type "object")],67,"NoField",true,[],[],false,none,false⟩),#[(some (r 52)),none,(some (.str "NoField" 239)),(some (.str "NoField" 247)),(some (.builtin "ValueError.__new__")),(some (.bool true))]⟩
def o42:Obj:=⟨(.type "super"),none,(.fields #[(r 68),(r 68),(r 68)]),#[]⟩
def o43:Obj:=⟨(.type "builtin_function_or_method"),none,(.fields #[(.builtin "object.__init_subclass__"),(r 68)]),#[]⟩
def o44(P:Params):Obj:=di [(de P "__module__" 271 (.str "fivefields.errors" 187)),(de P "__qualname__" 273 (.str "NoRow" 272)),(de P "__firstlineno__" 275 (.int 12 274)),(de P "__init__" 283 (r 84)),(de P "__static_attributes__" 285 (r 85))] 5
def o45:Obj:=fd [(i 14),(i 4),(r 83)]
def o46:Obj:=co [(.str "NoRow" 266),(.str "NoRow" 267),(sf 268),(i 12),(i 0),(i 0),(i 0),(i 0),(r 74),(.bool false),(i 181),(r 75),.none,.none,.none,.none,(i 269),(i 12),(sf 270)]
def o47:Obj:=⟨(.type "frame"),none,.plain,#[(some (r 76)),(some (r 3)),(some (r 73)),none,(some (.str "fivefields.errors" 187)),none,(some (r 0))]⟩
def o48:Obj:=tu [(.str "self" 279),(.str "place" 280)]
def o49:Obj:=fz "__init__" "NoRow.__init__" (ib (tp 5) 0)
def o50:Obj:=co [(.str "__init__" 276),(.str "NoRow.__init__" 277),(sf 278),(i 14),(i 2),(i 0),(i 0),(i 3),(r 78),(.bool true),(i 181),(r 79),.none,(r 80),(r 81),(r 82),(i 281),(i 14),(sf 282)]
def o51:Obj:=fn "__init__" "NoRow.__init__" (ib (tp 5) 0) 3 [] .none .none .none (.str "fivefields.errors" 187) none (r 83) .none 0
def o52:Obj:=tu [(.str "place" 284)]
def o53(P:Params):Obj:=di [(de P "__module__" 271 (.str "fivefields.errors" 187)),(de P "__firstlineno__" 275 (.int 12 274)),(de P "__init__" 283 (r 84)),(de P "__static_attributes__" 285 (r 85)),(de P "__doc__" 286 .none)] 2
def o54:Obj:=⟨(.type "type"),none,(.cls ⟨"NoRow",[(r 24)],[(r 87),(r 24),(.type "ValueError"),(.type "Exception"),(.type "BaseException"),(.type "object")],86,"NoRow",true,[],[],false,none,false⟩),#[(some (r 71)),none,(some (.str "NoRow" 264)),(some (.str "NoRow" 272)),(some (.builtin "ValueError.__new__")),(some (.bool true))]⟩
def o55:Obj:=⟨(.type "super"),none,(.fields #[(r 87),(r 87),(r 87)]),#[]⟩
def o56:Obj:=⟨(.type "builtin_function_or_method"),none,(.fields #[(.builtin "object.__init_subclass__"),(r 87)]),#[]⟩
def o57(P:Params):Obj:=di [(de P "__module__" 296 (.str "fivefields.errors" 187)),(de P "__qualname__" 298 (.str "NoBook" 297)),(de P "__firstlineno__" 300 (.int 16 299)),(de P "__static_attributes__" 301 (r 97))] 4
def o58:Obj:=co [(.str "NoBook" 291),(.str "NoBook" 292),(sf 293),(i 16),(i 0),(i 0),(i 0),(i 0),(r 93),(.bool false),(i 181),(r 94),.none,.none,.none,.none,(i 294),(i 16),(sf 295)]
def o59:Obj:=⟨(.type "frame"),none,.plain,#[(some (r 95)),(some (r 3)),(some (r 92)),none,(some (.str "fivefields.errors" 187)),none,(some (r 0))]⟩
def o60(P:Params):Obj:=di [(de P "__module__" 296 (.str "fivefields.errors" 187)),(de P "__firstlineno__" 300 (.int 16 299)),(de P "__static_attributes__" 301 (r 97)),(de P "__doc__" 302 .none)] 2
def o61:Obj:=⟨(.type "type"),none,(.cls ⟨"NoBook",[(r 24)],[(r 99),(r 24),(.type "ValueError"),(.type "Exception"),(.type "BaseException"),(.type "object")],98,"NoBook",true,[],[],false,none,false⟩),#[(some (r 90)),none,(some (.str "NoBook" 289)),(some (.str "NoBook" 297)),(some (.builtin "ValueError.__new__")),(some (.bool true))]⟩
def o62:Obj:=⟨(.type "super"),none,(.fields #[(r 99),(r 99),(r 99)]),#[]⟩
def o63:Obj:=⟨(.type "builtin_function_or_method"),none,(.fields #[(.builtin "object.__init_subclass__"),(r 99)]),#[]⟩
def o64(P:Params):Obj:=di [(de P "__module__" 312 (.str "fivefields.errors" 187)),(de P "__qualname__" 314 (.str "NoClock" 313)),(de P "__firstlineno__" 316 (.int 18 315)),(de P "__static_attributes__" 317 (r 109))] 4
def o65:Obj:=co [(.str "NoClock" 307),(.str "NoClock" 308),(sf 309),(i 18),(i 0),(i 0),(i 0),(i 0),(r 105),(.bool false),(i 181),(r 106),.none,.none,.none,.none,(i 310),(i 18),(sf 311)]
def o66:Obj:=⟨(.type "frame"),none,.plain,#[(some (r 107)),(some (r 3)),(some (r 104)),none,(some (.str "fivefields.errors" 187)),none,(some (r 0))]⟩
def o67(P:Params):Obj:=di [(de P "__module__" 312 (.str "fivefields.errors" 187)),(de P "__firstlineno__" 316 (.int 18 315)),(de P "__static_attributes__" 317 (r 109)),(de P "__doc__" 318 .none)] 2
def o68:Obj:=⟨(.type "type"),none,(.cls ⟨"NoClock",[(r 24)],[(r 111),(r 24),(.type "ValueError"),(.type "Exception"),(.type "BaseException"),(.type "object")],110,"NoClock",true,[],[],false,none,false⟩),#[(some (r 102)),none,(some (.str "NoClock" 305)),(some (.str "NoClock" 313)),(some (.builtin "ValueError.__new__")),(some (.bool true))]⟩
def o69:Obj:=⟨(.type "super"),none,(.fields #[(r 111),(r 111),(r 111)]),#[]⟩
def o70:Obj:=⟨(.type "builtin_function_or_method"),none,(.fields #[(.builtin "object.__init_subclass__"),(r 111)]),#[]⟩
def o71(P:Params):Obj:=di [(de P "__module__" 328 (.str "fivefields.errors" 187)),(de P "__qualname__" 330 (.str "NoName" 329)),(de P "__firstlineno__" 332 (.int 20 331)),(de P "__init__" 340 (r 127)),(de P "__static_attributes__" 342 (r 128))] 5
def o72:Obj:=fd [(i 22),(i 4),(r 126)]
def o73:Obj:=co [(.str "NoName" 323),(.str "NoName" 324),(sf 325),(i 20),(i 0),(i 0),(i 0),(i 0),(r 117),(.bool false),(i 181),(r 118),.none,.none,.none,.none,(i 326),(i 20),(sf 327)]
def o74:Obj:=⟨(.type "frame"),none,.plain,#[(some (r 119)),(some (r 3)),(some (r 116)),none,(some (.str "fivefields.errors" 187)),none,(some (r 0))]⟩
def o75:Obj:=tu [(.str "self" 336),(.str "name" 337)]
def o76:Obj:=fz "__init__" "NoName.__init__" (ib (tp 8) 0)
def o77:Obj:=co [(.str "__init__" 333),(.str "NoName.__init__" 334),(sf 335),(i 22),(i 2),(i 0),(i 0),(i 3),(r 121),(.bool true),(i 181),(r 122),.none,(r 123),(r 124),(r 125),(i 338),(i 22),(sf 339)]
def o78:Obj:=fn "__init__" "NoName.__init__" (ib (tp 8) 0) 3 [] .none .none .none (.str "fivefields.errors" 187) none (r 126) .none 0
def o79:Obj:=tu [(.str "name" 341)]
def o80(P:Params):Obj:=di [(de P "__module__" 328 (.str "fivefields.errors" 187)),(de P "__firstlineno__" 332 (.int 20 331)),(de P "__init__" 340 (r 127)),(de P "__static_attributes__" 342 (r 128)),(de P "__doc__" 343 .none)] 2
def o81:Obj:=⟨(.type "type"),none,(.cls ⟨"NoName",[(r 24)],[(r 130),(r 24),(.type "ValueError"),(.type "Exception"),(.type "BaseException"),(.type "object")],129,"NoName",true,[],[],false,none,false⟩),#[(some (r 114)),none,(some (.str "NoName" 321)),(some (.str "NoName" 329)),(some (.builtin "ValueError.__new__")),(some (.bool true))]⟩
def o82:Obj:=⟨(.type "super"),none,(.fields #[(r 130),(r 130),(r 130)]),#[]⟩
def o83:Obj:=⟨(.type "builtin_function_or_method"),none,(.fields #[(.builtin "object.__init_subclass__"),(r 130)]),#[]⟩
def o84(P:Params):Obj:=di [(de P "__module__" 353 (.str "fivefields.errors" 187)),(de P "__qualname__" 355 (.str "NoWord" 354)),(de P "__firstlineno__" 357 (.int 24 356)),(de P "__static_attributes__" 358 (r 140))] 4
def o85:Obj:=co [(.str "NoWord" 348),(.str "NoWord" 349),(sf 350),(i 24),(i 0),(i 0),(i 0),(i 0),(r 136),(.bool false),(i 181),(r 137),.none,.none,.none,.none,(i 351),(i 24),(sf 352)]
def o86:Obj:=⟨(.type "frame"),none,.plain,#[(some (r 138)),(some (r 3)),(some (r 135)),none,(some (.str "fivefields.errors" 187)),none,(some (r 0))]⟩
def o87(P:Params):Obj:=di [(de P "__module__" 353 (.str "fivefields.errors" 187)),(de P "__firstlineno__" 357 (.int 24 356)),(de P "__static_attributes__" 358 (r 140)),(de P "__doc__" 359 .none)] 2
def o88:Obj:=⟨(.type "type"),none,(.cls ⟨"NoWord",[(r 24)],[(r 142),(r 24),(.type "ValueError"),(.type "Exception"),(.type "BaseException"),(.type "object")],141,"NoWord",true,[],[],false,none,false⟩),#[(some (r 133)),none,(some (.str "NoWord" 346)),(some (.str "NoWord" 354)),(some (.builtin "ValueError.__new__")),(some (.bool true))]⟩
def o89:Obj:=⟨(.type "super"),none,(.fields #[(r 142),(r 142),(r 142)]),#[]⟩
def o90:Obj:=⟨(.type "builtin_function_or_method"),none,(.fields #[(.builtin "object.__init_subclass__"),(r 142)]),#[]⟩
def t1(P:Params):BT:=(nd (boot_o_0 P) (nd (boot_o_1 P) (nd (o4 P) (nd (boot_o_7 P) (nd o6 (nd o0 (nd o36 (lf o78) .nil) (lf o58)) (nd o0 (nd o1 (lf o89) .nil) (lf o68))) (nd (o11 P) (nd o23 (nd o16 (lf (o84 P)) .nil) (lf o7)) (nd o0 (lf o54) (lf o73)))) (nd o0 (nd o1 (nd o0 (nd (o40 P) (lf o82) .nil) (lf o61)) (nd o30 (lf o50) (lf o7))) (nd o15 (nd o0 (nd o45 (lf o86) .nil) (lf o65)) (nd o0 (lf o7) (lf o75))))) (nd (boot_o_5 P) (nd (boot_o_9 P) (nd (o8 P) (nd o18 (nd o38 (lf (o80 P)) .nil) (lf o0)) (nd o28 (lf o0) (lf o70))) (nd o13 (nd o7 (nd (o44 P) (lf o1) .nil) (lf o0)) (nd o33 (lf o56) (lf o0)))) (nd o2 (nd o10 (nd o21 (nd o42 (lf o16) .nil) (lf o63)) (nd o7 (lf o52) (lf o0))) (nd o7 (nd o25 (nd o47 (lf (o87 P)) .nil) (lf o0)) (nd o35 (lf o0) (lf o76)))))) (nd (boot_o_2 P) (nd (boot_o_4 P) (nd (boot_o_8 P) (nd o7 (nd o1 (nd o37 (lf o79) .nil) (lf o59)) (nd (o27 P) (nd o48 (lf o90) .nil) (lf o69))) (nd o12 (nd o16 (nd o7 (lf o0) .nil) (lf (o64 P))) (nd o32 (lf o55) (lf o74)))) (nd o5 (nd o9 (nd (o20 P) (nd o41 (lf o83) .nil) (lf o62)) (nd o16 (lf o51) (lf (o71 P)))) (nd o16 (nd o1 (nd o46 (lf o0) .nil) (lf o66)) (nd o1 (lf (o57 P)) (lf o0))))) (nd (boot_o_6 P) (nd (boot_o_10 P) (nd o0 (nd o19 (nd o39 (lf o81) .nil) (lf (o60 P))) (nd o29 (lf o49) (lf o16))) (nd o14 (nd (o24 P) (nd o0 (lf o85) .nil) (lf o1)) (nd o34 (lf o16) (lf o1)))) (nd o3 (nd o0 (nd o22 (nd o43 (lf o7) .nil) (lf o16)) (nd (o31 P) (lf (o53 P)) (lf o72))) (nd (o17 P) (nd o26 (nd o0 (lf o88) .nil) (lf (o67 P))) (nd o0 (lf o1) (lf o77)))))))
def s1(w:World)(os:OsState):SharedT:=⟨t1 w.params,145,⟨[],[],[],0,[],[],false,#[],[],0,false,false,false,0,[2000,10,10],false,0,true,[],[],0,false⟩,#[],⟨0,0,0,0⟩,362,os⟩
def l0:List Stmt:=(bi.drop 0).take 10
theorem r0(w:World)(os:OsState):
  segRunT treeTable pw w 11 an 1 1996 (s0 w os) (piecesOf l0 ev cd ⟨0,0,0,0⟩ bk) =
  some (.next,s1 w os,cd,⟨24,0,25,8⟩):=by kernel_rfl
def o91(P:Params):Obj:=di [(de P "__name__" 165 (.str "law_fivefields_k19_refusals_apart" 362)),(de P "__doc__" 166 .none),(de P "__package__" 167 .none),(de P "__loader__" 168 (.builtin "__main__.__loader__#opaque")),(de P "__spec__" 169 .none),(de P "__annotations__" 170 (r 6)),(de P "__builtins__" 171 (r 4)),(de P "__file__" 173 (sf 172)),(de P "__cached__" 174 .none),(de P "FieldError" 206 (r 24)),(de P "NoDay" 222 (r 37)),(de P "NoMoment" 238 (r 49)),(de P "NoField" 263 (r 68)),(de P "NoRow" 288 (r 87)),(de P "NoBook" 304 (r 99)),(de P "NoClock" 320 (r 111)),(de P "NoName" 345 (r 130)),(de P "NoWord" 361 (r 142)),(de P "_law_cell_at" 371 (r 151)),(de P "_law_whole" 378 (r 158)),(de P "_law_sorts" 386 (r 165)),(de P "_law_thrown" 395 (r 172)),(de P "_law_kept" 405 (r 179)),(de P "law" 411 (r 184))] 24
def o92:Obj:=fd [(i 2),(i 0),(r 20),(i 4),(i 0),(r 33),(i 6),(i 0),(r 45),(i 8),(i 0),(r 57),(i 12),(i 0),(r 76),(i 16),(i 0),(r 95),(i 18),(i 0),(r 107),(i 20),(i 0),(r 119),(i 24),(i 0),(r 138),(i 27),(i 0),(r 150),(i 31),(i 0),(r 157),(i 33),(i 0),(r 164),(i 36),(i 0),(r 171),(i 52),(i 0),(r 178),(i 60),(i 0),(r 183)]
def o93:Obj:=tu [(.str "_law_script" 367),(.str "_law_k" 368)]
def o94:Obj:=fz "_law_cell_at" "_law_cell_at" (tp 11)
def o95:Obj:=co [(.str "_law_cell_at" 364),(.str "_law_cell_at" 365),(sf 366),(i 27),(i 2),(i 0),(i 0),(i 3),(r 145),(.bool true),(i 181),(r 146),.none,(r 147),(r 148),(r 149),(i 369),(i 27),(sf 370)]
def o96:Obj:=fn "_law_cell_at" "_law_cell_at" (tp 11) 3 [] .none .none .none (.str "law_fivefields_k19_refusals_apart" 362) none (r 150) .none 0
def o97:Obj:=tu [(.str "_law_found" 375)]
def o98:Obj:=fz "_law_whole" "_law_whole" (tp 12)
def o99:Obj:=co [(.str "_law_whole" 372),(.str "_law_whole" 373),(sf 374),(i 31),(i 1),(i 0),(i 0),(i 3),(r 152),(.bool true),(i 181),(r 153),.none,(r 154),(r 155),(r 156),(i 376),(i 31),(sf 377)]
def aiJ:Obj:=fn "_law_whole" "_law_whole" (tp 12) 3 [] .none .none .none (.str "law_fivefields_k19_refusals_apart" 362) none (r 157) .none 0
def ai0:Obj:=tu [(.str "_law_e" 382),(.str "_law_some" 383)]
def aiD:Obj:=fz "_law_sorts" "_law_sorts" (tp 13)
def ahT:Obj:=co [(.str "_law_sorts" 379),(.str "_law_sorts" 380),(sf 381),(i 33),(i 1),(i 0),(i 0),(i 3),(r 159),(.bool true),(i 181),(r 160),.none,(r 161),(r 162),(r 163),(i 384),(i 33),(sf 385)]
def ah7:Obj:=fn "_law_sorts" "_law_sorts" (tp 13) 3 [] .none .none .none (.str "law_fivefields_k19_refusals_apart" 362) none (r 164) .none 0
def ai7:Obj:=tu [(.str "_law_way" 390),(.str "_law_number" 391),(.str "_law_name" 392)]
def ahY:Obj:=fz "_law_thrown" "_law_thrown" (tp 14)
def aiP:Obj:=co [(.str "_law_thrown" 387),(.str "_law_thrown" 388),(sf 389),(i 36),(i 3),(i 0),(i 0),(i 3),(r 166),(.bool true),(i 181),(r 167),.none,(r 168),(r 169),(r 170),(i 393),(i 36),(sf 394)]
def ah9:Obj:=fn "_law_thrown" "_law_thrown" (tp 14) 3 [] .none .none .none (.str "law_fivefields_k19_refusals_apart" 362) none (r 171) .none 0
def ahW:Obj:=tu [(.str "_law_e" 399),(.str "_law_way" 400),(.str "_law_number" 401),(.str "_law_name" 402)]
def ah5:Obj:=fz "_law_kept" "_law_kept" (tp 15)
def ahR:Obj:=co [(.str "_law_kept" 396),(.str "_law_kept" 397),(sf 398),(i 52),(i 4),(i 0),(i 0),(i 3),(r 173),(.bool true),(i 181),(r 174),.none,(r 175),(r 176),(r 177),(i 403),(i 52),(sf 404)]
def ajG:Obj:=fn "_law_kept" "_law_kept" (tp 15) 3 [] .none .none .none (.str "law_fivefields_k19_refusals_apart" 362) none (r 178) .none 0
def aiU:Obj:=fz "law" "law" (tp 16)
def ajE:Obj:=co [(.str "law" 406),(.str "law" 407),(sf 408),(i 60),(i 1),(i 0),(i 0),(i 3),(r 180),(.bool true),(i 181),(r 181),.none,.none,.none,(r 182),(i 409),(i 60),(sf 410)]
def ai2:Obj:=fn "law" "law" (tp 16) 3 [] .none .none .none (.str "law_fivefields_k19_refusals_apart" 362) none (r 183) .none 0
def t2(P:Params):BT:=(nd (boot_o_0 P) (nd (boot_o_1 P) (nd (o91 P) (nd (boot_o_7 P) (nd o6 (nd o0 (nd o36 (lf o78) .nil) (nd o58 (lf o0) .nil)) (nd o0 (nd o1 (lf o89) .nil) (nd o68 (lf ahW) .nil))) (nd (o11 P) (nd o23 (nd o16 (lf (o84 P)) .nil) (nd o7 (lf o1) .nil)) (nd o0 (nd o54 (lf o96) .nil) (nd o73 (lf ajE) .nil)))) (nd o0 (nd o1 (nd o0 (nd (o40 P) (lf o82) .nil) (nd o61 (lf aiD) .nil)) (nd o30 (nd o50 (lf o93) .nil) (nd o7 (lf ajG) .nil))) (nd o15 (nd o0 (nd o45 (lf o86) .nil) (nd o65 (lf aiP) .nil)) (nd o0 (nd o7 (lf o0) .nil) (lf o75))))) (nd (boot_o_5 P) (nd (boot_o_9 P) (nd (o8 P) (nd o18 (nd o38 (lf (o80 P)) .nil) (nd o0 (lf ai0) .nil)) (nd o28 (nd o0 (lf o0) .nil) (nd o70 (lf ah5) .nil))) (nd o13 (nd o7 (nd (o44 P) (lf o1) .nil) (nd o0 (lf o0) .nil)) (nd o33 (nd o56 (lf o1) .nil) (lf o0)))) (nd o2 (nd o10 (nd o21 (nd o42 (lf o16) .nil) (nd o63 (lf ah7) .nil)) (nd o7 (nd o52 (lf o94) .nil) (nd o0 (lf o1) .nil))) (nd o7 (nd o25 (nd o47 (lf (o87 P)) .nil) (nd o0 (lf o0) .nil)) (nd o35 (nd o0 (lf o99) .nil) (lf o76)))))) (nd (boot_o_2 P) (nd (boot_o_4 P) (nd (boot_o_8 P) (nd o7 (nd o1 (nd o37 (lf o79) .nil) (nd o59 (lf o1) .nil)) (nd (o27 P) (nd o48 (lf o90) .nil) (nd o69 (lf o0) .nil))) (nd o12 (nd o16 (nd o7 (lf o0) .nil) (nd (o64 P) (lf ai7) .nil)) (nd o32 (nd o55 (lf o0) .nil) (nd o74 (lf ai2) .nil)))) (nd o92 (nd o9 (nd (o20 P) (nd o41 (lf o83) .nil) (nd o62 (lf ahT) .nil)) (nd o16 (nd o51 (lf o0) .nil) (nd (o71 P) (lf o0) .nil))) (nd o16 (nd o1 (nd o46 (lf o0) .nil) (nd o66 (lf ah9) .nil)) (nd o1 (nd (o57 P) (lf o98) .nil) (lf o0))))) (nd (boot_o_6 P) (nd (boot_o_10 P) (nd o0 (nd o19 (nd o39 (lf o81) .nil) (nd (o60 P) (lf o0) .nil)) (nd o29 (nd o49 (lf o1) .nil) (nd o16 (lf ahR) .nil))) (nd o14 (nd (o24 P) (nd o0 (lf o85) .nil) (nd o1 (lf ahY) .nil)) (nd o34 (nd o16 (lf o97) .nil) (lf o1)))) (nd o3 (nd o0 (nd o22 (nd o43 (lf o7) .nil) (nd o16 (lf o0) .nil)) (nd (o31 P) (nd (o53 P) (lf o95) .nil) (nd o72 (lf aiU) .nil))) (nd (o17 P) (nd o26 (nd o0 (lf o88) .nil) (nd (o67 P) (lf o1) .nil)) (nd o0 (nd o1 (lf aiJ) .nil) (lf o77)))))))
def s2(w:World)(os:OsState):SharedT:=⟨t2 w.params,185,⟨[],[],[],0,[],[],false,#[],[],0,false,false,false,0,[2000,10,10],false,0,true,[],[],0,false⟩,#[],⟨0,0,0,0⟩,412,os⟩
def l1:List Stmt:=(bi.drop 10).take 7
theorem r1(w:World)(os:OsState):
  segRunT treeTable pw w 11 an 1 188 (s1 w os) (piecesOf l1 ev cd ⟨24,0,25,8⟩ bk) =
  some (.next,s2 w os,cd,⟨60,0,74,15⟩):=by kernel_rfl
def hF(P:Params):Heap:=⟨⟨[(boot_o_0 P),(boot_o_1 P),(boot_o_2 P),(o91 P),(boot_o_4 P),(boot_o_5 P),(boot_o_6 P),(boot_o_7 P),(boot_o_8 P),(boot_o_9 P),(boot_o_10 P),o0,o92,o2,o3,o6,o7,(o8 P),o0,o1,o9,o10,o0,(o11 P),o12,o13,o14,o15,o16,o7,(o17 P),o0,o1,o18,o19,o0,(o20 P),o21,o22,o23,o16,o7,(o24 P),o0,o1,o25,o26,o0,(o27 P),o28,o29,o30,o16,o7,(o31 P),o0,o32,o33,o34,o0,o1,o35,o0,o36,o37,o38,o39,(o40 P),o41,o42,o43,o16,o7,(o44 P),o0,o45,o46,o47,o0,o1,o48,o0,o49,o50,o51,o52,(o53 P),o54,o55,o56,o16,o7,(o57 P),o0,o1,o58,o59,o0,(o60 P),o61,o62,o63,o16,o7,(o64 P),o0,o1,o65,o66,o0,(o67 P),o68,o69,o70,o16,o7,(o71 P),o0,o72,o73,o74,o0,o1,o75,o0,o76,o77,o78,o79,(o80 P),o81,o82,o83,o16,o7,(o84 P),o0,o1,o85,o86,o0,(o87 P),o88,o89,o90,o0,o1,o93,o0,o94,o95,o96,o0,o1,o97,o0,o98,o99,aiJ,o0,o1,ai0,o0,aiD,ahT,ah7,o0,o1,ai7,o0,ahY,aiP,ah9,o0,o1,ahW,o0,ah5,ahR,ajG,o0,o1,aiU,ajE,ai2]⟩,⟨[],[],[],0,[],[],false,#[],[],0,false,false,false,0,[2000,10,10],false,0,true,[],[],0,false⟩⟩
def sF(w:World)(os:OsState):Shared:=⟨hF w.params,#[],⟨0,0,0,0⟩,412,os⟩
theorem fin(w:World)(os:OsState):
  topRun treeTable pw w 11 an 2 (s2 w os).abs (restOf [] ev cd ⟨60,0,74,15⟩ bk) =
  some (sF w os):=by kernel_rfl
theorem bis:bi=(l0++(l1++[])):=by kernel_rfl
theorem run(w:World)(os:OsState):topRun treeTable pw w 11 an (12+(1+(1996+(188+(2))))) ⟨boot_heap w.params,⟨[]⟩,boot_drawn,boot_toks,os⟩ (topStub pw)=some (sF w os):=by
 refine go_top (pre w os) (piece_block (blk w os) ?_)
 rw[bis]
 exact (piece_app (segRun_of (r0 w os)) (piece_app (segRun_of (r1 w os)) (fin w os)))
theorem opn:∀w:World,(fencedOpening treeTable pw w 4490).map (fun s=>(s.heap,s.gens,s.drawn,s.toks))=some (boot_heap w.params,⟨[]⟩,boot_drawn,boot_toks):=
 boot_open (by kernel_rfl) rfl (fun s=>by kernel_rfl)
theorem siz(w:World):((boot_heap w.params).isNs mainGlobals&&(⟨[]⟩:Array GenState).size==0,(boot_heap w.params).objs.size,(boot_heap w.params).nsMap mainGlobals "__annotations__")=(true,11,an):=by kernel_rfl
end
end
theorem aiL{q:Program}{loose mods:List Str}{Xt:Shared->Bool}{s:Shared}
  (e1:seen ((recsOf q).map (·.name)) (ownsOf q) [] {s with gens:= #[]}=expectedOf q) (e2:s.heap.bltView=bltViewBooted)
  (a1:s.heap.keysOk (looseW q loose) ((recsOf q).map (·.name)) ((litsOf q).map (·.1)) ((clssOf q (looseW q loose)).map (·.name))=true)
  (a2:s.heap.accountedOkI mods=true) (a3:s.heap.isNs mainGlobals=true) (a4:s.heap.isNs builtinsNs=true)
  (a5:tablesOk q s.heap=true) (a6:Xt s=true) (a7:(s.gens.size==0)=true) (e4:tabsOk q s=true)
  (e5:pinSeenD q (drecsOf q) s=pinGoodD (drecsOf q)) (e6:plainSeenE q (looseW q loose) s=plainGoodE q (looseW q loose))
  (e7:plainSeenD q loose s=plainGoodD q loose) (e8:wideSeen q s=wideGood q) (e9:clsSeenW q loose s=clsGoodW q loose):
  openSeen q loose mods Xt true s=openGood q loose:=by
 unfold openSeen openGood
 rw[e1,e2,a1,a2,a3,a4,a5,a6,if_pos rfl,a7,e4,e5,e6,e7,e8,e9];rfl
noncomputable def seenBy:Program:=view PySem.Challenge.pw_fivefields_k19_refusals_apart [1,2,3,4,5,6,7,8,9,11,12,13,14,15,16]
noncomputable def free:List Str:=[]
noncomputable def read:List (Str×WData):=[]
section
set_option maxHeartbeats 0
set_option maxRecDepth 100000
noncomputable section
def XT:Shared->Bool:=fun z=>xlAt seenBy read z&&recOk (RowW.records (OpenRow.toRowW (OpenLaw.row PySem.Challenge.rw_fivefields_k19_refusals_apart))) z
abbrev SE(w:World)(os:OsState):=openSeen seenBy free (importedModules pw.main.body) XT true (sF w os)
section
variable(w:World)(os:OsState)
theorem z1:seen ((recsOf seenBy).map (·.name)) (ownsOf seenBy) [] {sF w os with gens:= #[]}=expectedOf seenBy:=by kernel_rfl
theorem z2:(sF w os).heap.bltView=bltViewBooted:=by kernel_rfl
theorem y1:(sF w os).heap.keysOk (looseW seenBy free) ((recsOf seenBy).map (·.name)) ((litsOf seenBy).map (·.1)) ((clssOf seenBy (looseW seenBy free)).map (·.name))=true:=by kernel_rfl
theorem y2:(sF w os).heap.accountedOkI (importedModules pw.main.body)=true:=by kernel_rfl
theorem y3:(sF w os).heap.isNs mainGlobals=true:=by kernel_rfl
theorem y4:(sF w os).heap.isNs builtinsNs=true:=by kernel_rfl
theorem y5:tablesOk seenBy (sF w os).heap=true:=by kernel_rfl
theorem y6:XT (sF w os)=true:=by kernel_rfl
theorem y7:((sF w os).gens.size==0)=true:=by kernel_rfl
theorem z4:tabsOk seenBy (sF w os)=true:=by kernel_rfl
theorem z5:pinSeenD seenBy (drecsOf seenBy) (sF w os)=pinGoodD (drecsOf seenBy):=by kernel_rfl
theorem z6:plainSeenE seenBy (looseW seenBy free) (sF w os)=plainGoodE seenBy (looseW seenBy free):=by kernel_rfl
theorem z7:plainSeenD seenBy free (sF w os)=plainGoodD seenBy free:=by kernel_rfl
theorem z8:wideSeen seenBy (sF w os)=wideGood seenBy:=by kernel_rfl
theorem z9:clsSeenW seenBy free (sF w os)=clsGoodW seenBy free:=by kernel_rfl
theorem look:SE w os=openGood seenBy free:=aiL (q:=seenBy) (loose:=free) (mods:=importedModules pw.main.body) (Xt:=XT) (s:=sF w os) (z1 w os) (z2 w os) (y1 w os) (y2 w os) (y3 w os) (y4 w os) (y5 w os) (y6 w os) (y7 w os) (z4 w os) (z5 w os) (z6 w os) (z7 w os) (z8 w os) (z9 w os)
end
theorem lk0(w:World)(os:OsState):(staticsOk (importedModules pw.main.body) (boot_heap w.params) (hF w.params)&&namesBound pw (hF w.params)
  &&gensDone (sF w os)&&laidKept (boot_heap w.params) (hF w.params))=true:=by kernel_rfl
end
end
end Hd
set_option Elab.async false
set_option linter.all false
set_option maxRecDepth 100000
namespace L2
open PySem PySem.Spec PyProof.Rows
abbrev Key:=Sum Int Str
def agC:Key->Value->Bool
 |.inl k,v=>Value.isInt k v
 |.inr x,v=>Value.isStrOf x v
def keyH(w:World):Key->Int
 |.inl k=>hashInt k
 |.inr x=>hashStr w x
theorem aaG:∀{k:Key} {v:Value},agC k v=true->(∃i t,k=Sum.inl i/\v=Value.int i t)∨(∃x t,k=Sum.inr x/\v=Value.str x t)
 |.inl i,v,h=>by
  obtain⟨t,e⟩:=Value.isInt_shape (k:=i) (v:=v) h
  exact .inl ⟨i,t,rfl,e⟩
 |.inr x,v,h=>by
  obtain⟨t,e⟩:=Value.isStrOf_shape (x:=x) (v:=v) h
  exact .inr ⟨x,t,rfl,e⟩
theorem agX(a b:Int):decide ((Sum.inl a:Key)=Sum.inl b)=(a==b):=by
 by_cases e:a=b
 ·subst e;simp
 ·have h:¬(Sum.inl a:Key)=Sum.inl b:=fun q=>e (Sum.inl.inj q)
  rw[decide_eq_false h]
  exact (beq_eq_false_iff_ne.mpr e).symm
theorem ahN(a b:Str):decide ((Sum.inr a:Key)=Sum.inr b)=decide (a=b):=by
 by_cases e:a=b
 ·subst e;simp
 ·have h:¬(Sum.inr a:Key)=Sum.inr b:=fun q=>e (Sum.inr.inj q)
  rw[decide_eq_false h,decide_eq_false e]
theorem agR(a:Int)(b:Str):decide ((Sum.inl a:Key)=Sum.inr b)=false:=decide_eq_false (fun q=>nomatch q)
theorem ahF(a:Str)(b:Int):decide ((Sum.inr a:Key)=Sum.inl b)=false:=decide_eq_false (fun q=>nomatch q)
def adO(prog:Program)(w:World):PySem.KeyKind prog w Key where
 is:=agC
 hash:=keyH w
 inj:=fun v a b ha hb=>by
  rcases aaG ha with ⟨i,t,rfl,rfl⟩ | ⟨x,t,rfl,rfl⟩
  ·rcases aaG hb with ⟨j,u,rfl,e⟩ | ⟨y,u,rfl,e⟩
   ·injection e with e1 _;rw[e1]
   ·exact nomatch e
  ·rcases aaG hb with ⟨j,u,rfl,e⟩ | ⟨y,u,rfl,e⟩
   ·exact nomatch e
   ·injection e with e1 _;rw[e1]
 byValue:=fun k v h=>by
  rcases aaG h with ⟨i,t,rfl,rfl⟩ | ⟨x,t,rfl,rfl⟩<;>rfl
 pyHash:=fun hv h=>by
  rcases aaG hv with ⟨i,t,rfl,rfl⟩ | ⟨x,t,rfl,rfl⟩
  ·exact wpAny_pyHash_int h
  ·exact wpAny_pyHash_str h
 eqBool:=fun hu hv h=>by
  rcases aaG hu with ⟨i,t,rfl,rfl⟩ | ⟨x,t,rfl,rfl⟩
  ·rcases aaG hv with ⟨j,u,rfl,rfl⟩ | ⟨y,u,rfl,rfl⟩
   ·rw[agX] at h;exact wpAny_eqBool_int h
   ·rw[agR] at h;exact SeqAt.EqAt.int_str i t y u _ _ _ _ h
  ·rcases aaG hv with ⟨j,u,rfl,rfl⟩ | ⟨y,u,rfl,rfl⟩
   ·rw[ahF] at h;exact SeqAt.EqAt.str_int x t j u _ _ _ _ h
   ·rw[ahN] at h;exact wpAny_eqBool_str h
 «strs»:=fun k x t v h=>by
  rcases aaG h with ⟨i,u,rfl,e⟩ | ⟨y,u,rfl,e⟩
  ·exact nomatch e
  ·injection e with e1 _
   subst e1
   cases v<;>rfl
inductive V where
 |non | bl (b:Bool) | int (i:Int) | str (x:Str) | byt (b:Array UInt8) | flt (b:UInt64) | ref (a:Addr) | ty (n:String)
 deriving DecidableEq
def RelV:V->Value->Prop
 |.non,u=>u=Value.none
 |.bl b,u=>u=Value.bool b
 |.int i,u=>∃t,u=Value.int i t
 |.str x,u=>∃t,u=Value.str x t
 |.byt b,u=>∃t,u=Value.bytes b t
 |.flt b,u=>∃t,u=Value.float b t
 |.ref a,u=>u=Value.ref a
 |.ty n,u=>u=Value.type n
abbrev Vals:List V->List Value->Prop:=Paired RelV
theorem Vals.length{xs:List V}{us:List Value}(r:Vals xs us):xs.length=us.length:=Paired.length r
theorem Vals.get:∀{xs:List V} {us:List Value} {i:Nat} {x:V},Vals xs us->xs[i]? =some x->∃u,us[i]? =some u/\RelV x u
 |_,_,_,_,.nil,e=>by simp at e
 |_,_,0,_,.cons r _,e=>by simp at e;subst e;exact⟨_,rfl,r⟩
 |_,_,i+1,x,.cons _ t,e=>by
  obtain⟨u,h1,h2⟩:=Vals.get (i:=i) (x:=x) t (by simpa using e)
  exact⟨u,by simpa using h1,h2⟩
theorem Vals.append:∀{xs ys:List V} {us ws:List Value},Vals xs us->Vals ys ws->Vals (xs++ys) (us++ws)
 |_,_,_,_,.nil,s=>s
 |_,_,_,_,.cons r t,s=>.cons r (Vals.append t s)
theorem Vals.take:∀{xs:List V} {us:List Value} (n:Nat),Vals xs us->Vals (xs.take n) (us.take n)
 |_,_,0,_=>.nil
 |_,_,_+1,.nil=>.nil
 |_,_,n+1,.cons r t=>.cons r (Vals.take n t)
def ai5:Option V->Option Value->Prop
 |some v,some u=>RelV v u
 |none,none=>True
 |_,_=>False
def KV{κ:Type}:List (κ×V)->List (κ×Value)->Prop:=Paired fun (p:κ×V) (q:κ×Value)=>p.1=q.1/\RelV p.2 q.2
def kV:Key->V
 |.inl i=>.int i
 |.inr x=>.str x
inductive HO where
 |lst (xs:List V)
 |tup (xs:List V)
 |dK (kvs:List (Key×V)) | dT (kvs:List (List Key×V))
 |set (S:Int->Bool) (n:Nat)
 |ins (C dx:Addr) (fs:List (Str×V))
 |own (x:Addr)
 |xd (fs:List (Str×V))
 |met (f x:Addr)
 |rng (lo hi:Int)
 |frz (o:Obj) (u:HO)
 |tbl (ps:Array Value)
 |ext (φ:Heap->Prop)
abbrev Hp:=Addr->Option HO
def upd(H:Hp)(a:Addr)(o:HO):Hp:=fun b=>if b=a then some o else H b
theorem aaA{H:Hp}{a:Addr}{o:HO}:upd H a o a=some o:=by unfold upd;rw[if_pos rfl]
theorem aaD{H:Hp}{a b:Addr}{o:HO}(h:b≠a):upd H a o b=H b:=by unfold upd;rw[if_neg h]
theorem aaF{H:Hp}{a b:Addr}{o:HO}(h:H a=some o)(h':H b=none):a≠b:=by
 intro e;subst e;rw[h] at h';cases h'
section
variable(P:Program)(w:World)
def ObjOk(H:Hp)(h:Heap)(a:Addr):HO->Prop
 |.lst xs=>xs.length<=sizeLine/\∃(its:List Value) (n:Nat),Vals xs its/\h.get? a=some {cls:=.type "list",data:=.seq its.toArray n}
 |.tup xs=>xs.length<=sizeLine/\∃its:List Value,Vals xs its/\IsTup h a its.toArray
 |.dK kvs=>kvs.length<=sizeLine/\(a==sysModules)=false/\∃vs,KV kvs vs/\h.DictOf (adO P w) a vs
 |.dT kvs=>kvs.length<=sizeLine/\(a==sysModules)=false/\∃xs:List (List Key×Addr×Value),
   Paired (fun (p:List Key×V) (q:List Key×Addr×Value)=>p.1=q.1/\H q.2.1=some (.tup (p.1.map kV))/\RelV p.2 q.2.2) kvs xs/\
   ∃o es ep,h.get? a=some o/\o.ExactDict/\o.data=.dict es ep/\es.toList=xs.map (entryOfKey (tupleKind (adO P w)))/\(xs.map (·.1)).Nodup
 |.set S n=>h.SetOf (intKind P w) a S n
 |.ins C dx fs=>H dx=some (.own a)/\fs.length<=1000/\dx≠a/\h.get? a=some (PySem.W.instObj C dx)/\
   ∃mA,h.Ns1 dx mA/\(∀f,ai5 (fs.lookup f) (mA f))/\PySem.Within mA (fs.map (·.1))
 |.own _=>∃o,h.get? a=some o
 |.xd fs=>∃mA,h.Ns1 a mA/\∀f,ai5 (fs.lookup f) (mA f)
 |.rng lo hi=>∃t u v,h.get? a=some {cls:=.type "range",data:=.fields #[.int lo t,.int hi u,.int 1 v]}
 |.frz o u=>h.get? a=some o/\ObjOk H h a u
 |.tbl ps=>h.get? a=some {cls:=.none,data:=.fields ps}
 |.met f x=>h.get? a=some (PySem.W.methodObj (.ref f) (.ref x))
 |.ext φ=>φ h/\(∃o,h.get? a=some o)/\∀h1 h2:Heap,φ h1->(∀o,h1.get? a=some o->h2.get? a=some o)->φ h2
def HOk(H:Hp)(h:Heap):Prop:=∀a o,H a=some o->ObjOk P w H h a o
end
section
variable{P:Program}{w:World}{H H':Hp}{h h':Heap}{a:Addr}{o:HO}
theorem ObjOk.lt(x:ObjOk P w H h a o):a<h.objs.size:=by
 cases o with
 |lst xs=>obtain⟨_,_,_,_,e⟩:=x;exact Heap.lt_size e
 |tup xs=>obtain⟨_,_,_,p⟩:=x;exact p.lt
 |dK kvs=>obtain⟨_,_,_,_,o,_,_,e,_⟩:=x;exact Heap.lt_size e
 |dT kvs=>obtain⟨_,_,_,_,o,_,_,e,_⟩:=x;exact Heap.lt_size e
 |set S n=>obtain⟨o,_,_,_,e,_⟩:=x;exact Heap.lt_size e
 |ins C dx fs=>obtain⟨_,_,_,e,_⟩:=x;exact Heap.lt_size e
 |own y=>obtain⟨_,e⟩:=x;exact Heap.lt_size e
 |xd fs=>obtain⟨_,⟨_,_,_,e,_⟩,_⟩:=x;exact Heap.lt_size e
 |rng lo hi=>obtain⟨_,_,_,e⟩:=x;exact Heap.lt_size e
 |frz ob u=>obtain⟨e,_⟩:=x;exact Heap.lt_size e
 |tbl ps=>exact Heap.lt_size (show h.get? a=some _ from x)
 |met f y=>exact Heap.lt_size (show h.get? a=some _ from x)
 |ext φ=>obtain⟨_,⟨_,e⟩,_⟩:=x;exact Heap.lt_size e
theorem Paired.mapP{α β:Type}{F G:α->β->Prop}:∀{l₁:List α} {l₂:List β},Paired F l₁ l₂->(∀a b,F a b->G a b)->Paired G l₁ l₂
 |_,_,.nil,_=>.nil
 |_,_,.cons r t,f=>.cons (f _ _ r) (Paired.mapP t f)
theorem Paired.imp'{α β:Type}{F G:α->β->Prop}(f:∀a b,F a b->G a b){l₁:List α}{l₂:List β}(r:Paired F l₁ l₂):Paired G l₁ l₂:=Paired.mapP r f
theorem ObjOk.stay(x:ObjOk P w H h a o)(k:∀b u,(b=a∨H b=some (.own a))->h.get? b=some u->h'.get? b=some u)
  (ho:∀b,H b=some (.own a)->H' b=some (.own a)) (ht:∀b xs,H b=some (.tup xs)->H' b=some (.tup xs)):ObjOk P w H' h' a o:=by
 induction o with
 |lst xs=>obtain⟨z,its,n,r,e⟩:=x;exact⟨z,its,n,r,k _ _ (.inl rfl) e⟩
 |tup xs=>obtain⟨z,its,r,ob,e,c⟩:=x;exact⟨z,its,r,ob,k _ _ (.inl rfl) e,c⟩
 |dK kvs=>obtain⟨z,y,vs,r,ob,es,ep,e,c⟩:=x;exact⟨z,y,vs,r,ob,es,ep,k _ _ (.inl rfl) e,c⟩
 |dT kvs=>
  obtain⟨z,y,xs,r,ob,es,ep,e,c⟩:=x
  exact⟨z,y,xs,Paired.mapP r fun p q z=>⟨z.1,ht _ _ z.2.1,z.2.2⟩,ob,es,ep,k _ _ (.inl rfl) e,c⟩
 |set S n=>obtain⟨ob,es,ep,t,e,c⟩:=x;exact⟨ob,es,ep,t,k _ _ (.inl rfl) e,c⟩
 |ins C dx fs=>
  obtain⟨d,z,ne,e,mA,⟨od,es,ep,e2,c⟩,r⟩:=x
  exact⟨ho _ d,z,ne,k _ _ (.inl rfl) e,mA,⟨od,es,ep,k _ _ (.inr d) e2,c⟩,r⟩
 |own y=>obtain⟨ob,e⟩:=x;exact⟨ob,k _ _ (.inl rfl) e⟩
 |xd fs=>obtain⟨mA,⟨od,es,ep,e,c⟩,r⟩:=x;exact⟨mA,⟨od,es,ep,k _ _ (.inl rfl) e,c⟩,r⟩
 |rng lo hi=>obtain⟨t,u,v,e⟩:=x;exact⟨t,u,v,k _ _ (.inl rfl) e⟩
 |frz ob u ih=>obtain⟨e,q⟩:=x;exact⟨k _ _ (.inl rfl) e,ih q⟩
 |tbl ps=>
  have e:h.get? a=some {cls:=.none,data:=.fields ps}:=x
  show h'.get? a=some {cls:=.none,data:=.fields ps}
  exact k a _ (.inl rfl) e
 |met f y=>
  have e:h.get? a=some (PySem.W.methodObj (.ref f) (.ref y)):=x
  show h'.get? a=some (PySem.W.methodObj (.ref f) (.ref y))
  exact k a _ (.inl rfl) e
 |ext φ=>obtain⟨p,⟨o,e⟩,st⟩:=x;exact⟨st _ _ p fun o q=>k _ _ (.inl rfl) q,⟨o,k _ _ (.inl rfl) e⟩,st⟩
theorem HOk.lt(x:HOk P w H h)(e:H a=some o):a<h.objs.size:=(x a o e).lt
theorem HOk.fresh(x:HOk P w H h)(e:h.objs.size<=a):H a=none:=by
 cases q:H a with
 |none=>rfl
 |some u=>exact absurd (Nat.lt_of_lt_of_le (x.lt q) e) (Nat.lt_irrefl _)
theorem HOk.kept(x:HOk P w H h)(k:∀b u,h.get? b=some u->h'.get? b=some u):HOk P w H h':=fun a o e=>
 (x a o e).stay (fun b u _ q=>k b u q) (fun _ q=>q) fun _ _ q=>q
theorem HOk.laid(x:HOk P w H h)(k:∀b u,h.get? b=some u->h'.get? b=some u)(hp:h.objs.size<=a)(new:ObjOk P w (upd H a o) h' a o):HOk P w (upd H a o) h':=fun b u e=>by
 have hn:=x.fresh hp
 by_cases hb:b=a
 ·subst hb;rw[aaA] at e;cases e;exact new
 ·rw[aaD hb] at e
  exact (x b u e).stay (fun c v _ q=>k c v q) (fun c q=>by rw[aaD (aaF q hn)];exact q) fun c xs q=>by rw[aaD (aaF q hn)];exact q
end
def Rd(H:Hp)(a:Addr)(u:HO):Prop:=H a=some u∨∃o,H a=some (.frz o u)
theorem Rd.ok{P:Program}{w:World}{H:Hp}{h:Heap}{a:Addr}{u:HO}(r:Rd H a u)(x:HOk P w H h):ObjOk P w H h a u:=by
 rcases r with r | ⟨o,r⟩
 ·exact x a u r
 ·obtain⟨_,q⟩:=x a _ r
  exact q
def Mut:Option HO->Prop
 |some (.lst _)=>True
 |some (.dK _)=>True
 |some (.dT _)=>True
 |some (.set _ _)=>True
 |some (.ins _ _ _)=>True
 |some (.ext _)=>True
 |_=>False
section
variable{P:Program}{w:World}{H:Hp}{h h':Heap}{x e:Addr}{o':HO}
theorem HOk.write(ok:HOk P w H h)(mu:Mut (H x))(he:e=x∨H e=some (.own x))(k:∀b u,b≠e->h.get? b=some u->h'.get? b=some u)(heo:∃u,h'.get? e=some u)
  (new:ObjOk P w (upd H x o') h' x o'):HOk P w (upd H x o') h':=fun b u q=>by
 have nown:∀c y,H c=some (.own y)->c≠x:=fun c y r z=>by subst z;rw[r] at mu;exact mu
 have ntup:∀c xs,H c=some (.tup xs)->c≠x:=fun c xs r z=>by subst z;rw[r] at mu;exact mu
 by_cases hb:b=x
 ·subst hb;rw[aaA] at q;cases q;exact new
 ·rw[aaD hb] at q
  by_cases hbe:b=e
  ·have q':H b=some (.own x):=by
    rcases he with z | z
    ·exact absurd (hbe.trans z) hb
    ·rw[hbe];exact z
   rw[q] at q';cases q'
   obtain⟨v,hv⟩:=heo
   exact⟨v,by rw[hbe];exact hv⟩
  ·refine (ok b u q).stay (fun c v hc r=>k c v ?_ r) (fun c r=>by rw[aaD (nown c b r)];exact r) fun c xs r=>by rw[aaD (ntup c xs r)];exact r
   rcases hc with rfl | hc
   ·exact hbe
   ·rintro rfl
    rcases he with z | z
    ·exact nown c b hc z
    ·rw[hc] at z;cases z;exact hb rfl
end
structure Un(fs ex:List Addr)(H H':Hp)(h h':Heap):Prop where
 keep:∀b o,h.get? b=some o->H b=none->b∉fs->b∉ex->h'.get? b=some o
 slot:∀b o,h.get? b=some o->H b=none->b∈fs->b∉ex->∃sl,h'.get? b=some {o with slots:=sl}
 free:∀b o,h.get? b=some o->H b=none->b∉ex->H' b=none
 there:∀b o,h.get? b=some o->b∉ex->∃o',h'.get? b=some o'
 tups:∀b xs,H b=some (.tup xs)->H' b=some (.tup xs)
 frzs:∀b o u,H b=some (.frz o u)->H' b=some (.frz o u)
 tbls:∀b ps,H b=some (.tbl ps)->∃more,H' b=some (.tbl (ps++more))
section
variable{fs fs' ex ex':List Addr}{H H1 H2:Hp}{h h1 h2 h':Heap}{a x e:Addr}{o:HO}
theorem Un.any(u:Un fs ex H H1 h h1){b:Addr}{ob:Obj}(q:h.get? b=some ob)(n:H b=none)(hx:b∉ex):∃sl,h1.get? b=some {ob with slots:=sl}:=by
 by_cases hb:b∈fs
 ·exact u.slot b ob q n hb hx
 ·exact⟨ob.slots,u.keep b ob q n hb hx⟩
theorem Un.trans(a:Un fs ex H H1 h h1)(b:Un fs ex H1 H2 h1 h2):Un fs ex H H2 h h2 where
 keep:=fun c ob q n hc hx=>b.keep c ob (a.keep c ob q n hc hx) (a.free c ob q n hx) hc hx
 slot:=fun c ob q n hc hx=>by
  obtain⟨sl,e1⟩:=a.slot c ob q n hc hx
  obtain⟨sl',e2⟩:=b.slot c _ e1 (a.free c ob q n hx) hc hx
  exact⟨sl',e2⟩
 free:=fun c ob q n hx=>by
  obtain⟨o',e1⟩:=a.there c ob q hx
  exact b.free c o' e1 (a.free c ob q n hx) hx
 there:=fun c ob q hx=>by
  obtain⟨o',e1⟩:=a.there c ob q hx
  exact b.there c o' e1 hx
 tups:=fun c xs q=>b.tups c xs (a.tups c xs q)
 frzs:=fun c ob xs q=>b.frzs c ob xs (a.frzs c ob xs q)
 tbls:=fun c ps q=>by
  obtain⟨m1,e1⟩:=a.tbls c ps q
  obtain⟨m2,e2⟩:=b.tbls c _ e1
  exact⟨m1++m2,by rw[e2,Array.append_assoc]⟩
theorem Un.kept(k:∀b u,h.get? b=some u->h'.get? b=some u):Un fs ex H H h h':=
 ⟨fun b ob q _ _ _=>k b ob q,fun b ob q _ _ _=>⟨ob.slots,k b ob q⟩,fun _ _ _ n _=>n,fun b ob q _=>⟨ob,k b ob q⟩,fun _ _ q=>q,fun _ _ _ q=>q,fun _ ps q=>⟨#[],by rw[q];simp⟩⟩
theorem Un.refl:Un fs ex H H h h:=Un.kept fun _ _ q=>q
theorem Un.laid(k:∀b u,h.get? b=some u->h'.get? b=some u)(hp:h.objs.size<=a)(hn:H a=none):Un fs ex H (upd H a o) h h' where
 keep:=fun b u q _ _ _=>k b u q
 slot:=fun b u q _ _ _=>⟨u.slots,k b u q⟩
 free:=fun b u q n _=>by rw[aaD (Nat.ne_of_lt (Nat.lt_of_lt_of_le (Heap.lt_size q) hp))];exact n
 there:=fun b u q _=>⟨u,k b u q⟩
 tups:=fun b xs q=>by rw[aaD (aaF q hn)];exact q
 frzs:=fun b u xs q=>by rw[aaD (aaF q hn)];exact q
 tbls:=fun b ps q=>⟨#[],by rw[aaD (aaF q hn),q];simp⟩
theorem Un.write(mu:Mut (H x))(he:e=x∨H e=some (.own x))(k:∀b u,b≠e->h.get? b=some u->h'.get? b=some u)(heo:∃u,h'.get? e=some u):Un fs ex H (upd H x o) h h':=by
 have hx:∀b,H b=none->b≠x:=fun b n z=>by subst z;rw[n] at mu;exact mu
 have hb:∀b,H b=none->b≠e:=fun b n z=>by
  subst z
  rcases he with r | r
  ·exact hx b n r
  ·rw[n] at r;cases r
 have hm:∀b u,H b=some u->¬Mut (some u)->b≠x:=fun b u q nm z=>by subst z;rw[q] at mu;exact nm mu
 refine⟨fun b u q n _ _=>k b u (hb b n) q,fun b u q n _ _=>⟨u.slots,k b u (hb b n) q⟩,fun b u q n _=>by rw[aaD (hx b n)];exact n,fun b u q _=>?_,
  fun b xs q=>by rw[aaD (hm b _ q fun z=>z)];exact q,fun b u xs q=>by rw[aaD (hm b _ q fun z=>z)];exact q,fun b ps q=>⟨#[],by rw[aaD (hm b _ q fun z=>z),q];simp⟩⟩
 by_cases hbe:b=e
 ·subst hbe;exact heo
 ·exact⟨u,k b u hbe q⟩
end
def trk(h:Heap)(H:Hp):List Addr:=(List.range h.objs.size).filter fun a=>(H a).isSome
def acM(h:Heap)(H:Hp):Heap:=PySem.W.hideAll h (trk h H)
theorem adR(h:Heap)(H:Hp):(acM h H).objs.size=h.objs.size:=PySem.W.hideAll_size _ _
theorem aeP{h:Heap}{H:Hp}{b:Addr}{o:Obj}(e:h.get? b=some o)(n:H b=none):(acM h H).get? b=some o:=
 PySem.W.hideAll_get _ e fun hm=>by
  have q:(H b).isSome=true:=(List.mem_filter.mp hm).2
  rw[n] at q;simp at q
theorem afQ{h:Heap}{H:Hp}{b:Addr}{o:Obj}(e:(acM h H).get? b=some o):h.get? b=some o/\H b=none:=by
 have e':h.get? b=some o:=PySem.W.of_hideAll (trk h H) e
 refine⟨e',?_⟩
 cases q:H b with
 |none=>rfl
 |some x=>
  have hm:b∈trk h H:=List.mem_filter.mpr ⟨List.mem_range.mpr (Heap.lt_size e'),by simp[q]⟩
  have z:(acM h H).get? b=none:=PySem.W.hideAll_none (trk h H) hm
  rw[z] at e;cases e
def afN(g h:Heap)(L:Addr):List (Addr×Obj):=(List.range h.objs.size).filterMap fun a=>if a=L∨(g.get? a).isSome=true then none else (h.get? a).map fun o=>(a,o)
def rest(g h:Heap)(L d:Addr):List (Addr×Obj):=(afN g h L).filter fun p=>decide (p.1≠d)
structure Mod(K:PySem.W.Frag)(mg:Str->Option Value)(base:Heap):Prop where
 kin:K.In base
 glob:base.Ns mainGlobals mg
 blt:∃mb,base.Ns builtinsNs mb/\∀x:Str,x≠"__name__"->mb x=bootBuiltins x
 nolimit:base.NoLimit
structure Cx where
 prog:Program
 w:World
 K:PySem.W.Frag
 mg:Str->Option Value
 base:Heap
 A:Around
 N:List Str
 s₀:Shared
 H₀:Hp
 env:Env
 outer:List Env
 stack:List Env
 ex:List Addr
 fn:Str->Bool
 calm:Bool
 pn:List (Addr×Obj)
 xe:Value->Shared->Prop
def frs(l:List Env):List Addr:=l.filterMap (·.frame)
abbrev Cx.fs(X:Cx):List Addr:=frs X.outer
def Vis(sc:Scope)(x:Str):Prop:=sc.names.lookup x=some .local∨sc.names.lookup x=some .cell∨sc.names.lookup x=some .free
def Loc(sc:Scope)(x:Str):Prop:=sc.names.lookup x=some .local∨sc.names.lookup x=some .cell
def aiQ(env:Env)(h:Heap)(m:Str->Option Value)(x:Str)(u:Value):Prop:=
 (env.kindOf x=some .local/\m x=some u)∨((env.kindOf x=some .cell∨env.kindOf x=some .free)/\∃c,env.cells.lookup x=some c/\h.IsCell c (some u))
structure Cx.Ok(X:Cx):Prop where
 mod:Mod X.K X.mg X.base
 kind:X.env.scope.kind=.function
 glob:X.env.globals=mainGlobals
 blt:X.env.builtins=builtinsNs
 above:X.s₀.heap.objs.size<=X.env.locals
 inj:∀x y c,X.env.cells.lookup x=some c->X.env.cells.lookup y=some c->x=y
 has:∀x,(X.env.kindOf x=some .cell∨X.env.kindOf x=some .free)->∃c,X.env.cells.lookup x=some c
 cab:∀x c,X.fn x=true->X.env.cells.lookup x=some c->X.s₀.heap.objs.size<=c
 hd:X.calm=true->X.A.handled=none
 frames:X.A.frames=some X.stack
 stk:X.stack=X.outer∨(X.stack=X.env::X.outer/\X.env.frame=some X.env.locals)
 exf:∀b∈X.ex,b≠X.env.locals/\∀x c,X.env.cells.lookup x=some c->c≠b
 bs:∀b o,X.base.get? b=some o->X.s₀.heap.get? b=some o/\X.H₀ b=none
 bsz:X.base.objs.size<=X.s₀.heap.objs.size
 noex:∀b o,X.base.get? b=some o->b∉X.ex
 exfs:∀b∈X.ex,b∉X.fs
 funs:X.s₀.heap.FunFrames X.base X.outer
 frf:∀b∈X.fs,X.H₀ b=none
structure Inv(X:Cx)(pins:List (Addr×Obj))(σ:List (Option V))(H:Hp)(s:Shared):Prop where
 ok:X.Ok
 os:s.os=X.s₀.os
 bare:AllBare s.gens
 base:Un X.fs X.ex X.H₀ H X.s₀.heap s.heap
 loc:∃m,s.heap.Ns X.env.locals m/\∀(i:Nat) (x:Str) (v:V),X.N[i]? =some x->σ[i]? =some (some v)->Vis X.env.scope x->∃u,RelV v u/\aiQ X.env s.heap m x u
 cell:∀x c,X.env.cells.lookup x=some c->∃v,s.heap.IsCell c v
 free:H X.env.locals=none
 freeC:∀x c,X.env.cells.lookup x=some c->H c=none
 pin:∀p∈X.pn++pins,s.heap.get? p.1=some p.2/\H p.1=none/\p.1≠X.env.locals/\p.1∉X.fs/\∀v,p.2.data≠ .cell v
 hok:HOk X.prog X.w H s.heap
 len:σ.length=X.N.length
section
variable{X:Cx}{pins:List (Addr×Obj)}{σ:List (Option V)}{H H':Hp}{s:Shared}{h':Heap}
theorem Cx.Ok.nofr(ok:X.Ok){b:Addr}{o:Obj}(e:X.base.get? b=some o):b∉X.fs:=fun hb=>by
 have:=(ok.funs.mem hb).1
 rw[e] at this;cases this
theorem Inv.bs(I:Inv X pins σ H s):∀b o,X.base.get? b=some o->s.heap.get? b=some o/\H b=none:=fun b o e=>
 ⟨I.base.keep b o (I.ok.bs b o e).1 (I.ok.bs b o e).2 (I.ok.nofr e) (I.ok.noex b o e),I.base.free b o (I.ok.bs b o e).1 (I.ok.bs b o e).2 (I.ok.noex b o e)⟩
theorem Inv.bk(I:Inv X pins σ H s):∀b o,X.base.get? b=some o->s.heap.get? b=some o:=fun b o e=>(I.bs b o e).1
theorem Inv.mod(I:Inv X pins σ H s):Mod X.K X.mg X.base:=I.ok.mod
theorem Inv.kIn(I:Inv X pins σ H s):X.K.In s.heap:=I.ok.mod.kin.keeps I.bk
theorem Inv.lt(I:Inv X pins σ H s):X.env.locals<s.heap.objs.size:=let ⟨_,hn,_⟩:=I.loc;hn.lt
theorem Inv.sz(I:Inv X pins σ H s):X.s₀.heap.objs.size<=s.heap.objs.size:=Nat.le_trans I.ok.above (Nat.le_of_lt I.lt)
theorem Inv.nofs(I:Inv X pins σ H s){a:Addr}(h:s.heap.objs.size<=a):a∉X.fs:=fun hb=>by
 obtain⟨_,o,ho,_⟩:=I.ok.funs.mem hb
 exact absurd (Nat.lt_of_lt_of_le (Heap.lt_size ho) (Nat.le_trans I.sz h)) (Nat.lt_irrefl _)
theorem Inv.cne(I:Inv X pins σ H s):∀x c,X.env.cells.lookup x=some c->c≠X.env.locals:=fun x c e z=>by
 obtain⟨v,o,ho,hd⟩:=I.cell x c e
 obtain⟨m,⟨o',es,ep,ho',hd',_⟩,_⟩:=I.loc
 rw[z,ho'] at ho;cases ho;rw[hd'] at hd;cases hd
theorem Inv.funs(I:Inv X pins σ H s):s.heap.FunFrames X.base X.outer:=by
 have all:∀(l:List Env),(∀b∈frs l,b∈X.fs)->X.s₀.heap.FunFrames X.base l->s.heap.FunFrames X.base l:=by
  intro l
  induction l with
  |nil=>intro _ _;trivial
  |cons env r ih=>
   intro hs hl
   obtain⟨hk,⟨L,o,hf,hn,ho,hd⟩,hr⟩:=hl
   have hL:L∈X.fs:=hs L (by unfold frs;rw[List.filterMap_cons,hf];exact List.mem_cons_self)
   obtain⟨sl,e⟩:=I.base.slot L o ho (I.ok.frf L hL) hL fun z=>I.ok.exfs L z hL
   exact⟨hk,⟨L,_,hf,hn,e,hd⟩,ih (fun b hb=>hs b (by unfold frs;rw[List.filterMap_cons,hf];exact List.mem_cons_of_mem _ hb)) hr⟩
 exact all X.outer (fun _ hb=>hb) I.ok.funs
theorem Inv.stack(I:Inv X pins σ H s):s.heap.FunFrames X.base X.stack:=by
 rcases I.ok.stk with e | ⟨e,hf⟩
 ·rw[e];exact I.funs
 ·rw[e]
  obtain⟨m,hn,_⟩:=I.loc
  refine .cons (by rw[I.ok.kind];decide) hf hn ?_ I.funs
  exact Heap.get?_none_of_le (Nat.le_trans I.ok.bsz I.ok.above)
theorem Inv.stkSub(I:Inv X pins σ H s):∀b∈frs X.stack,b∈X.env.locals::X.fs:=fun b hb=>by
 rcases I.ok.stk with e | ⟨e,hf⟩
 ·rw[e] at hb;exact List.mem_cons_of_mem _ hb
 ·rw[e] at hb
  unfold frs at hb
  rw[List.filterMap_cons,hf] at hb
  exact hb
theorem Inv.stkFree(I:Inv X pins σ H s):∀b∈frs X.stack,H b=none:=fun b hb=>by
 rcases List.mem_cons.mp (I.stkSub b hb) with e | hb
 ·rw[e];exact I.free
 ·obtain⟨_,o,ho,_⟩:=I.ok.funs.mem hb
  exact I.base.free b o ho (I.ok.frf b hb) fun z=>I.ok.exfs b z hb
theorem Inv.step{g':Array GenState}{t':Nat}{d':Drawn}{ch:List Addr}(I:Inv X pins σ H s)
  (hch:∀b∈ch,(b∈X.ex∨X.s₀.heap.objs.size<=b)/\b≠X.env.locals/\(∀x c,X.env.cells.lookup x=some c->c≠b)/\∀p∈X.pn++pins,p.1≠b)
  (keep:∀b o,b≠X.env.locals->b∉X.fs->b∉ch->s.heap.get? b=some o->H b=none->h'.get? b=some o)
  (slot:∀b o,b≠X.env.locals->b∈X.fs->b∉ch->s.heap.get? b=some o->H b=none->∃sl,h'.get? b=some {o with slots:=sl}) (free:∀b o,b∉ch->s.heap.get? b=some o->H b=none->H' b=none)
  (there:∀b o,b∉ch->s.heap.get? b=some o->∃o',h'.get? b=some o')
  (tups:∀b xs,H b=some (.tup xs)->H' b=some (.tup xs)) (frzs:∀b o u,H b=some (.frz o u)->H' b=some (.frz o u)) (tbls:∀b ps,H b=some (.tbl ps)->∃more,H' b=some (.tbl (ps++more)))
  (ns:∀m,s.heap.Ns X.env.locals m->h'.Ns X.env.locals m) (hok:HOk X.prog X.w H' h') (hg:AllBare g'):
  Inv X pins σ H' {s with heap:=h',gens:=g',drawn:=d',toks:=t'}:=by
 have neL:∀b o,X.s₀.heap.get? b=some o->b≠X.env.locals:=fun b o e=>Nat.ne_of_lt (Nat.lt_of_lt_of_le (Heap.lt_size e) I.ok.above)
 have neC:∀b o,X.s₀.heap.get? b=some o->b∉X.ex->b∉ch:=fun b o e hx hb=>by
  rcases (hch b hb).1 with z | z
  ·exact hx z
  ·exact absurd (Nat.lt_of_lt_of_le (Heap.lt_size e) z) (Nat.lt_irrefl _)
 have cellK:∀x c,X.env.cells.lookup x=some c->∀v,s.heap.IsCell c v->h'.IsCell c v:=fun x c e v ⟨o,ho,hd⟩=>by
  have nch:c∉ch:=fun z=>(hch c z).2.2.1 x c e rfl
  by_cases hc:c∈X.fs
  ·obtain⟨sl,q⟩:=slot c o (I.cne x c e) hc nch ho (I.freeC x c e)
   exact⟨_,q,hd⟩
  ·exact⟨o,keep c o (I.cne x c e) hc nch ho (I.freeC x c e),hd⟩
 refine⟨I.ok,I.os,hg,⟨fun b o e n hb hx=>?_,fun b o e n hb hx=>?_,fun b o e n hx=>?_,fun b o e hx=>?_,fun b xs e=>tups b xs (I.base.tups b xs e),fun b o xs e=>frzs b o xs (I.base.frzs b o xs e),fun b ps e=>?_⟩,?_,fun x c e=>?_,?_,fun x c e=>?_,fun p hp=>?_,hok,I.len⟩
 ·exact keep b o (neL b o e) hb (neC b o e hx) (I.base.keep b o e n hb hx) (I.base.free b o e n hx)
 ·obtain⟨sl,e1⟩:=I.base.slot b o e n hb hx
  obtain⟨sl',e2⟩:=slot b _ (neL b o e) hb (neC b o e hx) e1 (I.base.free b o e n hx)
  exact⟨sl',e2⟩
 ·obtain⟨o',e1⟩:=I.base.there b o e hx
  exact free b o' (neC b o e hx) e1 (I.base.free b o e n hx)
 ·obtain⟨o',e1⟩:=I.base.there b o e hx
  exact there b o' (neC b o e hx) e1
 ·obtain⟨m1,e1⟩:=I.base.tbls b ps e
  obtain⟨m2,e2⟩:=tbls b _ e1
  exact⟨m1++m2,by rw[e2,Array.append_assoc]⟩
 ·obtain⟨m,hn,hl⟩:=I.loc
  refine⟨m,ns m hn,fun i x v e1 e2 e3=>?_⟩
  obtain⟨u,r,l⟩:=hl i x v e1 e2 e3
  refine⟨u,r,?_⟩
  rcases l with l | ⟨k,c,e,z⟩
  ·exact .inl l
  ·exact .inr ⟨k,c,e,cellK x c e _ z⟩
 ·obtain⟨v,z⟩:=I.cell x c e
  exact⟨v,cellK x c e v z⟩
 ·obtain⟨m,⟨o,_,_,ho,_⟩,_⟩:=I.loc
  exact free _ o (fun z=>(hch _ z).2.1 rfl) ho I.free
 ·obtain⟨v,o,ho,hd⟩:=I.cell x c e
  exact free c o (fun z=>(hch c z).2.2.1 x c e rfl) ho (I.freeC x c e)
 ·obtain⟨e,n,ne,nf,d⟩:=I.pin p hp
  have nch:p.1∉ch:=fun z=>(hch p.1 z).2.2.2 p hp rfl
  exact⟨keep p.1 p.2 ne nf nch e n,free p.1 p.2 nch e n,ne,nf,d⟩
theorem Inv.un{t':Nat}(I:Inv X pins σ H s)(u:Un X.fs [] H H' s.heap h')(hok:HOk X.prog X.w H' h'):Inv X pins σ H' {s with heap:=h',toks:=t'}:=by
 obtain⟨m,⟨o,es,ep,ho,r⟩,_⟩:=id I.loc
 obtain⟨sl,hL⟩:=u.any ho I.free (by simp)
 exact I.step (g':=s.gens) (d':=s.drawn) (ch:=[]) (fun _ z=>nomatch z) (fun b o _ hb _ e n=>u.keep b o e n hb (by simp)) (fun b o _ hb _ e n=>u.slot b o e n hb (by simp)) (fun b o _ e n=>u.free b o e n (by simp)) (fun b o _ e=>u.there b o e (by simp)) u.tups u.frzs u.tbls (fun m' hm=>by
  obtain⟨o',es',ep',ho',r'⟩:=hm
  rw[ho] at ho';cases ho'
  exact⟨_,es',ep',hL,r'⟩) hok I.bare
theorem Inv.call{g':Array GenState}{t':Nat}{d':Drawn}{ch:List Addr}(I:Inv X pins σ H s)(u:Un (frs X.stack) ch H H' s.heap h')(hok:HOk X.prog X.w H' h')(hg:AllBare g')
  (hch:∀b∈ch,(b∈X.ex∨X.s₀.heap.objs.size<=b)/\b≠X.env.locals/\(∀x c,X.env.cells.lookup x=some c->c≠b)/\∀p∈X.pn++pins,p.1≠b):
  Inv X pins σ H' {s with heap:=h',gens:=g',drawn:=d',toks:=t'}:=by
 obtain⟨m,⟨o,es,ep,ho,r⟩,_⟩:=id I.loc
 obtain⟨sl,hL⟩:=u.any ho I.free fun z=>(hch _ z).2.1 rfl
 exact I.step (ch:=ch) hch (fun b o hL hb hc e n=>u.keep b o e n (fun z=>(List.mem_cons.mp (I.stkSub b z)).elim hL hb) hc) (fun b o _ _ hc e n=>u.any e n hc) (fun b o hc e n=>u.free b o e n hc) (fun b o hc e=>u.there b o e hc) u.tups u.frzs u.tbls (fun m' hm=>by
  obtain⟨o',es',ep',ho',r'⟩:=hm
  rw[ho] at ho';cases ho'
  exact⟨_,es',ep',hL,r'⟩) hok hg
theorem Inv.turned{t':Nat}{it:Addr}(I:Inv X pins σ H s)(k:∀b o,b≠it->s.heap.get? b=some o->h'.get? b=some o)(hn:H it=none)(hL:it≠X.env.locals)
  (h1:it∈X.ex∨X.s₀.heap.objs.size<=it) (h2:∀x c,X.env.cells.lookup x=some c->c≠it) (h3:∀p∈X.pn++pins,p.1≠it):Inv X pins σ H {s with heap:=h',toks:=t'}:=by
 have nit:∀b u,H b=some u->b≠it:=fun b u e z=>by rw[z,hn] at e;cases e
 refine I.step (g':=s.gens) (d':=s.drawn) (ch:=[it]) (fun b hb=>?_) (fun b o _ _ hc e _=>k b o (fun z=>hc (by simp[z])) e) (fun b o _ _ hc e _=>⟨o.slots,k b o (fun z=>hc (by simp[z])) e⟩) (fun _ _ _ _ n=>n)
  (fun b o hc e=>⟨o,k b o (fun z=>hc (by simp[z])) e⟩) (fun _ _ e=>e) (fun _ _ _ e=>e) (fun b ps e=>⟨#[],by rw[e];simp⟩) (fun m hm=>?_) (fun b u e=>?_) I.bare
 ·have e:b=it:=by simpa using hb
  subst e
  exact⟨h1,hL,h2,h3⟩
 ·obtain⟨o,es,ep,ho,r⟩:=hm
  exact⟨o,es,ep,k _ o (Ne.symm hL) ho,r⟩
 ·refine (I.hok b u e).stay (fun c v hc q=>k c v ?_ q) (fun _ q=>q) fun _ _ q=>q
  rcases hc with z | z
  ·rw[z];exact nit b u e
  ·exact nit c _ z
theorem Inv.tok(I:Inv X pins σ H s)(t:Nat):Inv X pins σ H {s with toks:=t}:=I.un (h':=s.heap) (t':=t) Un.refl I.hok
theorem Inv.kept{t':Nat}(I:Inv X pins σ H s)(k:∀b u,s.heap.get? b=some u->h'.get? b=some u):Inv X pins σ H {s with heap:=h',toks:=t'}:=I.un (Un.kept k) (I.hok.kept k)
theorem Inv.laid{a:Addr}{o:HO}{t':Nat}(I:Inv X pins σ H s)(k:∀b u,s.heap.get? b=some u->h'.get? b=some u)(hp:s.heap.objs.size<=a)(new:ObjOk X.prog X.w (upd H a o) h' a o):
  Inv X pins σ (upd H a o) {s with heap:=h',toks:=t'}:=I.un (Un.laid k hp (I.hok.fresh hp)) (I.hok.laid k hp new)
theorem Inv.write{x e:Addr}{o:HO}{t':Nat}(I:Inv X pins σ H s)(mu:Mut (H x))(he:e=x∨H e=some (.own x))(k:∀b u,b≠e->s.heap.get? b=some u->h'.get? b=some u)(heo:∃u,h'.get? e=some u)
  (new:ObjOk X.prog X.w (upd H x o) h' x o):Inv X pins σ (upd H x o) {s with heap:=h',toks:=t'}:=I.un (Un.write mu he k heo) (I.hok.write mu he k heo new)
theorem Inv.pins_of{pins':List (Addr×Obj)}(I:Inv X pins σ H s)(h:∀p∈pins',s.heap.get? p.1=some p.2/\H p.1=none/\p.1≠X.env.locals/\p.1∉X.fs/\∀v,p.2.data≠ .cell v):Inv X pins' σ H s:=
 ⟨I.ok,I.os,I.bare,I.base,I.loc,I.cell,I.free,I.freeC,fun p hp=>(List.mem_append.mp hp).elim (fun z=>I.pin p (List.mem_append_left _ z)) (h p),I.hok,I.len⟩
theorem abQ{N:List Str}(hN:N.Nodup){i j:Nat}{x:Str}(a:N[i]? =some x)(b:N[j]? =some x):i=j:=by
 obtain⟨h1,e1⟩:=List.getElem?_eq_some_iff.mp a
 obtain⟨h2,e2⟩:=List.getElem?_eq_some_iff.mp b
 exact (List.getElem_inj hN).mp (e1.trans e2.symm)
theorem ad5{M:Model}{A:Around}{E:Value->Shared->Prop}{i:Nat}{x:Str}{v:V}{u:Value}{Q:Unit->Shared->Prop}(I:Inv X pins σ H s)(hN:X.N.Nodup)(hi:X.N[i]? =some x)(hx:Loc X.env.scope x)(r:RelV v u)
  (h:∀s',Inv X pins (σ.set i (some v)) H s'->(∃a,Heap.SameBut a s.heap s'.heap/\(a=X.env.locals∨X.env.cells.lookup x=some a))->Q () s') (hf:X.fn x=true∨X.env.scope.names.lookup x=some .local:=by first | exact .inl rfl | exact .inr rfl | assumption):wpAny M A (storeName X.env x u) Q E s:=by
 obtain⟨m,hn,hl⟩:=id I.loc
 have hcls:(X.env.scope.kind== .class||(X.env.scope.kind== .module&&X.env.locals !=X.env.globals))=false:=by rw[I.ok.kind];rfl
 have hiσ:i<σ.length:=by rw[I.len];exact (List.getElem?_eq_some_iff.mp hi).1
 have cne:=I.cne
 have tracked:∀{a:Addr} {h':Heap},(∃o,s.heap.get? a=some o/\H a=none)->Heap.SameBut a s.heap h'->HOk X.prog X.w H h':=fun {a h'} ha hs b ob e=>by
  obtain⟨_,_,hfree⟩:=ha
  refine (I.hok b ob e).stay (fun c w' hc q=>(hs.2 c ?_).trans q) (fun _ q=>q) fun _ _ q=>q
  rintro rfl
  rcases hc with rfl | hc
  ·rw[hfree] at e;cases e
  ·rw[hfree] at hc;cases hc
 rcases hx with hk | hk
 ·refine wpAny_storeName_local hk hn (fun h' hn' hs=>?_) hcls
  obtain⟨oL,_,_,hoL,_⟩:=id hn
  refine h _ ⟨I.ok,I.os,I.bare,⟨fun b o e n hb hx=>?_,fun b o e n hb hx=>?_,I.base.free,fun b o e hx=>?_,I.base.tups,I.base.frzs,I.base.tbls⟩,⟨_,hn',fun j y v' e1 e2 e3=>?_⟩,fun y c e=>?_,I.free,I.freeC,fun p hp=>?_,tracked ⟨oL,hoL,I.free⟩ hs,by simpa using I.len⟩ ⟨_,hs,.inl rfl⟩
  ·exact (hs.2 b (Nat.ne_of_lt (Nat.lt_of_lt_of_le (Heap.lt_size e) I.ok.above))).trans (I.base.keep b o e n hb hx)
  ·obtain⟨sl,e1⟩:=I.base.slot b o e n hb hx
   exact⟨sl,(hs.2 b (Nat.ne_of_lt (Nat.lt_of_lt_of_le (Heap.lt_size e) I.ok.above))).trans e1⟩
  ·obtain⟨o',e1⟩:=I.base.there b o e hx
   exact⟨o',(hs.2 b (Nat.ne_of_lt (Nat.lt_of_lt_of_le (Heap.lt_size e) I.ok.above))).trans e1⟩
  ·by_cases hj:j=i
   ·subst hj
    rw[hi] at e1;cases e1
    rw[List.getElem?_set_self hiσ] at e2
    cases e2
    exact⟨u,r,.inl ⟨hk,by simp⟩⟩
   ·rw[List.getElem?_set_ne (Ne.symm hj)] at e2
    obtain⟨u',r',q⟩:=hl j y v' e1 e2 e3
    refine⟨u',r',?_⟩
    rcases q with ⟨k,e⟩ | ⟨k,c,e,z⟩
    ·refine .inl ⟨k,?_⟩
     have:y≠x:=fun e=>hj (abQ hN e1 (e▸hi))
     simp[this,e]
    ·exact .inr ⟨k,c,e,z.sameBut hs (cne y c e)⟩
  ·obtain⟨w',z⟩:=I.cell y c e
   exact⟨w',z.sameBut hs (cne y c e)⟩
  ·obtain⟨e,n,ne,nf,d⟩:=I.pin p hp
   exact⟨(hs.2 p.1 ne).trans e,n,ne,nf,d⟩
 ·have hfn:X.fn x=true:=by
   rcases hf with z | z
   ·exact z
   ·rw[z] at hk;cases hk
  obtain⟨c,hc⟩:=I.ok.has x (.inl hk)
  obtain⟨w',z⟩:=I.cell x c hc
  refine wpAny_storeName_cell I.ok.kind hk hc z (fun h' hc' hs=>?_)
  obtain⟨oc,hoc,hocd⟩:=id z
  refine h {s with heap:=h'} ⟨I.ok,I.os,I.bare,⟨fun b o e n hb hx=>?_,fun b o e n hb hx=>?_,I.base.free,fun b o e hx=>?_,I.base.tups,I.base.frzs,I.base.tbls⟩,⟨m,hn.sameBut hs (Ne.symm (cne x c hc)),fun j y v' e1 e2 e3=>?_⟩,fun y c' e=>?_,I.free,I.freeC,fun p hp=>?_,tracked ⟨oc,hoc,I.freeC x c hc⟩ hs,by simpa using I.len⟩ ⟨c,hs,.inr hc⟩
  ·exact (hs.2 b (Nat.ne_of_lt (Nat.lt_of_lt_of_le (Heap.lt_size e) (I.ok.cab x c hfn hc)))).trans (I.base.keep b o e n hb hx)
  ·obtain⟨sl,e1⟩:=I.base.slot b o e n hb hx
   exact⟨sl,(hs.2 b (Nat.ne_of_lt (Nat.lt_of_lt_of_le (Heap.lt_size e) (I.ok.cab x c hfn hc)))).trans e1⟩
  ·obtain⟨o',e1⟩:=I.base.there b o e hx
   exact⟨o',(hs.2 b (Nat.ne_of_lt (Nat.lt_of_lt_of_le (Heap.lt_size e) (I.ok.cab x c hfn hc)))).trans e1⟩
  ·by_cases hj:j=i
   ·subst hj
    rw[hi] at e1;cases e1
    rw[List.getElem?_set_self hiσ] at e2
    cases e2
    exact⟨u,r,.inr ⟨.inl hk,c,hc,hc'⟩⟩
   ·rw[List.getElem?_set_ne (Ne.symm hj)] at e2
    obtain⟨u',r',q⟩:=hl j y v' e1 e2 e3
    refine⟨u',r',?_⟩
    rcases q with q | ⟨k,c',e,z'⟩
    ·exact .inl q
    ·refine .inr ⟨k,c',e,z'.sameBut hs ?_⟩
     rintro rfl
     exact hj (abQ hN e1 (I.ok.inj _ _ _ e hc▸hi))
  ·by_cases hcc:c'=c
   ·subst hcc;exact⟨_,hc'⟩
   ·obtain⟨w2,z2⟩:=I.cell y c' e
    exact⟨w2,z2.sameBut hs hcc⟩
  ·obtain⟨e,n,ne,nf,d⟩:=I.pin p hp
   refine⟨(hs.2 p.1 ?_).trans e,n,ne,nf,d⟩
   intro q
   rw[q,hoc] at e
   have q':oc=p.2:=Option.some.inj e
   exact d w' (by rw[←q'];exact hocd)
theorem aa9{M:Model}{A:Around}{E:Value->Shared->Prop}{i:Nat}{x:Str}{v:V}{u:Value}{Q:Unit->Shared->Prop}(I:Inv X pins σ H s)(hN:X.N.Nodup)(hi:X.N[i]? =some x)(hx:Loc X.env.scope x)(r:RelV v u)
  (h:∀s',Inv X pins (σ.set i (some v)) H s'->Q () s') (hf:X.fn x=true∨X.env.scope.names.lookup x=some .local:=by first | exact .inl rfl | exact .inr rfl | assumption):wpAny M A (storeName X.env x u) Q E s:=
 ad5 I hN hi hx r (fun s' I' _=>h s' I') hf
theorem Inv.call'{s':Shared}{ch:List Addr}(I:Inv X pins σ H s)(ho:s'.os=s.os)(u:Un (frs X.stack) ch H H' s.heap s'.heap)(hok:HOk X.prog X.w H' s'.heap)(hg:AllBare s'.gens)
  (hch:∀b∈ch,(b∈X.ex∨X.s₀.heap.objs.size<=b)/\b≠X.env.locals/\(∀x c,X.env.cells.lookup x=some c->c≠b)/\∀p∈X.pn++pins,p.1≠b):Inv X pins σ H' s':=by
 obtain⟨h',g',d',t',o'⟩:=s'
 have e:o'=s.os:=ho
 subst e
 exact I.call (g':=g') (t':=t') (d':=d') u hok hg hch
end
abbrev XK:=Value->Option Addr->Hp->Prop
abbrev St:=List (Option V)
abbrev VK:=V->Hp->Prop
abbrev TE:=St->Hp->VK->Prop
abbrev TT:=St->Hp->(Bool->Hp->Prop)->Prop
abbrev TA:=St->Hp->(List V->Hp->Prop)->Prop
structure Ends where
 nx:St->Hp->Prop
 rt:VK
 bk:St->Hp->Prop:=fun _ _=>False
 ct:St->Hp->Prop:=fun _ _=>False
abbrev TS:=Ends->St->Hp->Prop
def EP(X:Cx)(pins:List (Addr×Obj))(σ:St)(Q:VK)(u:Value)(s':Shared):Prop:=∃v H',Inv X pins σ H' s'/\RelV v u/\Q v H'
def TP(X:Cx)(pins:List (Addr×Obj))(σ:St)(Q:Bool->Hp->Prop)(b:Bool)(s':Shared):Prop:=∃H',Inv X pins σ H' s'/\Q b H'
def AP(X:Cx)(pins:List (Addr×Obj))(σ:St)(Q:List V->Hp->Prop)(us:List Value)(s':Shared):Prop:=∃vs H',Inv X pins σ H' s'/\Vals vs us/\Q vs H'
def SP(X:Cx)(pins:List (Addr×Obj))(D:Ends)(f:Flow)(s':Shared):Prop:=
 match f with
 |.next=>∃σ' H',Inv X pins σ' H' s'/\D.nx σ' H'
 |.brk=>∃σ' H',Inv X pins σ' H' s'/\D.bk σ' H'
 |.cont=>∃σ' H',Inv X pins σ' H' s'/\D.ct σ' H'
 |.ret u=>∃v σ' H',Inv X pins σ' H' s'/\RelV v u/\D.rt v H'
def PE(X:Cx)(e:Expr)(t:TE):Prop:=
 ∀(pins:List (Addr×Obj)) (s:Shared) (σ:St) (H:Hp) (Q:VK),Inv X pins σ H s->t σ H Q->wpAny (model X.prog X.w) X.A (eval e X.env) (EP X pins σ Q) X.xe s
def PT(X:Cx)(e:Expr)(t:TT):Prop:=
 ∀(pins:List (Addr×Obj)) (s:Shared) (σ:St) (H:Hp) (Q:Bool->Hp->Prop),Inv X pins σ H s->t σ H Q->wpAny (model X.prog X.w) X.A (isTrue e X.env (eval e X.env)) (TP X pins σ Q) X.xe s
def PA(X:Cx)(es:List Expr)(t:TA):Prop:=
 ∀(pos:Pos) (pins:List (Addr×Obj)) (s:Shared) (σ:St) (H:Hp) (Q:List V->Hp->Prop),Inv X pins σ H s->t σ H Q->wpAny (model X.prog X.w) X.A (spliced (backTo pos (starEach es X.env))) (AP X pins σ Q) X.xe s
def PS(X:Cx)(st:Stmt)(t:TS):Prop:=
 ∀(pins:List (Addr×Obj)) (s:Shared) (σ:St) (H:Hp) (D:Ends),Inv X pins σ H s->t D σ H->wpAny (model X.prog X.w) X.A (exec st X.env) (SP X pins D) X.xe s
def PSs(X:Cx)(st:List Stmt)(t:TS):Prop:=
 ∀(pins:List (Addr×Obj)) (s:Shared) (σ:St) (H:Hp) (D:Ends),Inv X pins σ H s->t D σ H->wpAny (model X.prog X.w) X.A (execs st X.env) (SP X pins D) X.xe s
theorem thn{α:Type}{t:Sem α}{Q Q':α->Shared->Prop}{M:Model}{A:Around}{E:Value->Shared->Prop}{s:Shared}(h:wpAny M A t Q E s)(hQ:∀a s,Q a s->Q' a s):wpAny M A t Q' E s:=wpAny_mono h hQ fun _ _ x=>x
section
variable{X:Cx}
def ai3(i:Nat):TE:=fun σ H Q=>∃v,σ[i]? =some (some v)/\Q v H
def tC(v:V):TE:=fun _ H Q=>Q v H
theorem agO{i:Nat}{x:Str}{pos:Pos}(hN:X.N[i]? =some x)(hv:Vis X.env.scope x)(hd:(x==("__debug__":Str))=false:=by decide)(hcd:(x==("__classdict__":Str))=false:=by decide):PE X (.Name x pos) (ai3 i):=by
 intro pins s σ H Q I h
 obtain⟨v,e,h⟩:=h
 obtain⟨m,hn,hl⟩:=I.loc
 obtain⟨u,r,l⟩:=hl i x v hN e hv
 have fin:EP X pins σ Q u s:=⟨v,H,I,r,h⟩
 rcases l with ⟨hk,hm⟩ | ⟨hk,c,hc,hcell⟩
 ·exact wpAny_Name (wpAny_loadName_local I.ok.kind hk hn hm fin) hd
 ·rcases hk with hk | hk
  ·exact wpAny_Name (wpAny_loadName_cell I.ok.kind hk hc hcell fin) hd
  ·exact wpAny_Name (wpAny_loadName_free I.ok.kind hk hc hcell fin hcd) hd
theorem ag2{i j pos}:PE X (.Constant (.int i) j pos) (tC (.int i)):=fun _ _ _ H _ I h=>wpAny_Constant_int ⟨.int i,H,I.tok _,⟨_,rfl⟩,h⟩
theorem aiB{b j pos}:PE X (.Constant (.bool b) j pos) (tC (.bl b)):=fun _ _ _ H _ I h=>Constant_bool ⟨.bl b,H,I,rfl,h⟩
theorem agM{x j pos}:PE X (.Constant (.str x) j pos) (tC (.str x)):=fun _ _ _ H _ I h=>Calls.Constant_str ⟨.str x,H,I.tok _,⟨_,rfl⟩,h⟩
def Gl(X:Cx)(x:Str):Prop:=X.env.kindOf x=some .globalImplicit
theorem aaM{E:Value->Shared->Prop}{pins:List (Addr×Obj)}{s:Shared}{σ:St}{H:Hp}{x:Str}{u:Value}{pos:Pos}{Q:Value->Shared->Prop}(I:Inv X pins σ H s)(hg:Gl X x)(hm:X.mg x=some u)(h:Q u s)
  (hd:(x==("__debug__":Str))=false:=by decide):wpAny (model X.prog X.w) X.A (eval (.Name x pos) X.env) Q E s:=
 Calls.Name_function_global I.ok.kind hg (Calls.loadGlobal_global (by rw[I.ok.glob];exact I.mod.glob.keeps I.bk) hm h) hd
theorem abP{E:Value->Shared->Prop}{pins:List (Addr×Obj)}{s:Shared}{σ:St}{H:Hp}{x:Str}{u:Value}{pos:Pos}{Q:Value->Shared->Prop}(I:Inv X pins σ H s)(hg:Gl X x)(hm:X.mg x=none)(hv:bootBuiltins x=some u)(h:Q u s)
  (hn:x≠"__name__":=by decide) (hd:(x==("__debug__":Str))=false:=by decide):wpAny (model X.prog X.w) X.A (eval (.Name x pos) X.env) Q E s:=by
 obtain⟨mb,h1,h2⟩:=I.mod.blt
 exact Calls.Name_function_global I.ok.kind hg (Calls.loadGlobal_builtin (by rw[I.ok.glob];exact I.mod.glob.keeps I.bk) hm (by rw[I.ok.blt];exact h1.keeps I.bk) ((h2 x hn).trans hv) h) hd
theorem afB{x:Str}{v:V}{u:Value}{pos:Pos}(hg:Gl X x)(hm:X.mg x=some u)(r:RelV v u)(hd:(x==("__debug__":Str))=false:=by decide):PE X (.Name x pos) (tC v):=
 fun _ _ _ H _ I h=>aaM I hg hm ⟨v,H,I,r,h⟩ hd
theorem afG{x:Str}{v:V}{u:Value}{pos:Pos}(hg:Gl X x)(hm:X.mg x=none)(hv:bootBuiltins x=some u)(r:RelV v u)(hn:x≠"__name__":=by decide)(hd:(x==("__debug__":Str))=false:=by decide):PE X (.Name x pos) (tC v):=
 fun _ _ _ H _ I h=>abP I hg hm hv ⟨v,H,I,r,h⟩ hn hd
variable{a b:Expr}{ta tb:TE}{pos:Pos}
variable{tA tB':TT}{rest:List Expr}
def agE(ta tb:TE):TE:=fun σ H Q=>ta σ H fun x H1=>∃c,x=.bl c/\if c=true then tb σ H1 Q else Q (.bl false) H1
def af8(ta:TE):TE:=fun σ H Q=>ta σ H fun x H1=>∃c,x=.bl c/\Q (.bl (!c)) H1
theorem ag8{op}{t:TE}(h:PE X a t):PE X (.BoolOp op [a] pos) t:=fun pins s σ H Q I hw=>BoolOp_one (h pins s σ H Q I hw)
theorem ag5(ha:PE X a ta)(hb:PE X (.BoolOp .And (b::rest) pos) tb):PE X (.BoolOp .And (a::b::rest) pos) (agE ta tb):=by
 intro pins s σ H Q I h
 refine BoolOp_and (thn (ha pins s σ H _ I h) fun v s1 ⟨x,H1,I1,r1,q1⟩=>?_)
 obtain⟨c,rfl,q1⟩:=q1
 cases r1
 refine wpAny_truthy_bool ?_
 cases c with
 |true=>exact hb pins s1 σ H1 Q I1 q1
 |false=>exact⟨.bl false,H1,I1,rfl,q1⟩
theorem ahO(ha:PE X a ta):PE X (.UnaryOp .Not a pos) (af8 ta):=by
 intro pins s σ H Q I h
 refine UnaryOp_ (thn (ha pins s σ H _ I h) fun v s1 ⟨x,H1,I1,r1,q1⟩=>?_)
 obtain⟨c,rfl,q1⟩:=q1
 cases r1
 exact not_of (wpAny_truthy_bool ⟨.bl (!c),H1,I1,rfl,q1⟩)
end
def SqL(K:PySem.W.Frag)(H:Hp)(a:Addr)(xs:List V):Prop:=
 Rd H a (.lst xs)∨
  ∃(o:Obj) (its:Array Value) (n:Nat),K.lookup a=some o/\o.cls=.type "list"/\o.dict=none/\o.data=.seq its n/\its.size<=sizeLine/\Vals xs its.toList
def SqT(K:PySem.W.Frag)(H:Hp)(a:Addr)(xs:List V):Prop:=
 Rd H a (.tup xs)∨
  ∃(o:Obj) (its:Array Value) (n:Nat),K.lookup a=some o/\o.cls=.type "tuple"/\o.data=.seq its n/\its.size<=sizeLine/\Vals xs its.toList
def absV:Value->Option V
 |.none=>some .non
 |.bool b=>some (.bl b)
 |.int i _=>some (.int i)
 |.str x _=>some (.str x)
 |.bytes b _=>some (.byt b)
 |.float b _=>some (.flt b)
 |.ref a=>some (.ref a)
 |.type n=>some (.ty n)
 |_=>none
theorem RelV.abs{x:V}{u:Value}(r:RelV x u):absV u=some x:=by
 cases x with
 |non=>cases r;rfl
 |bl _=>cases r;rfl
 |int _=>obtain⟨t,rfl⟩:=r;rfl
 |str _=>obtain⟨t,rfl⟩:=r;rfl
 |byt _=>obtain⟨t,rfl⟩:=r;rfl
 |flt _=>obtain⟨t,rfl⟩:=r;rfl
 |ref _=>cases r;rfl
 |ty _=>cases r;rfl
theorem RelV.inj{x y:V}{u:Value}(r:RelV x u)(q:RelV y u):x=y:=Option.some.inj (r.abs.symm.trans q.abs)
theorem Vals.inj:∀{xs ys:List V} {us:List Value},Vals xs us->Vals ys us->xs=ys
 |_,_,_,.nil,.nil=>rfl
 |_,_,_,.cons r t,.cons r' t'=>by rw[r.inj r',Vals.inj t t']
section
variable{X:Cx}{pins:List (Addr×Obj)}{σ:St}{H:Hp}{s:Shared}{a:Addr}{xs ys:List V}
theorem SqL.of{K:PySem.W.Frag}(h:H a=some (.lst xs)):SqL K H a xs:=.inl (.inl h)
theorem Inv.list(I:Inv X pins σ H s)(h:SqL X.K H a xs):∃its:List Value,Vals xs its/\PlainL s.heap a its.toArray/\xs.length<=sizeLine:=by
 rcases h with h | ⟨o,its,n,hk,hc,hd,hs,hz,r⟩
 ·obtain⟨z,its,n,r,e⟩:=h.ok I.hok
  exact⟨its,r,⟨_,n,e,rfl,rfl,rfl⟩,z⟩
 ·refine⟨its.toList,r,⟨o,n,I.kIn a o hk,hc,hd,by simpa using hs⟩,?_⟩
  have e:=r.length
  simp only[Array.length_toList] at e
  omega
theorem Inv.tuple(I:Inv X pins σ H s)(h:SqT X.K H a xs):∃its:List Value,Vals xs its/\IsTup s.heap a its.toArray/\xs.length<=sizeLine:=by
 rcases h with h | ⟨o,its,n,hk,hc,hs,hz,r⟩
 ·obtain⟨z,its,r,p⟩:=h.ok I.hok
  exact⟨its,r,p,z⟩
 ·refine⟨its.toList,r,⟨o,I.kIn a o hk,hc,n,by simpa using hs⟩,?_⟩
  have e:=r.length
  simp only[Array.length_toList] at e
  omega
end
abbrev Cx.wish(X:Cx)(E:Value->Shared->Prop):Cx:={X with xe:=E}
abbrev Cx.nox(X:Cx):Cx:=X.wish fun _ _=>False
theorem Cx.Ok.wish{X:Cx}(ok:X.Ok)(E:Value->Shared->Prop):(X.wish E).Ok:=
 ⟨ok.mod,ok.kind,ok.glob,ok.blt,ok.above,ok.inj,ok.has,ok.cab,ok.hd,ok.frames,ok.stk,ok.exf,ok.bs,ok.bsz,ok.noex,ok.exfs,ok.funs,ok.frf⟩
theorem Cx.Ok.unwish{X:Cx}{E:Value->Shared->Prop}(ok:(X.wish E).Ok):X.Ok:=
 ⟨ok.mod,ok.kind,ok.glob,ok.blt,ok.above,ok.inj,ok.has,ok.cab,ok.hd,ok.frames,ok.stk,ok.exf,ok.bs,ok.bsz,ok.noex,ok.exfs,ok.funs,ok.frf⟩
section
variable{X:Cx}{pins:List (Addr×Obj)}{σ:St}{H:Hp}{s:Shared}{E:Value->Shared->Prop}
theorem Inv.wish(I:Inv X pins σ H s)(E:Value->Shared->Prop):Inv (X.wish E) pins σ H s:=⟨I.ok.wish E,I.os,I.bare,I.base,I.loc,I.cell,I.free,I.freeC,I.pin,I.hok,I.len⟩
theorem Inv.unwish(I:Inv (X.wish E) pins σ H s):Inv X pins σ H s:=⟨I.ok.unwish,I.os,I.bare,I.base,I.loc,I.cell,I.free,I.freeC,I.pin,I.hok,I.len⟩
theorem SP.unwish{D:Ends}{f:Flow}{s':Shared}(h:SP (X.wish E) pins D f s'):SP X pins D f s':=by
 cases f with
 |next=>obtain⟨σ',H',I,q⟩:=h;exact⟨σ',H',I.unwish,q⟩
 |brk=>obtain⟨σ',H',I,q⟩:=h;exact⟨σ',H',I.unwish,q⟩
 |cont=>obtain⟨σ',H',I,q⟩:=h;exact⟨σ',H',I.unwish,q⟩
 |ret u=>obtain⟨v,σ',H',I,r,q⟩:=h;exact⟨v,σ',H',I.unwish,r,q⟩
theorem PSs.nox{st:List Stmt}{t:TS}(h:PSs X.nox st t):PSs X st t:=fun pins s σ H D I hw=>
 wpAny_mono (h pins s σ H D (I.wish _) hw) (fun _ _ q=>q.unwish) fun _ _ z=>False.elim z
end
section
variable{X:Cx}{st:Stmt}{rest:List Stmt}{t u:TS}{e:Expr}{te:TE}{pos:Pos}
def agF:TS:=fun D σ H=>D.nx σ H
def ah8(t u:TS):TS:=fun D σ H=>t {D with nx:=u D} σ H
theorem ae7:PSs X [] agF:=fun _ _ σ H _ I h=>wpAny_execs_nil ⟨σ,H,I,h⟩
theorem ae3(h1:PS X st t)(h2:PSs X rest u):PSs X (st::rest) (ah8 t u):=by
 intro pins s σ H D I h
 refine wpAny_execs_cons (thn (h1 pins s σ H {D with nx:=u D} I h) fun f s1 q=>?_)
 cases f with
 |next=>
  obtain⟨σ',H',I',q⟩:=q
  exact h2 pins s1 σ' H' D I' q
 |ret v=>exact q
 |brk=>exact q
 |cont=>exact q
theorem afE(h1:PS X st t):PSs X [st] t:=by
 intro pins s σ H D I h
 refine wpAny_execs_cons (thn (h1 pins s σ H D I h) fun f s1 q=>?_)
 cases f with
 |next=>exact wpAny_execs_nil q
 |ret v=>exact q
 |brk=>exact q
 |cont=>exact q
theorem Inv.quiet{pins:List (Addr×Obj)}{σ:St}{H:Hp}{s:Shared}(I:Inv X pins σ H s):interactive X.env=false:=by simp[interactive,I.ok.kind]
def ahS(te:TE):TS:=fun D σ H=>te σ H D.rt
theorem agS(he:PE X e te):PS X (.Return (some e) pos) (ahS te):=by
 intro pins s σ H D I h
 exact wpAny_Return_some (thn (he pins s σ H _ I h) fun v s1 ⟨x,H1,I1,r1,q1⟩=>⟨x,σ,H1,I1,r1,q1⟩)
def ahU(c:TT)(t u:TS):TS:=fun D σ H=>c σ H fun b H1=>if b=true then t D σ H1 else u D σ H1
theorem ajD{c:Expr}{a b:List Stmt}{tc:TT}(hc:PT X c tc)(ha:PSs X a t)(hb:PSs X b u):PS X (.If c a b pos) (ahU tc t u):=by
 intro pins s σ H D I h
 refine wpAny_If (thn (hc pins s σ H _ I h) fun d s1 ⟨H1,I1,q1⟩=>?_)
 cases d with
 |true=>exact ha pins s1 σ H1 D I1 q1
 |false=>exact hb pins s1 σ H1 D I1 q1
end
abbrev TG:=V->St->Hp->(St->Hp->Prop)->Prop
def PG(X:Cx)(target:Expr)(t:TG):Prop:=
 ∀(pins:List (Addr×Obj)) (s:Shared) (σ:St) (H:Hp) (v:V) (u:Value) (Q:St->Hp->Prop),Inv X pins σ H s->RelV v u->t v σ H Q->
  wpAny (model X.prog X.w) X.A (assign target X.env u) (fun _ s'=>∃σ' H',Inv X pins σ' H' s'/\Q σ' H') X.xe s
section
variable{X:Cx}{pos:Pos}
def abU(i:Nat):TG:=fun v σ H Q=>Q (σ.set i (some v)) H
theorem af2{i:Nat}{x:Str}(hN:X.N.Nodup)(hi:X.N[i]? =some x)(hx:Loc X.env.scope x)(hf:X.fn x=true∨X.env.scope.names.lookup x=some .local:=by first | exact .inl rfl | exact .inr rfl | assumption):PG X (.Name x pos) (abU i):=by
 intro pins s σ H v u Q I r h
 exact wpAny_assign_Name (aa9 I hN hi hx r (fun s' I'=>⟨_,H,I',h⟩) hf)
def ai8(te:TE)(g:TG):TS:=fun D σ H=>te σ H fun x H1=>g x σ H1 D.nx
theorem ahE{i:Nat}{x:Str}{e:Expr}{te:TE}{pos':Pos}(hN:X.N.Nodup)(hi:X.N[i]? =some x)(hx:Loc X.env.scope x)(he:PE X e te)(hs:swapsWith e (some (.Name x pos')) pos.line X.env=pure false:=by rfl)(hf:X.fn x=true∨X.env.scope.names.lookup x=some .local:=by first | exact .inl rfl | exact .inr rfl | assumption):
  PS X (.Assign [.Name x pos'] e pos) (ai8 te (abU i)):=by
 intro pins s σ H D I h
 refine wpAny_Assign_Name (thn (he pins s σ H _ I h) fun v s1 ⟨y,H1,I1,r1,q1⟩=>?_) hs
 exact aa9 I1 hN hi hx r1 (fun s2 I2=>⟨_,H1,I2,q1⟩) hf
end
section
variable{X:Cx}{pos:Pos}
end
structure It where
 go:Nat->Hp->Prop
 yld:Nat->Hp->V->Hp->Prop
 stop:Nat->Hp->Prop
def abA(X:Cx)(pins:List (Addr×Obj))(H:Hp)(b:Addr):Prop:=
 H b=none/\b≠X.env.locals/\b∉X.fs/\(b∈X.ex∨X.s₀.heap.objs.size<=b)/\(∀x c,X.env.cells.lookup x=some c->c≠b)/\∀p∈X.pn++pins,p.1≠b
theorem Inv.fpOk{X:Cx}{pins:List (Addr×Obj)}{σ:St}{H H':Hp}{s:Shared}{b:Addr}(I:Inv X pins σ H s)(hb:s.heap.objs.size<=b)(hn:H' b=none):abA X pins H' b:=by
 refine⟨hn,Nat.ne_of_gt (Nat.lt_of_lt_of_le I.lt hb),I.nofs hb,.inr (Nat.le_trans I.sz hb),fun x c e z=>?_,fun p hp z=>?_⟩
 ·obtain⟨v,q⟩:=I.cell x c e
  exact absurd (Nat.lt_of_lt_of_le q.lt (by rw[z];exact hb)) (Nat.lt_irrefl _)
 ·exact absurd (Nat.lt_of_lt_of_le (Heap.lt_size (I.pin p hp).1) (by rw[z];exact hb)) (Nat.lt_irrefl _)
structure Turn(P:Program)(w:World)(K:PySem.W.Frag)(tg:Expr)(J:It)(fp:List Addr)(it:Addr)(tn:Nat->Heap->Prop):Prop where
 mem:it∈fp
 obj:∀i h,tn i h->∀b∈fp,∃o,h.get? b=some o/\∀v,o.data≠ .cell v
 keep:∀i h h',tn i h->(∀b∈fp,∀o,h.get? b=some o->h'.get? b=some o)->tn i h'
 item:∀(X:Cx),X.prog=P->X.w=w->X.K=K->X.calm=true->∀(i:Nat) (pins:List (Addr×Obj)) (s:Shared) (σ:St) (H:Hp) (E:Value->Shared->Prop),Inv X pins σ H s->(∀b∈fp,abA X pins H b)->tn i s.heap->J.go i H->
  wpAny (model P w) X.A (pyNext (.ref it)) (fun r s1=>∃u,r=some u/\
   wpAny (model P w) X.A (letOwnedTupleGo tg (.ref it) u) (fun _ s2=>∃x H',Inv X pins σ H' s2/\RelV x u/\J.yld i H x H'/\tn (i+1) s2.heap/\∀b∈fp,H' b=none) E s1) E s
 done:∀(X:Cx),X.prog=P->X.w=w->X.K=K->X.calm=true->∀(i:Nat) (pins:List (Addr×Obj)) (s:Shared) (σ:St) (H:Hp) (E:Value->Shared->Prop),Inv X pins σ H s->(∀b∈fp,abA X pins H b)->tn i s.heap->J.stop i H->
  wpAny (model P w) X.A (pyNext (.ref it)) (fun r s1=>r=none/\Inv X pins σ H s1) E s
 self:∀(A:Around) (i:Nat) (s:Shared) (Q:Value->Shared->Prop) (E:Value->Shared->Prop),tn i s.heap->Q (.ref it) s->wpAny (model P w) A (pyIter (.ref it)) Q E s
abbrev TI:=St->Hp->(It->Hp->Prop)->Prop
def PIE(X:Cx)(pins:List (Addr×Obj))(σ:St)(tg:Expr)(R:It->Hp->Prop)(itv:Value)(s2:Shared):Prop:=
 ∃(it:Addr) (fp:List Addr) (tn:Nat->Heap->Prop) (J:It) (H':Hp),itv=.ref it/\Inv X pins σ H' s2/\Turn X.prog X.w X.K tg J fp it tn/\tn 0 s2.heap/\(∀b∈fp,abA X pins H' b)/\R J H'
def PI(X:Cx)(tg iter:Expr)(wi:TI):Prop:=
 ∀(pins:List (Addr×Obj)) (s:Shared) (σ:St) (H:Hp) (R:It->Hp->Prop),Inv X pins σ H s->wi σ H R->
  wpAny (model X.prog X.w) X.A (eval iter X.env) (fun v s1=>wpAny (model X.prog X.w) X.A (pyIter v) (PIE X pins σ tg R) X.xe s1) X.xe s
theorem agB{M:Model}{A:Around}{E:Value->Shared->Prop}{s:Shared}{tg:Expr}{it:Addr}{u:Value}{o:Obj}{n:String}{vs:Array Value}{Q:Unit->Shared->Prop}(ho:s.heap.get? it=some o)(hc:o.cls=.type n)(hd:o.data=.fields vs)
  (hn:["enumerate","zip","dict_itemiterator","dict_reverseitemiterator","odict_iterator","itertools.zip_longest","itertools.pairwise"].contains n=false) (hQ:Q () s):wpAny M A (letOwnedTupleGo tg (.ref it) u) Q E s:=by
 unfold letOwnedTupleGo
 cases tg<;>first
  |exact wpAny_pure hQ
  |(cases u<;>first
    |exact wpAny_pure hQ
    |(refine wpAny_bind (wpAny_load ho ?_)
      rw[hc,hd]
      show wpAny M A (if (["enumerate","zip","dict_itemiterator","dict_reverseitemiterator","odict_iterator","itertools.zip_longest","itertools.pairwise"].contains n&&vs[0]? ==some (rawInt _))=true then _ else _) Q E s
      rw[if_neg (by intro h;rw[hn,Bool.false_and] at h;cases h)]
      exact wpAny_pure hQ))
def Itr(lo:Int)(n:Nat):It:=⟨fun i _=>i<n,fun i H x H'=>H'=H/\x=.int (lo+i),fun i _=>n<=i⟩
theorem ac0{P:Program}{w:World}{K:PySem.W.Frag}{tg:Expr}(it:Addr)(lo:Int)(n:Nat):Turn P w K tg (Itr lo n) [it] it (fun i h=>IsRangeIter h it (lo+(i:Nat)*1) ((n:Int)-(i:Nat)) 1) where
 mem:=by simp
 obj:=fun i h st b hb=>by
  have e:b=it:=by simpa using hb
  subst e
  exact⟨_,st,fun v z=>by
   have z':Data.fields _=Data.cell v:=z
   cases z'⟩
 keep:=fun i h h' st k=>k it (by simp) _ st
 item:=by
  intro X hP hw hK hc i pins s σ H E I hf st hg
  subst hP hw hK
  obtain⟨f0,f1,f2,f3,f4,f5⟩:=hf it (by simp)
  have W:=Walks.range (prog:=X.prog) (w:=X.w) (I.ok.hd hc) it lo 1 n
  refine W.item i s _ _ hg st fun v h' tk hv st' kk=>?_
  obtain⟨t,rfl⟩:=hv
  have I1:Inv X pins σ H {s with heap:=h',toks:=tk}:=I.turned (fun b o hb e=>kk b o (by simpa using hb) e) f0 f1 f3 f4 f5
  refine⟨_,rfl,agB (s:={s with heap:=h',toks:=tk}) (n:="range_iterator") st' rfl rfl (by decide) ⟨.int (lo+i),H,I1,⟨t,?_⟩,⟨rfl,rfl⟩,st',fun b hb=>(hf b hb).1⟩⟩
  rw[Int.mul_one]
 done:=by
  intro X hP hw hK hc i pins s σ H E I hf st hg
  subst hP hw hK
  obtain⟨f0,f1,f2,f3,f4,f5⟩:=hf it (by simp)
  exact wpAny_pyNext_range_end (I.ok.hd hc) st (by have:n<=i:=hg;omega) fun h' eb=>⟨rfl,I.turned (t':=s.toks) (fun b o hb e=>eb b o hb e) f0 f1 f3 f4 f5⟩
 self:=fun _ _ _ _ _ st h=>wpAny_pyIter_rangeiter st h
section
variable{X:Cx}{tg:Expr}
theorem aeR{pins:List (Addr×Obj)}{σ:St}{H:Hp}{s:Shared}{R:It->Hp->Prop}{E:Value->Shared->Prop}{lo hi:Int}{t u v:Tok}{tk:Nat}(I:Inv X pins σ H s)(h1: -(2^62)<=lo)(h2:lo<2^62)(h3: -(2^62)<=hi)(h4:hi<2^62)
  (q:R (Itr lo (hi-lo).toNat) H):wpAny (model X.prog X.w) X.A (pyIter (.ref s.heap.objs.size)) (PIE X pins σ tg R) E {s with heap:=s.heap.push {cls:=.type "range",data:=.fields #[.int lo t,.int hi u,.int 1 v]},toks:=tk}:=by
 refine wpAny_pyIter_range (IsRange.new ..) (small_one h1 h2 h3 h4) ?_
 have I1:Inv X pins σ H {s with heap:=s.heap.push {cls:=.type "range",data:=.fields #[.int lo t,.int hi u,.int 1 v]},toks:=tk}:=I.kept fun b o e=>Heap.get?_push_of_some _ e
 refine⟨(s.heap.push {cls:=.type "range",data:=.fields #[.int lo t,.int hi u,.int 1 v]}).objs.size,[(s.heap.push {cls:=.type "range",data:=.fields #[.int lo t,.int hi u,.int 1 v]}).objs.size],_,_,H,rfl,
  I1.kept (t':=tk) fun b o e=>Heap.get?_push_of_some _ e,ac0 _ lo (hi-lo).toNat,?_,fun b hb=>?_,q⟩
 ·have e1:lo+((0:Nat):Int)*1=lo:=by simp
  have e2:(((hi-lo).toNat:Nat):Int)-((0:Nat):Int)=Builtin.Range.rangeSize lo hi 1:=by rw[rangeSize_one];split<;>omega
  show IsRangeIter _ _ (lo+((0:Nat):Int)*1) ((((hi-lo).toNat:Nat):Int)-((0:Nat):Int)) 1
  rw[e1,e2]
  exact Heap.get?_push_size _ rfl
 ·have e:b=(s.heap.push {cls:=.type "range",data:=.fields #[.int lo t,.int hi u,.int 1 v]}).objs.size:=by simpa using hb
  subst e
  exact I1.fpOk (Nat.le_refl _) (I1.hok.fresh (Nat.le_refl _))
def agD(ta:TA):TI:=fun σ H R=>ta σ H fun vs H1=>∃j:Int,vs=[.int j]/\ -(2^62)<=j/\j<2^62/\R (Itr 0 j.toNat) H1
theorem adZ{a:Expr}{ta:TA}{p pos:Pos}(hg:Gl X "range")(hm:X.mg "range"=none)(ha:PA X [a] ta)(hs:starEach [a] X.env=[(false,eval a X.env)]:=by rfl):PI X tg (.Call (.Name "range" p) [a] [] pos) (agD ta):=by
 intro pins s σ H R I h
 refine Call_ (abP I hg hm boot_range (PyProof.Rows.callWith_type1 (thn (ha pos pins s σ H _ I h) fun us s1 ⟨vs,H1,I1,r1,q1⟩=>?_) hs rfl))
 obtain⟨j,e,q1,q2,q⟩:=q1
 subst e
 cases r1 with
 |cons r rr=>
  cases rr
  obtain⟨t,rfl⟩:=r
  exact call_range_1 (aeR I1 (by omega) (by omega) q1 q2 (by simpa using q))
def aiT(wi:TI)(g:TG)(tb:TS):TS:=fun D σ H=>wi σ H fun J H1=>∃W:Nat->Nat->St->Hp->Prop,(∃m,W 0 m σ H1)/\∀i m σ H,W i m σ H->
 (J.stop i H/\D.nx σ H)∨(J.go i H/\∃N:St->Hp->Prop,(∀σ' H',N σ' H'->∃m',m'<m/\W (i+1) m' σ' H')/\∀x H',J.yld i H x H'->g x σ H' fun σ2 H2=>tb {D with nx:=N,ct:=N,bk:=D.nx} σ2 H2)
def abC(fp:List Addr)(h:Heap):List (Addr×Obj):=fp.filterMap fun b=>(h.get? b).map fun o=>(b,o)
theorem aaQ{fp:List Addr}{h:Heap}{b:Addr}{o:Obj}(hb:b∈fp)(e:h.get? b=some o):(b,o)∈abC fp h:=List.mem_filterMap.mpr ⟨b,hb,by rw[e];rfl⟩
theorem adQ{fp:List Addr}{h:Heap}{p:Addr×Obj}(hp:p∈abC fp h):p.1∈fp/\h.get? p.1=some p.2:=by
 obtain⟨b,hb,e⟩:=List.mem_filterMap.mp hp
 cases q:h.get? b with
 |none=>rw[q] at e;cases e
 |some o=>
  rw[q] at e
  have e':(b,o)=p:=Option.some.inj e
  subst e'
  exact⟨hb,q⟩
theorem Inv.pinned{pins:List (Addr×Obj)}{σ:St}{H:Hp}{s:Shared}{fp:List Addr}(I:Inv X pins σ H s)(hf:∀b∈fp,abA X pins H b)(ho:∀b∈fp,∃o,s.heap.get? b=some o/\∀v,o.data≠ .cell v):Inv X (pins++abC fp s.heap) σ H s:=
 I.pins_of fun p hp=>(List.mem_append.mp hp).elim (fun z=>I.pin p (List.mem_append_right _ z)) fun z=>by
  obtain⟨hb,e⟩:=adQ z
  obtain⟨f0,f1,f2,_⟩:=hf p.1 hb
  obtain⟨o,e',d⟩:=ho p.1 hb
  rw[e] at e';cases e'
  exact⟨e,f0,f1,f2,d⟩
theorem Inv.unpinned{pins pl:List (Addr×Obj)}{σ:St}{H:Hp}{s:Shared}(I:Inv X (pins++pl) σ H s):Inv X pins σ H s:=I.pins_of fun p hp=>I.pin p (List.mem_append_right _ (List.mem_append_left _ hp))
theorem ag7{iter:Expr}{body:List Stmt}{wi:TI}{g:TG}{tb:TS}{pos:Pos}(hp:PassesOwn (model X.prog X.w) X.A X.env X.xe)(hc:X.calm=true)(hi:PI X tg iter wi)(hg:PG X tg g)(hb:PSs X body tb)
  (hs:∀x,foldedSetIterable iter X.env x=pure x:=by intro _;rfl):PS X (.For tg iter body [] pos) (aiT wi g tb):=by
 intro pins s σ H D I h
 refine wpAny_For (thn (hi pins s σ H _ I h) fun v s1 h1=>thn h1 fun itv s2 h2=>?_) hs
 obtain⟨it,fp,tn,J,H2,e,I2,T,st2,f2,W,⟨m0,w0⟩,turn⟩:=h2
 subst e
 -- what stays true of the iterator's objects through the loop
 have stat:∀{H':Hp},(∀b∈fp,H' b=none)->∀b∈fp,abA X pins H' b:=fun hn b hb=>⟨hn b hb,(f2 b hb).2⟩
 refine codeAny_forLoop_any (fun n s'=>∃i σ' H',Inv X pins σ' H' s'/\tn i s'.heap/\(∀b∈fp,H' b=none)/\W i n σ' H') ?_ m0 ⟨0,σ,H2,I2,st2,fun b hb=>(f2 b hb).1,w0⟩
 rintro n s3 ⟨i,σ3,H3,I3,st3,fr3,w3⟩
 rcases turn i n σ3 H3 w3 with ⟨stop,qn⟩ | ⟨go,N,hN,step⟩
 ·refine wpAny_passesOwn hp (thn (T.done X rfl rfl rfl hc i pins s3 σ3 H3 X.xe I3 (stat fr3) st3 stop) fun r s4 ⟨hr,I4⟩=>?_)
  subst hr
  exact wpAny_execs_nil ⟨σ3,H3,I4,qn⟩
 ·refine wpAny_passesOwn hp (thn (T.item X rfl rfl rfl hc i pins s3 σ3 H3 X.xe I3 (stat fr3) st3 go) fun r s4 ⟨u,hr,h4⟩=>?_)
  subst hr
  refine wpAny_passesOwn hp (thn h4 fun _ s5 ⟨x,H5,I5,r5,y5,st5,fr5⟩=>?_)
  have I5':=I5.pinned (stat fr5) (T.obj _ _ st5)
  refine wpAny_passesOwn hp (thn (hg _ s5 σ3 H5 x u _ I5' r5 (step x H5 y5)) fun _ s6 ⟨σ6,H6,I6,q6⟩=>?_)
  refine wpAny_passesOwn hp (thn (hb _ s6 σ6 H6 _ I6 q6) fun f s7 q7=>?_)
  have again:∀{σ7:St} {H7:Hp},Inv X (pins++abC fp s5.heap) σ7 H7 s7->N σ7 H7->∃m,m<n/\∃i σ' H',Inv X pins σ' H' s7/\tn i s7.heap/\(∀b∈fp,H' b=none)/\W i m σ' H':=fun {σ7 H7} I7 n7=>by
   obtain⟨m',hm,w7⟩:=hN σ7 H7 n7
   refine⟨m',hm,i+1,σ7,H7,I7.unpinned,T.keep _ _ _ st5 fun b hb o e=>(I7.pin (b,o) (List.mem_append_right _ (List.mem_append_right _ (aaQ hb e)))).1,fun b hb=>?_,w7⟩
   obtain⟨o,e,d⟩:=T.obj _ _ st5 b hb
   exact (I7.pin (b,o) (List.mem_append_right _ (List.mem_append_right _ (aaQ hb e)))).2.1
  cases f with
  |next=>obtain⟨σ7,H7,I7,n7⟩:=q7;exact again I7 n7
  |cont=>obtain⟨σ7,H7,I7,n7⟩:=q7;exact again I7 n7
  |brk=>obtain⟨σ7,H7,I7,q7⟩:=q7;exact⟨σ7,H7,I7.unpinned,q7⟩
  |ret v=>obtain⟨x7,σ7,H7,I7,r7,q7⟩:=q7;exact⟨x7,σ7,H7,I7.unpinned,r7,q7⟩
end
theorem ad7{lo:Int}{n:Nat}{g:TG}{tb:TS}{D:Ends}{σ:St}{H:Hp}(Pv:Nat->St->Hp->Prop)(h0:Pv 0 σ H)
  (hs:∀i σ H,i<n->Pv i σ H->g (.int (lo+i)) σ H fun σ2 H2=>tb {D with nx:=Pv (i+1),ct:=Pv (i+1),bk:=D.nx} σ2 H2) (hd:∀σ H,Pv n σ H->D.nx σ H):
  ∃W:Nat->Nat->St->Hp->Prop,(∃m,W 0 m σ H)/\∀i m σ H,W i m σ H->
   ((Itr lo n).stop i H/\D.nx σ H)∨((Itr lo n).go i H/\∃N:St->Hp->Prop,(∀σ' H',N σ' H'->∃m',m'<m/\W (i+1) m' σ' H')/\∀x H',(Itr lo n).yld i H x H'->g x σ H' fun σ2 H2=>tb {D with nx:=N,ct:=N,bk:=D.nx} σ2 H2):=by
 refine⟨fun i m σ H=>m=n-i/\i<=n/\Pv i σ H,⟨n,by simp,Nat.zero_le _,h0⟩,?_⟩
 rintro i m σ H ⟨rfl,hi,p⟩
 by_cases hlt:i<n
 ·refine .inr ⟨hlt,Pv (i+1),fun σ' H' p'=>⟨n-(i+1),by omega,rfl,hlt,p'⟩,fun x H' y=>?_⟩
  obtain⟨e,y⟩:=y
  subst e y
  exact hs i σ _ hlt p
 ·have e:i=n:=by omega
  subst e
  exact .inl ⟨Nat.le_refl _,hd σ H p⟩
abbrev R2:=V->V->Hp->VK->Prop
def OpR(X:Cx)(f:Value->Value->Sem Value)(r:R2):Prop:=
 ∀(pins:List (Addr×Obj)) (s:Shared) (σ:St) (H:Hp) (x y:V) (v u:Value) (Q:VK),Inv X pins σ H s->RelV x v->RelV y u->r x y H Q->
  wpAny (model X.prog X.w) X.A (f v u) (EP X pins σ Q) X.xe s
def abM(X:Cx)(f:Value)(r:List V->Hp->VK->Prop):Prop:=
 ∀(pins:List (Addr×Obj)) (s:Shared) (σ:St) (H:Hp) (xs:List V) (us:List Value) (Q:VK),Inv X pins σ H s->Vals xs us->r xs H Q->
  wpAny (model X.prog X.w) X.A (call f us) (EP X pins σ Q) X.xe s
def tOp(r:R2)(ta tb:TE):TE:=fun σ H Q=>ta σ H fun x H1=>tb σ H1 fun y H2=>r x y H2 Q
def rI(C:Int->Int->Prop)(g:Int->Int->V):R2:=fun x y H Q=>∃i j,x=.int i/\y=.int j/\C i j/\Q (g i j) H
def rI0(g:Int->Int->V):R2:=fun x y H Q=>∃i j,x=.int i/\y=.int j/\Q (g i j) H
section
variable{X:Cx}{a b c:Expr}{ta tb tc:TE}{pos:Pos}
theorem ahH(ha:PE X a ta)(hb:PE X b tb){pins:List (Addr×Obj)}{s:Shared}{σ:St}{H:Hp}{R:V->V->Hp->Prop}(I:Inv X pins σ H s)
  (h:ta σ H fun x H1=>tb σ H1 fun y H2=>R x y H2) {Q:Value->Shared->Prop} {f:Value->Value->Sem Value}
  (hf:∀v u s2 x y H2,Inv X pins σ H2 s2->RelV x v->RelV y u->R x y H2->wpAny (model X.prog X.w) X.A (f v u) Q X.xe s2):
  wpAny (model X.prog X.w) X.A (eval a X.env) (fun v s₁=>wpAny (model X.prog X.w) X.A (eval b X.env) (fun u s₂=>wpAny (model X.prog X.w) X.A (f v u) Q X.xe s₂) X.xe s₁) X.xe s:=by
 refine thn (ha pins s σ H _ I h) fun v s1 ⟨x,H1,I1,r1,q1⟩=>?_
 refine thn (hb pins s1 σ H1 _ I1 q1) fun u s2 ⟨y,H2,I2,r2,q2⟩=>?_
 exact hf v u s2 x y H2 I2 r1 r2 q2
theorem aiS{op:Operator}{r:R2}(ho:OpR X (binaryOp op) r)(ha:PE X a ta)(hb:PE X b tb):PE X (.BinOp a op b pos) (tOp r ta tb):=by
 intro pins s σ H Q I h
 exact wpAny_BinOp (ahH ha hb I h fun v u s2 x y H2 I2 rx ry q=>ho pins s2 σ H2 x y v u Q I2 rx ry q)
theorem opI{f:Value->Value->Sem Value}{C:Int->Int->Prop}{g:Int->Int->Int}
  (rule:∀(i j:Int) (t u:Tok) (s:Shared) (Q:Value->Shared->Prop) (E:Value->Shared->Prop),C i j->Q (.int (g i j) s.toks) {s with toks:=s.toks+1}->wpAny (model X.prog X.w) X.A (f (.int i t) (.int j u)) Q E s):
  OpR X f (rI C fun i j=>.int (g i j)):=by
 intro pins s σ H x y v u Q I rx ry h
 obtain⟨i,j,rfl,rfl,hc,q⟩:=h
 obtain⟨t,rfl⟩:=rx
 obtain⟨t',rfl⟩:=ry
 exact rule i j t t' s _ _ hc ⟨.int (g i j),H,I.tok _,⟨_,rfl⟩,q⟩
theorem aiI{f:Value->Value->Sem Value}{g:Int->Int->Int}
  (rule:∀(i j:Int) (t u:Tok) (s:Shared) (Q:Value->Shared->Prop) (E:Value->Shared->Prop),Q (.int (g i j) s.toks) {s with toks:=s.toks+1}->wpAny (model X.prog X.w) X.A (f (.int i t) (.int j u)) Q E s):
  OpR X f (rI0 fun i j=>.int (g i j)):=by
 intro pins s σ H x y v u Q I rx ry h
 obtain⟨i,j,rfl,rfl,q⟩:=h
 obtain⟨t,rfl⟩:=rx
 obtain⟨t',rfl⟩:=ry
 exact rule i j t t' s _ _ ⟨.int (g i j),H,I.tok _,⟨_,rfl⟩,q⟩
theorem opB0{f:Value->Value->Sem Value}{g:Int->Int->Bool}
  (rule:∀(i j:Int) (t u:Tok) (s:Shared) (Q:Value->Shared->Prop) (E:Value->Shared->Prop),Q (.bool (g i j)) s->wpAny (model X.prog X.w) X.A (f (.int i t) (.int j u)) Q E s):
  OpR X f (rI0 fun i j=>.bl (g i j)):=by
 intro pins s σ H x y v u Q I rx ry h
 obtain⟨i,j,rfl,rfl,q⟩:=h
 obtain⟨t,rfl⟩:=rx
 obtain⟨t',rfl⟩:=ry
 exact rule i j t t' s _ _ ⟨.bl (g i j),H,I,rfl,q⟩
def ah0(i j:Int):Prop:=0<j/\j<1073741824
def ahV(i j:Int):Prop:=0<=j/\j<=1000000/\i.natAbs<2^64
def CMul(i j:Int):Prop:=(-(2^64)<i/\i<2^64)∨(-(2^64)<j/\j<2^64)
theorem CMul.ok{i j:Int}(h:CMul i j):IntMulOk i j:=by
 rcases h with ⟨h1,h2⟩ | ⟨h1,h2⟩
 ·exact .of_left (intBits_le_64 h1 h2)
 ·exact .of_right (intBits_le_64 h1 h2)
theorem ahG:OpR X (binaryOp .Add) (rI0 fun i j=>.int (i+j)):=aiI fun _ _ _ _ _ _ _ q=>add_int q
theorem ahK:OpR X (binaryOp .Sub) (rI0 fun i j=>.int (i-j)):=aiI fun _ _ _ _ _ _ _ q=>sub_int q
theorem ahC:OpR X (binaryOp .Mult) (rI CMul fun i j=>.int (i*j)):=opI fun _ _ _ _ _ _ _ hc q=>mul_int q hc.ok
theorem afX:OpR X (binaryOp .FloorDiv) (rI ah0 fun i j=>.int (i / j)):=opI fun i j _ _ _ _ _ hc q=>by
 have h1:(0:Int)<j:=hc.1
 have h2:j<1073741824:=hc.2
 exact floordiv_int (by omega) (by rw[Int.fdiv_eq_ediv_of_nonneg i (by omega)];exact q) (.inl (PyProof.noPylong_small (by omega)))
theorem ag3:OpR X (binaryOp .Mod) (rI (fun _ j=>0<j) fun i j=>.int (i%j)):=opI fun i j _ _ _ _ _ hc q=>by
 have h1:(0:Int)<j:=hc
 exact mod_int' (by omega) (by rw[Int.fmod_eq_emod_of_nonneg i (by omega)];exact q)
theorem agV:OpR X (binaryOp .Pow) (rI ahV fun i j=>.int (i^j.toNat)):=opI fun _ _ _ _ _ _ _ hc q=>pow_int_small hc.1 hc.2.1 hc.2.2 q
end
def ah6:V->V->Bool
 |.non,.non=>true | .non,.int _=>true | .int _,.non=>true | .non,.bl _=>true | .bl _,.non=>true | .non,.str _=>true | .str _,.non=>true
 |.int _,.int _=>true | .bl _,.bl _=>true | .str _,.str _=>true | .byt _,.byt _=>true
 |.int _,.str _=>true | .str _,.int _=>true | .bl _,.str _=>true | .str _,.bl _=>true
 |_,_=>false
def rEq:R2:=fun x y H Q=>ah6 x y=true/\Q (.bl (decide (x=y))) H
def rNe:R2:=fun x y H Q=>ah6 x y=true/\Q (.bl (!decide (x=y))) H
theorem adK{i j:Int}:decide (V.int i=V.int j)=(i==j):=by
 rw[Bool.eq_iff_iff]
 simp
theorem aeI{i j:Bool}:decide (V.bl i=V.bl j)=(i==j):=by
 rw[Bool.eq_iff_iff]
 simp
theorem adF{i j:Str}:decide (V.str i=V.str j)=(i==j):=by
 rw[Bool.eq_iff_iff]
 simp
theorem adM{i j:Array UInt8}:decide (V.byt i=V.byt j)=(i.toList==j.toList):=by
 rw[Bool.eq_iff_iff]
 cases i
 cases j
 simp
section
variable{X:Cx}{a b c:Expr}{ta tb tc:TE}{pos:Pos}
theorem aaE{pins:List (Addr×Obj)}{σ:St}{H:Hp}{s:Shared}{Q:VK}{k k':Bool}(I:Inv X pins σ H s)(q:Q (.bl k) H)(e:k=k'):EP X pins σ Q (.bool k') s:=by
 subst e
 exact⟨.bl k,H,I,rfl,q⟩
theorem ah2:OpR X (compareOp .Eq) rEq:=by
 intro pins s σ H x y v u Q I rx ry h
 obtain⟨hs,q⟩:=h
 cases x with
 |non=>
  cases rx
  cases y with
  |non=>cases ry;exact PySem.EqNone.eq_none_none (aaE I q (by simp))
  |bl j=>cases ry;exact PySem.EqNone.eq_none_bool (aaE I q (by simp))
  |int j=>obtain⟨t',rfl⟩:=ry;exact PySem.EqNone.eq_none_int (aaE I q (by simp))
  |str j=>obtain⟨t',rfl⟩:=ry;exact PySem.EqNone.eq_none_str (aaE I q (by simp))
  |_=>exact absurd (show false=true from hs) Bool.false_ne_true
 |bl i=>
  cases rx
  cases y with
  |non=>cases ry;exact PySem.EqNone.eq_bool_none (aaE I q (by simp))
  |bl j=>cases ry;exact eq_bool (aaE I q aeI)
  |str j=>obtain⟨t',rfl⟩:=ry;exact PySem.EqMixed.eq_bool_str (aaE I q (by simp))
  |_=>exact absurd (show false=true from hs) Bool.false_ne_true
 |int i=>
  obtain⟨t,rfl⟩:=rx
  cases y with
  |non=>cases ry;exact PySem.EqNone.eq_int_none (aaE I q (by simp))
  |int j=>obtain⟨t',rfl⟩:=ry;exact eq_int (aaE I q adK)
  |str j=>obtain⟨t',rfl⟩:=ry;exact PySem.EqMixed.eq_int_str (aaE I q (by simp))
  |_=>exact absurd (show false=true from hs) Bool.false_ne_true
 |str i=>
  obtain⟨t,rfl⟩:=rx
  cases y with
  |non=>cases ry;exact PySem.EqNone.eq_str_none (aaE I q (by simp))
  |bl j=>cases ry;exact PySem.EqMixed.eq_str_bool (aaE I q (by simp))
  |int j=>obtain⟨t',rfl⟩:=ry;exact PySem.EqMixed.eq_str_int (aaE I q (by simp))
  |str j=>obtain⟨t',rfl⟩:=ry;exact eq_str (aaE I q adF)
  |_=>exact absurd (show false=true from hs) Bool.false_ne_true
 |byt i=>
  obtain⟨t,rfl⟩:=rx
  cases y with
  |byt j=>obtain⟨t',rfl⟩:=ry;exact PySem.W.eq_bytes (aaE I q adM)
  |_=>exact absurd (show false=true from hs) Bool.false_ne_true
 |_=>cases y<;>exact absurd (show false=true from hs) Bool.false_ne_true
theorem aiG:OpR X (compareOp .NotEq) rNe:=by
 intro pins s σ H x y v u Q I rx ry h
 obtain⟨hs,q⟩:=h
 cases x with
 |non=>
  cases rx
  cases y with
  |non=>cases ry;exact PySem.EqNone.ne_none_none (aaE I q (by simp))
  |bl j=>cases ry;exact PySem.EqNone.ne_none_bool (aaE I q (by simp))
  |int j=>obtain⟨t',rfl⟩:=ry;exact PySem.EqNone.ne_none_int (aaE I q (by simp))
  |str j=>obtain⟨t',rfl⟩:=ry;exact PySem.EqNone.ne_none_str (aaE I q (by simp))
  |_=>exact absurd (show false=true from hs) Bool.false_ne_true
 |bl i=>
  cases rx
  cases y with
  |non=>cases ry;exact PySem.EqNone.ne_bool_none (aaE I q (by simp))
  |bl j=>cases ry;exact ne_bool (aaE I q (congrArg not aeI))
  |str j=>obtain⟨t',rfl⟩:=ry;exact PySem.EqMixed.ne_bool_str (aaE I q (by simp))
  |_=>exact absurd (show false=true from hs) Bool.false_ne_true
 |int i=>
  obtain⟨t,rfl⟩:=rx
  cases y with
  |non=>cases ry;exact PySem.EqNone.ne_int_none (aaE I q (by simp))
  |int j=>obtain⟨t',rfl⟩:=ry;exact ne_int (aaE I q (congrArg not adK))
  |str j=>obtain⟨t',rfl⟩:=ry;exact PySem.EqMixed.ne_int_str (aaE I q (by simp))
  |_=>exact absurd (show false=true from hs) Bool.false_ne_true
 |str i=>
  obtain⟨t,rfl⟩:=rx
  cases y with
  |non=>cases ry;exact PySem.EqNone.ne_str_none (aaE I q (by simp))
  |bl j=>cases ry;exact PySem.EqMixed.ne_str_bool (aaE I q (by simp))
  |int j=>obtain⟨t',rfl⟩:=ry;exact PySem.EqMixed.ne_str_int (aaE I q (by simp))
  |str j=>obtain⟨t',rfl⟩:=ry;exact ne_str (aaE I q (congrArg not adF))
  |_=>exact absurd (show false=true from hs) Bool.false_ne_true
 |byt i=>
  obtain⟨t,rfl⟩:=rx
  cases y with
  |byt j=>obtain⟨t',rfl⟩:=ry;exact PySem.W.ne_bytes (aaE I q (congrArg not adM))
  |_=>exact absurd (show false=true from hs) Bool.false_ne_true
 |_=>cases y<;>exact absurd (show false=true from hs) Bool.false_ne_true
theorem aiN:OpR X (compareOp .Lt) (rI0 fun i j=>.bl (decide (i<j))):=opB0 fun _ _ _ _ _ _ _ q=>lt_int q
theorem ae1(b:Expr){op:CmpOp}(h:op≠ .In:=by decide)(h2:op≠ .NotIn:=by decide):behindInMarks op b=false:=by
 have e1:(op==CmpOp.In)=false:=by cases op<;>first | rfl | exact absurd rfl h
 have e2:(op==CmpOp.NotIn)=false:=by cases op<;>first | rfl | exact absurd rfl h2
 cases b<;>simp[behindInMarks,e1,e2]
theorem afS{op:CmpOp}{r:R2}(ho:OpR X (compareOp op) r)(ha:PE X a ta)(hb:PE X b tb)(hm:behindInMarks op b=false):PE X (.Compare a [op] [b] pos) (tOp r ta tb):=by
 intro pins s σ H Q I h
 exact wpAny_Compare1 (ahH ha hb I h fun v u s2 x y H2 I2 rx ry q=>ho pins s2 σ H2 x y v u Q I2 rx ry q) hm
def af9(t:TE):TT:=fun σ H Q=>t σ H fun x H'=>∃k,x=.bl k/\Q k H'
theorem afP{op:CmpOp}{r:R2}(ho:OpR X (compareOp op) r)(ha:PE X a ta)(hb:PE X b tb)(hm:behindInMarks op b=false):PT X (.Compare a [op] [b] pos) (af9 (tOp r ta tb)):=by
 intro pins s σ H Q I h
 refine wpAny_isTrue_Compare1 (thn (ha pins s σ H _ I h) fun v s1 ⟨x,H1,I1,r1,q1⟩=>thn (hb pins s1 σ H1 _ I1 q1) fun u s2 ⟨y,H2,I2,r2,q2⟩=>
  thn (ho pins s2 σ H2 x y v u _ I2 r1 r2 q2) fun c s3 ⟨z,H3,I3,r3,k,e,q3⟩=>?_) hm
 subst e
 cases r3
 exact wpAny_truthy_bool ⟨H3,I3,q3⟩
theorem aeL:(sizeLine:Nat)<2^63:=by rw[sizeLine_eq];decide
theorem ae4{x:V}{us:List Value}(r:Vals [x] us):∃u,us=[u]/\RelV x u:=by
 cases r with
 |cons r1 r2=>cases r2;exact⟨_,rfl,r1⟩
theorem acQ{x y:V}{us:List Value}(r:Vals [x,y] us):∃u w',us=[u,w']/\RelV x u/\RelV y w':=by
 cases r with
 |cons r1 r2=>
  cases r2 with
  |cons r3 r4=>cases r4;exact⟨_,_,rfl,r1,r3⟩
theorem ad4(hc:X.calm=true):abM X (.builtin "max") (fun xs H Q=>∃i j,xs=[.int i,.int j]/\Q (.int (if j>i then j else i)) H):=by
 intro pins s σ H xs us Q I r h
 obtain⟨i,j,rfl,q⟩:=h
 obtain⟨u,w',rfl,⟨t,rfl⟩,⟨t',rfl⟩⟩:=acQ r
 refine max_two_ints (I.ok.hd hc) fun h' tk k=>⟨_,H,I.kept k,?_,q⟩
 by_cases hj:j>i
 ·rw[if_pos hj,if_pos hj];exact⟨_,rfl⟩
 ·rw[if_neg hj,if_neg hj];exact⟨_,rfl⟩
theorem adW(hc:X.calm=true):abM X (.builtin "min") (fun xs H Q=>∃i j,xs=[.int i,.int j]/\Q (.int (if j<i then j else i)) H):=by
 intro pins s σ H xs us Q I r h
 obtain⟨i,j,rfl,q⟩:=h
 obtain⟨u,w',rfl,⟨t,rfl⟩,⟨t',rfl⟩⟩:=acQ r
 refine min_two_ints (I.ok.hd hc) fun h' tk k=>⟨_,H,I.kept k,?_,q⟩
 by_cases hj:j<i
 ·rw[if_pos hj,if_pos hj];exact⟨_,rfl⟩
 ·rw[if_neg hj,if_neg hj];exact⟨_,rfl⟩
theorem ad2:abM X (.type "int") (fun xs H Q=>(∃i,xs=[.int i]/\Q (.int i) H)∨∃k,xs=[.bl k]/\Q (.int (if k then 1 else 0)) H):=by
 intro pins s σ H xs us Q I r h
 rcases h with ⟨i,rfl,q⟩ | ⟨k,rfl,q⟩
 ·obtain⟨u,rfl,t,rfl⟩:=ae4 r
  exact call_int_int ⟨.int i,H,I,⟨_,rfl⟩,q⟩
 ·obtain⟨u,rfl,r1⟩:=ae4 r
  cases r1
  exact call_int_bool ⟨.int (if k then 1 else 0),H,I.tok _,⟨_,rfl⟩,q⟩
end
theorem ad9{h:Heap}{dx:Addr}{mA:Str->Option Value}(n:h.Ns1 dx mA):∃od,h.get? dx=some od/\∀name,PySem.W.lookIn name od=some (mA name):=by
 obtain⟨o,es,ep,ho,hd,hk,_,hm⟩:=n
 refine⟨o,ho,fun name=>?_⟩
 have e:=hm name
 unfold nsFind findBy at e
 rw[←Array.find?_toList] at e
 unfold PySem.W.lookIn
 rw[hd]
 dsimp only
 split
 ·rename_i y q
  rw[q] at e
  exact congrArg some e
 ·rename_i q
  rw[q] at e
  have a:es.toList.any (·.refKey)=false:=by
   rw[List.any_eq_false]
   intro y hy
   obtain⟨z,t,hkey⟩:=hk y (Array.mem_toList_iff.mp hy)
   simp[DictEntry.refKey,hkey]
  have a':¬es.toList.any (·.refKey)=true:=by rw[a];exact Bool.false_ne_true
  rw[if_neg a']
  exact congrArg some e
section
variable{prog:Program}{w:World}{A:Around}{E:Value->Shared->Prop}{s:Shared}{K:PySem.W.Frag}{x dx C f:Addr}{mA:Str->Option Value}{name:Str}{v:Value}
end
def ag4(f:Str)(v:V):List (Str×V)->List (Str×V)
 |[]=>[(f,v)]
 |(g,x)::r=>if g=f then (g,v)::r else (g,x)::ag4 f v r
theorem adX{v:V}{u:Value}(r:RelV v u):PySem.W.handedIn u=true:=by
 cases v with
 |non=>cases (show u=Value.none from r);rfl
 |bl b=>cases (show u=Value.bool b from r);rfl
 |int i=>obtain⟨t,e⟩:=(show ∃t,u=Value.int i t from r);cases e;rfl
 |str x=>obtain⟨t,e⟩:=(show ∃t,u=Value.str x t from r);cases e;rfl
 |byt b=>obtain⟨t,e⟩:=(show ∃t,u=Value.bytes b t from r);cases e;rfl
 |flt b=>obtain⟨t,e⟩:=(show ∃t,u=Value.float b t from r);cases e;rfl
 |ref a=>cases (show u=Value.ref a from r);rfl
 |ty n=>cases (show u=Value.type n from r);rfl
section
variable{P:Program}{w:World}{H H':Hp}{h h':Heap}{a C dx:Addr}{fs fs':List (Str×V)}
end
structure Cls(K:PySem.W.Frag)(C:Addr):Prop where
 pg:PySem.W.plainGet K C Str.empty=true
 hd:PySem.W.hasDictIn K C=true
 po:PySem.W.plainOver K C=true
 sa:PySem.W.findIn K (.ref C) "__setattr__"=some (some (.builtin "object.__setattr__"))
structure Meth(K:PySem.W.Frag)(C:Addr)(m:Str)(f:Addr):Prop where
 at_:PySem.W.findIn K (.ref C) m=some (some (.ref f))
 fn:PySem.W.isFn K (.ref f)=true
 kp:PySem.W.keepIn K (.ref f)=true
section
variable{X:Cx}{pins:List (Addr×Obj)}{σ:St}{H:Hp}{s:Shared}{a C dx:Addr}{fs:List (Str×V)}{f:Str}{v:V}{A:Around}{E:Value->Shared->Prop}
theorem afZ{prog:Program}{w:World}{env:Env}{e:Expr}{f:Str}{pos:Pos}{s:Shared}{Q:Value->Shared->Prop}(hb:attributeBase e f env (eval e env)=eval e env)
  (h:wpAny (model prog w) A (eval e env) (fun o s₁=>wpAny (model prog w) A (getAttr o f true) Q E s₁) E s):wpAny (model prog w) A (eval (.Attribute e f pos) env) Q E s:=
 Attribute_any_ h (by rw[arm_eval_Attribute,hb])
end
section
variable{X:Cx}{o e value:Expr}{f:Str}{pos pos' tpos:Pos}{ta tv:TE}
end
section
variable{X:Cx}{pins:List (Addr×Obj)}{σ:St}{H:Hp}{s:Shared}{A:Around}{E:Value->Shared->Prop}{Q:Value->Shared->Prop}{c:Value}{b:Bool}
inductive TyOf (K:PySem.W.Frag) (H:Hp):V->Value->Prop where
 |non:TyOf K H .non (.type "NoneType")
 |bl (x:Bool):TyOf K H (.bl x) (.type "bool")
 |int (i:Int):TyOf K H (.int i) (.type "int")
 |str (x:Str):TyOf K H (.str x) (.type "str")
 |flt (x:UInt64):TyOf K H (.flt x) (.type "float")
 |lst {a:Addr} {xs:List V} (e:H a=some (.lst xs)):TyOf K H (.ref a) (.type "list")
 |frz {a:Addr} {o:Obj} {xs:List V} (e:H a=some (.frz o (.lst xs))):TyOf K H (.ref a) (.type "list")
 |tup {a:Addr} {xs:List V} (e:H a=some (.tup xs)):TyOf K H (.ref a) (.type "tuple")
 |dK {a:Addr} {kvs:List (Key×V)} (e:H a=some (.dK kvs)):TyOf K H (.ref a) (.type "dict")
 |dT {a:Addr} {kvs:List (List Key×V)} (e:H a=some (.dT kvs)):TyOf K H (.ref a) (.type "dict")
 |ins {a C dx:Addr} {fs:List (Str×V)} (e:H a=some (.ins C dx fs)) (cl:Cls K C) (ha:PySem.W.findIn K (.ref C) "__class__"=some (some (.builtin "object.__class__")))
   (hn:PySem.W.specialIn K (.builtin "object.__class__") "__get__"=some (some (.builtin "getset_descriptor.__get__"))) (htk:PySem.W.takesIn K (.builtin "object.__class__")=some true)
   (hm:PySem.W.mroIn K C (.type "object")=some true):TyOf K H (.ref a) (.ref C)
end
structure Room(k:Nat)(A:Around):Prop where
 hd:A.handled=none
 dp:A.depth+3*k+5<recursionLimit
 un:A.units+16*k+200<cLine
theorem Room.mono{j k:Nat}{A:Around}(r:Room k A)(h:j<=k):Room j A:=⟨r.hd,by have:=r.dp;omega,by have:=r.un;omega⟩
theorem Room.deeper{k:Nat}{A:Around}(r:Room (k+1) A)(env:Env):Room k (A.deeper env):=
 ⟨r.hd,by have:=r.dp;show A.depth+1+3*k+5<_;omega,by have:=r.un;show A.units+3+16*k+200<_;omega⟩
theorem ac9{A:Around}{C:Addr}{us:List Value}{kw:List (Str×Value)}:(A.under (.builtin "type.__call__" ⟨.ref C::us,kw⟩)).depth=A.depth+1:=by
 first | rfl | simp[Around.under,Code.weight,Code.isCreation,Code.isGuard,Code.isCaller,Code.frames,Code.isFrame,guardIds]
theorem ac1{A:Around}{C:Addr}{us:List Value}{kw:List (Str×Value)}:(A.under (.builtin "type.__call__" ⟨.ref C::us,kw⟩)).units=A.units+1:=by
 first | rfl | simp[Around.under,Code.cUnits,Code.frames,Code.isFrame]
theorem Room.make{k:Nat}{A:Around}(r:Room (k+1) A)(C:Addr)(us:List Value)(kw:List (Str×Value)):Room k (A.under (.builtin "type.__call__" ⟨.ref C::us,kw⟩)):=
 ⟨r.hd,by have:=r.dp;rw[ac9];omega,by have:=r.un;rw[ac1];omega⟩
theorem Room.depth{k:Nat}{A:Around}(r:Room k A):A.depth<recursionLimit:=by have:=r.dp;omega
def ag9:TA:=fun _ H Q=>Q [] H
def af6(ta:TE)(tr:TA):TA:=fun σ H Q=>ta σ H fun x H1=>tr σ H1 fun xs H2=>Q (x::xs) H2
section
variable{X:Cx}{e:Expr}{es:List Expr}{te:TE}{t:TA}{pos:Pos}
theorem ahD:PA X [] ag9:=fun _ _ _ _ H Q I h=>Calls.spliced_nil ⟨[],H,I,.nil,h⟩
theorem af3(ha:PE X e te)(hr:PA X es t)(hs:starEach (e::es) X.env=(false,eval e X.env)::starEach es X.env:=by rfl):PA X (e::es) (af6 te t):=by
 intro pos pins s σ H Q I h
 rw[hs]
 show wpAny _ _ (spliced ((false,eval e X.env)::backTo pos (starEach es X.env))) _ _ s
 refine Calls.spliced_cons (thn (ha pins s σ H _ I h) fun u s1 ⟨x,H1,I1,r1,q1⟩=>?_)
 exact thn (hr pos pins s1 σ H1 _ I1 q1) fun us s2 ⟨xs,H2,I2,r2,q2⟩=>⟨x::xs,H2,I2,.cons r1 r2,q2⟩
def aiZ(t:TA):TE:=fun σ H Q=>t σ H fun xs H1=>xs.length<=sizeLine/\∀p,H1 p=none->Q (.ref p) (upd H1 p (.lst xs))
theorem agQ(h:PA X es t):PE X (.List es pos) (aiZ t):=by
 intro pins s σ H Q I hq
 refine wpAny_List_spliced (thn (h pos pins s σ H _ I hq) fun us s1 ⟨xs,H1,I1,r,z,q⟩=>⟨by rw[←r.length];exact z,?_⟩)
 have hf:H1 s1.heap.objs.size=none:=I1.hok.fresh (Nat.le_refl _)
 refine⟨.ref s1.heap.objs.size,upd H1 s1.heap.objs.size (.lst xs),I1.laid (t':=s1.toks) (fun b u e=>Heap.get?_push_of_some _ e) (Nat.le_refl _) ?_,rfl,q _ hf⟩
 exact⟨z,us,0,r,Heap.get?_push_size _ rfl⟩
end
abbrev Sp:=List V->Hp->VK->XK->Prop
abbrev CXT:=List Env->Hp->Shared->XK->Value->Shared->Prop
structure Env0(P:Program)(w:World)(K:PySem.W.Frag)(mg:Str->Option Value)(base:Heap)(A:Around)(outer:List Env)(s:Shared)(H:Hp):Prop where
 frames:A.frames=some outer
 mod:Mod K mg base
 bs:∀b o,base.get? b=some o->s.heap.get? b=some o/\H b=none
 bsz:base.objs.size<=s.heap.objs.size
 funs:s.heap.FunFrames base outer
 frf:∀b∈frs outer,H b=none
 hok:HOk P w H s.heap
 bare:AllBare s.gens
def CE(outer:List Env)(P:Program)(w:World)(H:Hp)(s:Shared)(Q:VK)(u:Value)(s':Shared):Prop:=
 ∃v H',s'.os=s.os/\AllBare s'.gens/\Un (frs outer) [] H H' s.heap s'.heap/\HOk P w H' s'.heap/\RelV v u/\Q v H'
def CR(CX:CXT)(outer:List Env)(P:Program)(w:World)(H:Hp)(s:Shared)(Q:VK)(E:XK)(r:Result)(s':Shared):Prop:=
 match r with
 |.ok (.ret u)=>CE outer P w H s Q u s'
 |.ok _=>False
 |.error e=>CX outer H s E e s'
structure FnOk(P:Program)(w:World)(K:PySem.W.Frag)(mg:Str->Option Value)(base:Heap)(CX:CXT)(k:Nat)(f:Addr)(fd:FuncData)(ps:List Str)(sp:Sp):Prop where
 len:∀vs H Q E,sp vs H Q E->vs.length=ps.length
 run:∀(A:Around) (outer:List Env) (s:Shared) (H:Hp) (args:Args) (us:List Value) (vs:List V) (Q:VK) (E:XK),Room k A->Env0 P w K mg base A outer s H->BindsTo s fd args (ps.zip us)->Vals vs us->sp vs H Q E->
  codeAny (model P w) A (.call (.ref f) args) (CR CX outer P w H s Q E) s
theorem Env0.make{P:Program}{w:World}{K:PySem.W.Frag}{mg:Str->Option Value}{base:Heap}{A:Around}{outer:List Env}{s:Shared}{H:Hp}(e:Env0 P w K mg base A outer s H)(C:Addr)(us:List Value)(kw:List (Str×Value)):
  Env0 P w K mg base (A.under (.builtin "type.__call__" ⟨.ref C::us,kw⟩)) outer s H:=⟨by first | exact e.frames | (simpa [Around.under,Code.envs,Code.isFrame,pushEnvs] using e.frames),e.mod,e.bs,e.bsz,e.funs,e.frf,e.hok,e.bare⟩
section
variable{X:Cx}{pins:List (Addr×Obj)}{σ:St}{H:Hp}{s s':Shared}
theorem Inv.env0(I:Inv X pins σ H s):Env0 X.prog X.w X.K X.mg X.base X.A X.stack s H:=
 ⟨I.ok.frames,I.ok.mod,I.bs,Nat.le_trans I.ok.bsz I.sz,I.stack,I.stkFree,I.hok,I.bare⟩
theorem Inv.after{Q:VK}{u:Value}(I:Inv X pins σ H s)(h:CE X.stack X.prog X.w H s Q u s'):EP X pins σ Q u s':=by
 obtain⟨v,H',os,bare,un,hok,r,q⟩:=h
 obtain⟨hh,g,d,t,os'⟩:=s'
 obtain rfl:os'=s.os:=os
 exact⟨v,H',I.call (h':=hh) (g':=g) (d':=d) (t':=t) (ch:=[]) un hok bare (fun b z=>absurd z (by simp)),r,q⟩
end
def adI(sp:Sp)(dvs:List V)(E:XK)(t:TA):TE:=fun σ H Q=>t σ H fun vs H1=>sp (vs++dvs) H1 Q E
def Binds(K:PySem.W.Frag)(fd:FuncData)(ps:List Str)(ds:List Value):Prop:=
 ∀(s:Shared) (us:List Value),K.In s.heap->(us++ds).length=ps.length->BindsTo s fd ⟨us,[]⟩ (ps.zip (us++ds))
theorem Binds.all{K:PySem.W.Frag}{fd:FuncData}{ps:List Str}(h:∀us:List Value,us.length=ps.length->bindArgs fd ⟨us,[]⟩=pure (ps.zip us)):Binds K fd ps []:=fun s us _ hl=>by
 rw[List.append_nil] at hl ⊢
 exact .of_eq (h us hl)
def ac2(CX:CXT)(X:Cx)(E:XK):Prop:=∀(pins:List (Addr×Obj)) (σ:St) (H:Hp) (s:Shared) (e:Value) (s':Shared),Inv X pins σ H s->CX X.stack H s E e s'->X.xe e s'
section
variable{X:Cx}{CX:CXT}{k:Nat}{f C:Addr}{fd:FuncData}{ps:List Str}{sp:Sp}{dvs:List V}{ds:List Value}{E:XK}{x m:Str}{p pos apos:Pos}{e o:Expr}{es:List Expr}{ta:TE}{t:TA}
theorem agZ{pins:List (Addr×Obj)}{σ:St}{H:Hp}{s:Shared}{Q:VK}{us:List Value}{vs:List V}(F:FnOk X.prog X.w X.K X.mg X.base CX k f fd ps sp)(hr:Room k X.A)(hb:Binds X.K fd ps ds)(hd:Vals dvs ds)(hx:ac2 CX X E)
  (I:Inv X pins σ H s) (r:Vals vs us) (h:sp (vs++dvs) H Q E):wpAny (model X.prog X.w) X.A (call (.ref f) us) (EP X pins σ Q) X.xe s:=by
 have r2:Vals (vs++dvs) (us++ds):=r.append hd
 have hl:(us++ds).length=ps.length:=by rw[←r2.length];exact F.len _ _ _ _ h
 refine wpAny_call (codeAny_mono (F.run X.A X.stack s H ⟨us,[]⟩ (us++ds) (vs++dvs) Q E hr I.env0 (hb s us I.kIn hl) r2 h) fun r s' hq=>?_)
 cases r with
 |error e=>exact hx pins σ H s e s' I hq
 |ok fl=>
  cases fl with
  |ret u=>exact I.after hq
  |next=>exact False.elim hq
  |brk=>exact False.elim hq
  |cont=>exact False.elim hq
theorem afK(F:FnOk X.prog X.w X.K X.mg X.base CX k f fd ps sp)(hr:Room k X.A)(hg:Gl X x)(hm:X.mg x=some (.ref f))(hk:PySem.W.keepIn X.K (.ref f)=true)(hb:Binds X.K fd ps ds)(hd:Vals dvs ds)(hx:ac2 CX X E)
  (ha:PA X (e::es) t) (hdb:(x==("__debug__":Str))=false:=by decide) (he:starEach (e::es) X.env=(false,eval e X.env)::starEach es X.env:=by rfl) (hpl:(backTo pos (starEach es X.env)).any (·.1)=false:=by rfl):
  PE X (.Call (.Name x p) (e::es) [] pos) (adI sp dvs E t):=by
 intro pins s σ H Q I h
 refine wpAny_Call_Name_kw (aaM I hg hm ?_ hdb)
 refine PySem.W.callWith_K (h₀:=X.base) I.ok.mod.kin hk (thn (ha pos pins s σ H _ I h) fun us s1 ⟨vs,H1,I1,r,q⟩=>⟨I1.kIn,?_⟩) he hpl
 exact agZ F hr hb hd hx I1 r q
structure Mk(K:PySem.W.Frag)(C f:Addr):Prop where
 makes:PySem.W.makesIn K C=true
 init:PySem.W.findIn K (.ref C) "__init__"=some (some (.ref f))
 fn:PySem.W.isFn K (.ref f)=true
 kp:PySem.W.keepIn K (.ref C)=true
end
section
variable{X:Cx}{CX:CXT}{k:Nat}{f C:Addr}{fd:FuncData}{ps ks:List Str}{sp:Sp}{E:XK}{x m:Str}{p pos apos kpos:Pos}{e o:Expr}{es:List Expr}{kws:List Keyword}{te ta:TE}{t tk:TA}{nm:Option Str}
variable{g:List Value->List Value->List Value}{gV:List V->List V->List V}
end
structure FnScope(N P:List Str)(sc:Scope):Prop where
 kind:sc.kind=.function
 co:sc.isCoroutine=false
 gen:sc.isGenerator=false
 nd:N.Nodup
 pre:N.take P.length=P
 par:∀x∈P,sc.names.lookup x=some .local∨sc.names.lookup x=some .cell
 nofree:∀y∈sc.names,y.2≠ .free
theorem acF{kindOf:Str->Option NameKind}{x:Str}:∀{binds:List (Str×Value)} {m:Str->Option Value},(∀v,(x,v)∉binds)->bindL kindOf binds m x=m x
 |[],_,_=>rfl
 |(n,v)::r,m,h=>by
  unfold bindL
  rw[acF fun w hw=>h w (List.mem_cons_of_mem _ hw)]
  split
  ·have:x≠n:=by rintro rfl;exact h v List.mem_cons_self
   simp[this]
  ·rfl
theorem ab7{kindOf:Str->Option NameKind}{x:Str}:∀{binds:List (Str×Value)} {m:Str->Option Value},(∀v,(x,v)∉binds)->bindC kindOf binds m x=m x
 |[],_,_=>rfl
 |(n,v)::r,m,h=>by
  unfold bindC
  rw[ab7 fun w hw=>h w (List.mem_cons_of_mem _ hw)]
  split
  ·rfl
  ·have:x≠n:=by rintro rfl;exact h v List.mem_cons_self
   simp[this]
theorem acE{kindOf:Str->Option NameKind}{x:Str}{v:Value}:∀{P:List Str} {vs:List Value} {i:Nat} {m:Str->Option Value},P.Nodup->P[i]? =some x->vs[i]? =some v->kindOf x=some .local->
  bindL kindOf (P.zip vs) m x=some v
 |[],_,_,_,_,h,_,_=>by simp at h
 |_::_,[],_,_,_,_,h,_=>by simp at h
 |p::P,w::vs,0,m,nd,h1,h2,hk=>by
  simp at h1 h2;subst h1;subst h2
  show bindL kindOf ((p,w)::P.zip vs) m p=_
  unfold bindL
  rw[acF fun v hv=>(List.nodup_cons.mp nd).1 (List.of_mem_zip hv).1,if_pos hk]
  simp
 |p::P,w::vs,i+1,m,nd,h1,h2,hk=>by
  show bindL kindOf ((p,w)::P.zip vs) m x=_
  unfold bindL
  exact acE (i:=i) (List.nodup_cons.mp nd).2 (by simpa using h1) (by simpa using h2) hk
theorem ab8{kindOf:Str->Option NameKind}{x:Str}{v:Value}:∀{P:List Str} {vs:List Value} {i:Nat} {m:Str->Option Value},P.Nodup->P[i]? =some x->vs[i]? =some v->kindOf x≠some .local->
  bindC kindOf (P.zip vs) m x=some v
 |[],_,_,_,_,h,_,_=>by simp at h
 |_::_,[],_,_,_,_,h,_=>by simp at h
 |p::P,w::vs,0,m,nd,h1,h2,hk=>by
  simp at h1 h2;subst h1;subst h2
  show bindC kindOf ((p,w)::P.zip vs) m p=_
  unfold bindC
  rw[ab7 fun v hv=>(List.nodup_cons.mp nd).1 (List.of_mem_zip hv).1,if_neg hk]
  simp
 |p::P,w::vs,i+1,m,nd,h1,h2,hk=>by
  show bindC kindOf ((p,w)::P.zip vs) m x=_
  unfold bindC
  exact ab8 (i:=i) (List.nodup_cons.mp nd).2 (by simpa using h1) (by simpa using h2) hk
def aaJ(N:List Str)(vs:List V):St:=vs.map some++List.replicate (N.length-vs.length) none
def aaR(CX:CXT)(P:Program)(w:World)(K:PySem.W.Frag)(mg:Str->Option Value)(base:Heap)(N:List Str)(qual:Str)(scope:Scope)(f:Addr)(cd:Value)(A:Around)(outer:List Env)(s:Shared)(H:Hp)(E:XK):Cx where
 prog:=P
 w:=w
 K:=K
 mg:=mg
 base:=base
 A:=A.deeper (envOfC qual scope s.heap.objs.size f cd)
 N:=N
 s₀:=s
 H₀:=H
 env:=envOfC qual scope s.heap.objs.size f cd
 outer:=outer
 stack:=envOfC qual scope s.heap.objs.size f cd::outer
 ex:=[]
 calm:=true
 fn:=fun _=>true
 pn:=[]
 xe:=fun e s'=>wpAny (model P w) (A.deeper (envOfC qual scope s.heap.objs.size f cd)) (leaving (envOfC qual scope s.heap.objs.size f cd) e) (fun _ s''=>CX outer H s E e s'') (fun e' s''=>CX outer H s E e' s'') s'
theorem acW{sc:Scope}{n:Nat}{x:Str}(h:sc.names.lookup x=some .cell):∃c,(cellsFrom n sc.names []).lookup x=some c:=by
 have q:=PySem.W.cellsFrom_some sc.names n [] (.inl h)
 exact Option.isSome_iff_exists.mp q
theorem acG{CX:CXT}{P:Program}{w:World}{K:PySem.W.Frag}{mg:Str->Option Value}{base:Heap}{N ps:List Str}{qual:Str}{scope:Scope}{f:Addr}{cd:Value}{A:Around}{outer:List Env}{s s1:Shared}{H:Hp}{E:XK}{us:List Value}{vs:List V}
  (S:FnScope N ps scope) (hd:A.handled=none) (e0:Env0 P w K mg base A outer s H) (hl:vs.length=ps.length) (r:Vals vs us)
  (x:InCallC s s.heap.objs.size (bindL (envOfC qual scope s.heap.objs.size f cd).kindOf (ps.zip us) fun _=>none) (cellsFrom (s.heap.objs.size+1) scope.names []) (bindC (envOfC qual scope s.heap.objs.size f cd).kindOf (ps.zip us) fun _=>none) s1):
  Inv (aaR CX P w K mg base N qual scope f cd A outer s H E) [] (aaJ N vs) H s1:=by
 have hpl:ps.length<=N.length:=by have:=congrArg List.length S.pre;rw[List.length_take] at this;omega
 obtain⟨h1,tk,rfl,hk⟩:=x.done
 have noA:∀b:Addr,b∉(aaR CX P w K mg base N qual scope f cd A outer s H E).ex:=fun b z=>absurd (show b∈([]:List Addr) from z) (by simp)
 refine⟨⟨e0.mod,S.kind,rfl,rfl,Nat.le_refl _,fun y z c h1 h2=>?_,fun y hy=>?_,fun y c _ h=>?_,fun _=>hd,Around.frames_deeper e0.frames,.inr ⟨rfl,rfl⟩,fun b z=>absurd z (noA b),e0.bs,e0.bsz,fun b _ _=>noA b,fun b z=>absurd z (noA b),e0.funs,e0.frf⟩,
  rfl,e0.bare,Un.kept hk,⟨_,x.toInCall.ns,fun i y v h1 h2 h3=>?_⟩,fun y c h=>⟨_,x.cell y c h⟩,e0.hok.fresh (Nat.le_refl _),fun y c h=>?_,fun p hp=>absurd (show p∈([]:List (Addr×Obj)) from hp) (by simp),e0.hok.kept hk,?_⟩
 ·exact name_of_addr x.apart (PySem.mem_of_lookup h1) (PySem.mem_of_lookup h2)
 ·have hy:scope.names.lookup y=some .cell∨scope.names.lookup y=some .free:=hy
  rcases hy with hy | hy
  ·exact acW hy
  ·exact absurd rfl (S.nofree _ (PySem.mem_of_lookup hy))
 ·exact Nat.le_of_lt (x.above y c (PySem.mem_of_lookup h))
 ·have hi:i<vs.length:=by
   unfold aaJ at h2
   by_cases hi:i<vs.length
   ·exact hi
   ·rw[List.getElem?_append_right (by simpa using hi)] at h2
    rw[List.getElem?_replicate] at h2
    split at h2<;>cases h2
  have ha:vs[i]? =some v:=by
   unfold aaJ at h2
   rw[List.getElem?_append_left (by simpa using hi),List.getElem?_map] at h2
   cases e:vs[i]? with
   |none=>rw[e] at h2;cases h2
   |some a=>rw[e] at h2;cases h2;rfl
  obtain⟨u,hu,rv⟩:=r.get ha
  have hp:ps[i]? =some y:=by
   rw[←S.pre,List.getElem?_take_of_lt (by omega)];exact h1
  have ndP:ps.Nodup:=by rw[←S.pre];exact S.nd.sublist (List.take_sublist _ _)
  refine⟨u,rv,?_⟩
  rcases S.par y (List.mem_of_getElem? hp) with k | k
  ·exact .inl ⟨k,acE ndP hp hu k⟩
  ·obtain⟨c,e⟩:=acW (n:=s.heap.objs.size+1) k
   refine .inr ⟨.inl k,c,e,?_⟩
   have q:=x.cell y c e
   rw[ab8 ndP hp hu (by show scope.names.lookup y≠_;rw[k];decide)] at q
   exact q
 ·exact e0.hok.fresh (Nat.le_of_lt (x.above y c (PySem.mem_of_lookup h)))
 ·unfold aaJ
  show _=N.length
  rw[List.length_append,List.length_map,List.length_replicate]
  omega
theorem agJ{CX:CXT}{P:Program}{w:World}{K:PySem.W.Frag}{mg:Str->Option Value}{base:Heap}{k:Nat}{f:Addr}{name qual:Str}{params:Arguments}{body:List Stmt}{scope:Scope}{dV kV doc pm cdv ct oc:Value}{an od:Option Addr}
  {osl:Array (Option Value)} {N ps:List Str} {sp:Sp} (lk:K.lookup f=some ⟨oc,od,.func (PySem.W.fnOf name qual params body scope dV kV doc pm an cdv ct),osl⟩) (hcd:PySem.W.codeIn K cdv qual=true) (S:FnScope N ps scope)
  (len:∀vs H Q E,sp vs H Q E->vs.length=ps.length)
  (hbody:∀(A:Around) (outer:List Env) (s:Shared) (H:Hp) (vs:List V) (Q:VK) (E:XK),Room k (A.deeper (envOfC qual scope s.heap.objs.size f cdv))->sp vs H Q E->
   ∃t,PSs (aaR CX P w K mg base N qual scope f cdv A outer s H E) body t/\t {nx:=fun _ H'=>Q .non H',rt:=Q} (aaJ N vs) H):
  FnOk P w K mg base CX (k+1) f (PySem.W.fnOf name qual params body scope dV kV doc pm an cdv ct) ps sp:=by
 refine⟨len,fun A outer s H args us vs Q E hr e0 hb r hsp=>?_⟩
 have hl:=len _ _ _ _ hsp
 have KX:K.In s.heap:=e0.mod.kin.keeps fun b o e=>(e0.bs b o e).1
 have lim:s.heap.NoLimit:=e0.mod.nolimit.keeps fun b o e=>(e0.bs b o e).1
 have hkind:∀y∈ps.zip us,scope.names.lookup y.1=some .local∨(scope.names.lookup y.1=some .cell/\((cellsFrom (s.heap.objs.size+1) scope.names []).lookup y.1).isSome=true):=fun ⟨n,v⟩ hy=>by
  rcases S.par n (List.of_mem_zip hy).1 with q | q
  ·exact .inl q
  ·exact .inr ⟨q,PySem.W.cellsFrom_some _ _ _ (.inl q)⟩
 refine codeAny_call_function hr.depth (KX _ _ lk) rfl S.co S.gen rfl (PySem.W.codeRec_of KX hcd) (hb _ _ _ _ ?_)
 refine wpAny_newFunctionEnv_cells S.kind hkind fun env he s1 x=>?_
 subst he
 refine⟨lim.keeps x.toInCall.keep,codeAny_func ?_⟩
 obtain⟨t,ht,hq⟩:=hbody A outer s H vs Q E (hr.deeper _) hsp
 have I:Inv (aaR CX P w K mg base N qual scope f cdv A outer s H E) [] (aaJ N vs) H s1:=acG S hr.hd e0 hl r x
 refine wpAny_mono (ht [] s1 (aaJ N vs) H _ I hq) (fun fl s' hs=>?_) fun e s' hs=>hs
 have fin:∀{σ':St} {H':Hp} {v:V} {u:Value},Inv (aaR CX P w K mg base N qual scope f cdv A outer s H E) [] σ' H' s'->RelV v u->Q v H'->CE outer P w H s Q u s':=
  fun {σ' H' v u} J rv q=>⟨v,H',J.os,J.bare,J.base,J.hok,rv,q⟩
 cases fl with
 |ret u=>
  obtain⟨v,σ',H',J,rv,q⟩:=hs
  exact fin J rv q
 |next=>
  obtain⟨σ',H',J,q⟩:=hs
  exact fin (v:=V.non) (u:=Value.none) J rfl q
 |brk=>
  obtain⟨_,_,_,q⟩:=hs
  exact False.elim q
 |cont=>
  obtain⟨_,_,_,q⟩:=hs
  exact False.elim q
section
variable{X:Cx}{x:Str}{p pos:Pos}{e:Expr}{es:List Expr}{t:TA}{id T:String}{r:List V->Hp->VK->Prop}
def tCB(r:List V->Hp->VK->Prop)(t:TA):TE:=fun σ H Q=>t σ H fun vs H1=>r vs H1 Q
theorem ae2(hc:abM X (.builtin id) r)(hg:Gl X x)(hm:X.mg x=none)(hv:bootBuiltins x=some (.builtin id))(ha:PA X (e::es) t)(hn:x≠"__name__":=by decide)(hdb:(x==("__debug__":Str))=false:=by decide)
  (he:starEach (e::es) X.env=(false,eval e X.env)::starEach es X.env:=by rfl) (hpl:(backTo pos (starEach es X.env)).any (·.1)=false:=by rfl):PE X (.Call (.Name x p) (e::es) [] pos) (tCB r t):=by
 intro pins s σ H Q I h
 refine wpAny_Call_Name_kw (abP I hg hm hv ?_ hn hdb)
 exact PyProof.Rows.callWith_builtin1 (thn (ha pos pins s σ H _ I h) fun us s1 ⟨vs,H1,I1,r1,q1⟩=>hc pins s1 σ H1 vs us Q I1 r1 q1) he hpl
theorem adT(hc:abM X (.type T) r)(hg:Gl X x)(hm:X.mg x=none)(hv:bootBuiltins x=some (.type T))(ha:PA X (e::es) t)(hn:x≠"__name__":=by decide)(hdb:(x==("__debug__":Str))=false:=by decide)
  (he:starEach (e::es) X.env=(false,eval e X.env)::starEach es X.env:=by rfl) (hpl:(backTo pos (starEach es X.env)).any (·.1)=false:=by rfl):PE X (.Call (.Name x p) (e::es) [] pos) (tCB r t):=by
 intro pins s σ H Q I h
 refine wpAny_Call_Name_kw (abP I hg hm hv ?_ hn hdb)
 exact PyProof.Rows.callWith_type1 (thn (ha pos pins s σ H _ I h) fun us s1 ⟨vs,H1,I1,r1,q1⟩=>hc pins s1 σ H1 vs us Q I1 r1 q1) he hpl
end
end L2
namespace HT
open PySem PyProof.Rows
section
open PySem.SeqAt
open PySem.AutoSeq1 (wpAny_loadPart')
open PySem.MeetsSeq PySem.MeetsSeq2 PySem.MeetsSeq3
end
section
variable{prog:Program}{w:World}{A:Around}{E:Value->Shared->Prop}{s:Shared}
def sIx(n d:Nat):Option Int->Nat
 |none=>d
 |some v=>if v<0 then (v+(n:Int)).toNat else min v.toNat n
theorem sIx_le(n d:Nat)(hd:d<=n)(o:Option Int):sIx n d o<=n:=by
 cases o with
 |none=>exact hd
 |some v=>
  show (if v<0 then (v+(n:Int)).toNat else min v.toNat n)<=n
  by_cases hv:v<0
  ·rw[if_pos hv];omega
  ·rw[if_neg hv];exact Nat.min_le_right _ _
end
end HT
namespace L2
open PySem PySem.Spec PyProof.Rows
abbrev TO:=St->Hp->(Option Int->Hp->Prop)->Prop
def PO(X:Cx)(e:Option Expr)(t:TO):Prop:=
 ∀(pins:List (Addr×Obj)) (s:Shared) (σ:St) (H:Hp) (Q:Option Int->Hp->Prop),Inv X pins σ H s->t σ H Q->
  wpAny (model X.prog X.w) X.A (evalPart e X.env) (fun u s'=>∃o H',Inv X pins σ H' s'/\IsPart u o/\Q o H') X.xe s
def adH:TO:=fun _ H Q=>Q none H
def agH(t:TE):TO:=fun σ H Q=>t σ H fun x H1=>∃i,x=.int i/\Q (some i) H1
section
variable{X:Cx}{e:Expr}{te:TE}{lo hi:Option Expr}{tl th:TO}{pos p2:Pos}
theorem af0:PO X none adH:=by
 intro pins s σ H Q I h
 rw[evalPart_none]
 exact wpAny_pure ⟨none,H,I,.none,h⟩
theorem af4(h:PE X e te):PO X (some e) (agH te):=by
 intro pins s σ H Q I hw
 rw[evalPart_some]
 refine thn (h pins s σ H _ I hw) fun u s1 ⟨x,H1,I1,r1,q1⟩=>?_
 obtain⟨i,rfl,q⟩:=q1
 obtain⟨t,rfl⟩:=r1
 exact⟨some i,H1,I1,.int i t,q⟩
def SlR(X:Cx)(r:V->Option Int->Option Int->Hp->VK->Prop):Prop:=
 ∀(pins:List (Addr×Obj)) (s:Shared) (σ:St) (H:Hp) (x:V) (v vl vu:Value) (lo hi:Option Int) (sl:Addr) (Q:VK),Inv X pins σ H s->RelV x v->s.heap.IsSliceOf sl vl vu .none->IsPart vl lo->IsPart vu hi->r x lo hi H Q->
  ∃T id,typeLookup (.type T) "__getitem__"=pure (some (.builtin id))/\s.TypeIs v T/\wpAny (model X.prog X.w) X.A (getItem v (.ref sl)) (EP X pins σ Q) X.xe s
def tSl(r:V->Option Int->Option Int->Hp->VK->Prop)(te:TE)(tl th:TO):TE:=fun σ H Q=>te σ H fun x H1=>tl σ H1 fun l H2=>th σ H2 fun u H3=>r x l u H3 Q
theorem aeU{r:V->Option Int->Option Int->Hp->VK->Prop}(hr:SlR X r)(he:PE X e te)(hl:PO X lo tl)(hu:PO X hi th):PE X (.Subscript e (.Slice lo hi none p2) pos) (tSl r te tl th):=by
 intro pins s σ H Q I h
 refine Subscript_ (thn (he pins s σ H _ I h) fun v s1 ⟨x,H1,I1,r1,q1⟩=>?_)
 refine wpAny_Slice (thn (hl pins s1 σ H1 _ I1 q1) fun vl s2 ⟨l,H2,I2,pl,q2⟩=>thn (hu pins s2 σ H2 _ I2 q2) fun vu s3 ⟨u,H3,I3,pu,q3⟩=>?_)
 rw[evalPart_none]
 refine wpAny_pure ?_
 have I4:Inv X pins σ H3 {s3 with heap:=s3.heap.push {cls:=.type "slice",data:=.fields #[vl,vu,.none]} }:=I3.kept (t':=s3.toks) fun b ob q=>Heap.get?_push_of_some _ q
 obtain⟨T,id,hT,ht,hg⟩:=hr pins {s3 with heap:=s3.heap.push {cls:=.type "slice",data:=.fields #[vl,vu,.none]} } σ H3 x v vl vu l u s3.heap.objs.size Q I4 r1 (Heap.IsSliceOf.new ..) pl pu q3
 show wpAny (model X.prog X.w) X.A (subscriptTail e (.Slice lo hi none p2) v (.ref s3.heap.objs.size)) (EP X pins σ Q) X.xe {s3 with heap:=s3.heap.push {cls:=.type "slice",data:=.fields #[vl,vu,.none]} }
 exact tail_any (ops:=[.ref s3.heap.objs.size,v]) ht hT hg (by with_unfolding_all rfl)
end
def ixN(n:Nat)(i:Int):Option Nat:=if 0<=i then (if i<n then some i.toNat else none) else if -(n:Int)<=i then some (i+n).toNat else none
def atI{α:Type}(xs:List α)(i:Int):Option α:=(ixN xs.length i).bind fun j=>xs[j]?
theorem afY{n:Nat}{i:Int}{j:Nat}(h:ixN n i=some j):seqIndex? i n=some j/\j<n/\ -(n:Int)<=i/\i<n:=by
 unfold ixN at h
 by_cases h0:0<=i
 ·rw[if_pos h0] at h
  by_cases h1:i<n
  ·rw[if_pos h1] at h
   have e:i.toNat=j:=Option.some.inj h
   exact⟨by rw[seqIndex_of h0 h1,e],by omega,by omega,h1⟩
  ·rw[if_neg h1] at h;cases h
 ·rw[if_neg h0] at h
  by_cases h1: -(n:Int)<=i
  ·rw[if_pos h1] at h
   have e:(i+n).toNat=j:=Option.some.inj h
   exact⟨by rw[seqIndex_neg (by omega) h1,e],by omega,h1,by omega⟩
  ·rw[if_neg h1] at h;cases h
theorem afU{α:Type}{xs:List α}{i:Int}{v:α}(h:atI xs i=some v):∃j,seqIndex? i xs.length=some j/\xs[j]? =some v/\j<xs.length/\ -(xs.length:Int)<=i/\i<xs.length:=by
 unfold atI at h
 cases e:ixN xs.length i with
 |none=>rw[e] at h;cases h
 |some j=>
  rw[e] at h
  obtain⟨h1,h2,h3,h4⟩:=afY e
  exact⟨j,h1,h,h2,h3,h4⟩
theorem afD{α:Type}{xs:List α}{j:Nat}{v:α}(h:xs[j]? =some v):atI xs (j:Int)=some v:=by
 have hj:j<xs.length:=(List.getElem?_eq_some_iff.mp h).1
 have e:ixN xs.length (j:Int)=some j:=by
  unfold ixN
  rw[if_pos (by omega),if_pos (by omega)];simp
 unfold atI;rw[e];exact h
def adN(b:Expr):Prop:=∀o i,subscripted b false o i=operate [o,i] (getItem o i)
def IxR(X:Cx)(r:R2):Prop:=
 ∀(value slice:Expr) (pins:List (Addr×Obj)) (s:Shared) (σ:St) (H:Hp) (x y:V) (v u:Value) (Q:VK),Inv X pins σ H s->RelV x v->RelV y u->r x y H Q->
  subscripted slice false v u=operate [v,u] (getItem v u)->wpAny (model X.prog X.w) X.A (subscriptTail value slice v u) (EP X pins σ Q) X.xe s
section
variable{X:Cx}{a b:Expr}{ta tb:TE}{pos:Pos}
theorem aiC{r:R2}(hr:IxR X r)(ha:PE X a ta)(hb:PE X b tb)(hs:adN b):PE X (.Subscript a b pos) (tOp r ta tb):=by
 intro pins s σ H Q I h
 exact Subscript_ (ahH ha hb I h fun v u s2 x y H2 I2 rx ry q=>hr a b pins s2 σ H2 x y v u Q I2 rx ry q (hs _ _))
def aiK(K:PySem.W.Frag):R2:=fun x y H Q=>∃p xs i v,x=.ref p/\y=.int i/\SqL K H p xs/\atI xs i=some v/\Q v H
theorem afM:IxR X (aiK X.K):=by
 intro value slice pins s σ H x y v u Q I rx ry h hs
 obtain⟨p,xs,i,z,rfl,rfl,hq,he,q⟩:=h
 cases rx
 obtain⟨t,rfl⟩:=ry
 obtain⟨its,r,pl,hz⟩:=I.list hq
 obtain⟨j,h1,h2,h3,h4,h5⟩:=afU he
 obtain⟨w,ew,rw'⟩:=r.get h2
 have hl:=r.length
 have hn:=aeL
 have fin:EP X pins σ Q w s:=⟨z,H,I,rw',q⟩
 by_cases h0:0<=i
 ·have hj:i.toNat=j:=by
   rw[seqIndex_of h0 h5] at h1
   exact Option.some.inj h1
  exact item_listR pl.isList h0 (by omega) (by rw[hj];simpa using ew) fin hs
 ·have hj:(i+(its.toArray.size:Int)).toNat=j:=by
   rw[seqIndex_neg (by omega) h4] at h1
   rw[List.size_toArray,←hl]
   exact Option.some.inj h1
  exact subscriptTail_builtinR (x:=w) pl.isList.typeIs slot_list_getitem.lookup
   (wpAny_getItem_list_neg (Q:=fun r s'=>r=w/\EP X pins σ Q r s') pl.isList (by omega) (by rw[List.size_toArray]<;>omega) (by omega) (by rw[hj];simpa using ew) ⟨rfl,fin⟩) hs
theorem Inv.lst{pins:List (Addr×Obj)}{σ:St}{H:Hp}{s:Shared}{p:Addr}{xs:List V}(I:Inv X pins σ H s)(h:H p=some (.lst xs)):
  ∃(its:List Value) (n:Nat),Vals xs its/\s.heap.get? p=some {cls:=.type "list",data:=.seq its.toArray n}/\xs.length<=sizeLine:=by
 obtain⟨z,its,n,r,e⟩:=I.hok p _ h
 exact⟨its,n,r,e,z⟩
theorem acH:abM X (.builtin "len") (fun xs H Q=>∃p ys,xs=[.ref p]/\(SqL X.K H p ys∨SqT X.K H p ys)/\Q (.int ys.length) H):=by
 intro pins s σ H xs us Q I r h
 obtain⟨p,ys,rfl,hq,q⟩:=h
 obtain⟨u,rfl,rx⟩:=ae4 r
 cases rx
 have hn:=aeL
 rcases hq with hq | hq
 ·obtain⟨its,r',pl,hz⟩:=I.list hq
  have hlen:=r'.length
  exact Calls.call_len_list pl.isList (by simp only[List.size_toArray]<;>omega) ⟨.int ys.length,H,I.tok _,⟨s.toks+1,by rw[List.size_toArray,hlen]⟩,q⟩
 ·obtain⟨its,r',pl,hz⟩:=I.tuple hq
  have hlen:=r'.length
  exact len_tuple pl (by simp only[List.size_toArray]<;>omega) ⟨.int ys.length,H,I.tok _,⟨s.toks+1,by rw[List.size_toArray,hlen]⟩,q⟩
variable{o e:Expr}{es:List Expr}{to:TE}{t:TA}{name:Str}{apos cpos:Pos}{T id:String}{r:V->List V->Hp->VK->Prop}
/- xs.append(e),list.index on a module's tuple .. are MtR facts of 06m -/
end
def MtM(X:Cx)(id:String)(r:V->List V->Hp->VK->Prop):Prop:=
 ∀(pins:List (Addr×Obj)) (s:Shared) (σ:St) (H:Hp) (x:V) (xs:List V) (v:Value) (us:List Value) (Q:VK),Inv X pins σ H s->RelV x v->Vals xs us->r x xs H Q->
  wpAny (model X.prog X.w) X.A (call (.builtin id) (v::us)) (EP X pins σ Q) X.xe s
theorem Vals.one:∀{x:V} {us:List Value},Vals [x] us->∃u,us=[u]/\RelV x u
 |_,_,.cons r .nil=>⟨_,rfl,r⟩
section
variable{X:Cx}{pins:List (Addr×Obj)}{σ:St}{H:Hp}{s:Shared}{l b:Addr}{xs ys zs:List V}
theorem Inv.lset{its its':List Value}{n:Nat}{f:Array Value->Array Value}{t':Nat}(I:Inv X pins σ H s)(hH:H l=some (.lst xs))
  (e:s.heap.get? l=some {cls:=.type "list",data:=.seq its.toArray n}) (hf:f its.toArray=its'.toArray) (hv:Vals ys its') (hz:ys.length<=sizeLine):
  Inv X pins σ (upd H l (.lst ys)) {s with heap:=s.heap.update l (Obj.mapSeq f),toks:=t'}:=by
 have q:=PySem.IsL.update e f
 rw[hf] at q
 refine I.write (x:=l) (e:=l) (by rw[hH];exact trivial) (.inl rfl) (fun b' u hb hu=>(Heap.get?_update_other s.heap (Obj.mapSeq f) (Ne.symm hb)).trans hu) ⟨_,q⟩ ?_
 exact⟨hz,its',_,hv,q⟩
theorem Inv.lnew{its:List Value}{t':Nat}(I:Inv X pins σ H s)(hv:Vals ys its)(hz:ys.length<=sizeLine):
  Inv X pins σ (upd H s.heap.objs.size (.lst ys)) {s with heap:=s.heap.push {cls:=.type "list",data:=.seq its.toArray},toks:=t'}:=
 I.laid (fun _ _ q=>Heap.get?_push_of_some _ q) (Nat.le_refl _) ⟨hz,its,0,hv,Heap.get?_push_size _ rfl⟩
theorem Inv.fresh(I:Inv X pins σ H s):H s.heap.objs.size=none:=I.hok.fresh (Nat.le_refl _)
theorem Inv.lstM(I:Inv X pins σ H s)(hH:H l=some (.lst xs)):xs.length<=sizeLine/\∃(its:List Value) (n:Nat),Vals xs its/\xs.length=its.length/\s.heap.get? l=some {cls:=.type "list",data:=.seq its.toArray n}:=by
 obtain⟨z,its,n,r,e⟩:=I.hok l _ hH
 exact⟨z,its,n,r,r.length,e⟩
end
section
variable{X:Cx}
def afO:V->List V->Hp->VK->Prop:=fun x vs H Q=>∃l xs y,x=.ref l/\vs=[y]/\H l=some (.lst xs)/\xs.length<sizeLine/\Q .non (upd H l (.lst (xs++[y])))
theorem adP:MtM X "list.append" afO:=by
 intro pins s σ H x vs v us Q I rx rv h
 obtain⟨l,xs,y,rfl,rfl,hH,hz,q⟩:=h
 cases rx
 obtain⟨u,rfl,ru⟩:=rv.one
 obtain⟨z,its,n,r,hl,e⟩:=I.lstM hH
 refine call_meets F.slot_list_append ⟨_,e,rfl⟩ F.entry_list_append (F.args_list_append_2 _ _) (PySem.list_append l its.toArray n u (by rw[List.size_toArray];omega)) ⟨e,?_⟩
 refine⟨.non,_,I.lset (its':=its++[u]) hH e (by simp) (r.append (.cons ru .nil)) ?_,rfl,q⟩
 rw[List.length_append,List.length_singleton]
 omega
def aiE:R2:=fun x y H Q=>∃l b xs zs,x=.ref l/\y=.ref b/\H l=some (.lst xs)/\H b=some (.lst zs)/\xs.length+zs.length<=sizeLine/\∀p,H p=none->Q (.ref p) (upd H p (.lst (xs++zs)))
theorem ahA:OpR X (binaryOp .Add) aiE:=by
 intro pins s σ H x y v u Q I rx ry h
 obtain⟨l,b,xs,zs,rfl,rfl,hH,hB,hz,q⟩:=h
 cases rx
 cases ry
 obtain⟨z,its,n,r,hl,e⟩:=I.lstM hH
 obtain⟨z2,its2,n2,r2,hl2,e2⟩:=I.lstM hB
 refine PySem.P.add_list e e2 ?_ (by rw[List.size_toArray,List.size_toArray];omega)
 have ea:its.toArray++its2.toArray=(its++its2).toArray:=by simp
 rw[ea]
 exact⟨.ref _,_,I.lnew (t':=s.toks) (r.append r2) (by rw[List.length_append];omega),rfl,q _ I.fresh⟩
end
section
variable{prog:Program}{w:World}{A:Around}{E:Value->Shared->Prop}{s:Shared}
end
section
variable{X:Cx}
end
end L2
namespace Att
open PySem PySem.W PySem.Calls PyProof.Rows
theorem abH{P:Params}{h:Heap}:∀(ns:List Int) (vs:List Value),WellAll P h vs (ns.map WData.int)->IntsAre vs ns:=by
 intro ns
 induction ns with
 |nil=>
  intro vs w
  rw[List.map_nil] at w
  cases w
  exact .nil
 |cons n ns ih=>
  intro vs w
  rw[List.map_cons] at w
  cases w with
  |cons a b=>
   cases a
   exact .cons _ _ (ih _ b)
theorem adY{l:OpenLaw}{n:Nat}(hn:l.most=some n){P:Params}{h:Heap}{args:List WData}{vals:List Value}
  (hpre:l.row.toRowW.claim.pre args=true) (hwl:WellAll P h vals args):
  ∃a vs ns,vals=[Value.ref a]/\args=[WData.list (ns.map WData.int)]/\h.get? a=some {cls:=.type "list",data:=.seq vs.toArray}/\IntsAre vs ns/\ns.length<=n:=by
 have hsh:WShape.hasAll [] args [.list .int]=true:=(pre_splitW hpre).1
 have hc:l.pre.holds [] {args:=args}=true:=(pre_splitW hpre).2
 obtain⟨d,r,rfl,h1,h2⟩:=hasAllW_cons hsh
 obtain rfl:=hasAllW_nil h2
 obtain⟨xs,rfl,h3⟩:=hasW_list h1
 obtain⟨ns,rfl⟩:=items_int h3
 have hlen:ns.length<=n:=by
  unfold OpenLaw.pre at hc
  have h4:(WTm.not (.lt (.lit (.int (n:Int))) (.len (.arg 0)))).holds [] {args:=[.list (ns.map .int)]}=true:=by
   have h4:=(holds_andW hc).1
   rw[hn] at h4
   exact h4
  have h5:=condW_of h4 (w_not (w_lt w_lit (w_len_list (w_arg rfl))))
  rw[List.length_map] at h5
  refine Nat.le_of_not_lt fun q=>?_
  have q':(n:Int)<((ns.length:Nat):Int):=by omega
  first
   |(rw[decide_eq_true q'] at h5;exact absurd h5 (by decide))
   |(simp at h5;omega)
 cases hwl with
 |cons w1 w2=>
  cases w2
  cases w1 with
  |list ho hall=>exact⟨_,_,ns,rfl,rfl,ho,abH ns _ hall,hlen⟩
theorem adU(l:OpenLaw)(args:List WData):l.row.toRowW.claim.post args (.bool true) args=true:=
 postW_of (r:=l.row.toRowW) (X:=(true==true))
  (show WShape.has [] (.bool true) .bool=true by first | rfl | decide | simp[WShape.has,WShape.arms,WShape.armsAll])
  (show (WTm.eq .res (.lit (.bool true))).value [] {args:=args,res:=some (.bool true),after:=args}=some (.bool (true==true)) from w_eq_bool (w_res rfl) w_lit) rfl
theorem attach_call{l:OpenLaw}{n:Nat}{q:Program}{loose:List Str}{XP:(Str->Option Value)->Heap->Prop}{YP:World->Heap->Prop}{d:DefRec}
  (hn:l.most=some n) (hdf:d.params.defaults=[])
  (call:∀(w:World) (s₀ s₁:Shared) (mg mb:Str->Option Value) (fa:Addr) (o:Obj) (pm cd doc:Value) (a:Addr) (vs:List Value) (ns:List Int),
   Ground q loose [] XP w s₀ mg mb s₁.heap->YP w s₁.heap->
   s₁.heap.get? fa=some o->o.data=.func (docDef d.name d.params d.body d.scope pm cd doc)->s₁.heap.CodeRec cd d.name->mg d.name=some (.ref fa)->
   s₁.heap.get? a=some {cls:=.type "list",data:=.seq vs.toArray}->IntsAre vs ns->ns.length<=n->s₁.gens= #[]->
   codeAny (model l.prog w) callerA (.call (.ref fa) ⟨[.ref a],[]⟩) (fun r s'=>r=.ok (.ret (.bool true))/\OldK s₁.heap s'.heap/\s'.os=s₁.os/\AllBare s'.gens) s₁):
  WalkO q loose XP YP l.row.toRowW d [] (fun f vs=>PySem.call f vs):=by
 intro w s₀ s₁ mg mb G Y fa o pm cd doc dV kV ho hd hcd hD hmg hg args vals as hpre hlay hrd hwl hlo
 obtain rfl:dV=.none:=Dflts.none hD hdf
 obtain rfl:kV=.none:=Dflts.noKw hD
 obtain⟨a,vs,ns,rfl,rfl,hobj,hints,hlen⟩:=adY hn hpre hwl
 refine enter_call (codeAny_mono (call w s₀ s₁ mg mb fa o pm cd doc a vs ns G Y ho (fd_plain hd) hcd hmg hobj hints hlen hg) fun r s' hq=>?_)
 obtain⟨rfl,h2,h3,h4⟩:=hq
 exact⟨.inl ⟨.bool true,.bool true,[],rfl,fun _=>rfl,.bool true,adU l _,fun _=>⟨List.Pairwise.nil,fun _ hm=>(nomatch hm)⟩⟩,h2,h3,h4⟩
section
variable{prog:Program}{w:World}{A:Around}{E:Value->Shared->Prop}{s:Shared}{K:Frag}
end
end Att
namespace L2
open PySem PySem.Spec PyProof.Rows
theorem acC:∀{vs:List Value} {ns:List Int},IntsAre vs ns->Vals (ns.map V.int) vs
 |_,_,.nil=>.nil
 |_,_,.cons n t h=>.cons ⟨t,rfl⟩ (acC h)
def ag6(H:Hp):Prop:=∀b,H b=none∨∃o xs,H b=some (.frz o (.lst xs))
theorem aeN{P:Program}{w:World}{K:PySem.W.Frag}{mg mb:Str->Option Value}{CX:CXT}{k:Nat}{fa a:Addr}{fd:FuncData}{x:Str}{sp:Sp}{s₁:Shared}{vs:List Value}{ns:List Int}
  (KX:K.In s₁.heap) (hns:s₁.heap.Ns mainGlobals mg) (hb:s₁.heap.Ns builtinsNs mb) (hbb:∀x:Str,x≠"__name__"->mb x=bootBuiltins x) (hlim:s₁.heap.NoLimit) (hg:s₁.gens= #[])
  (ha:s₁.heap.get? a=some {cls:=.type "list",data:=.seq vs.toArray}) (hi:IntsAre vs ns) (hl:ns.length<=sizeLine) (hr:Room k callerA)
  (F:∀base:Heap,K.In base->base.Ns mainGlobals mg->FnOk P w K mg base CX k fa fd [x] sp) (hbind:∀(s:Shared) (u:Value),BindsTo s fd ⟨[u],[]⟩ [(x,u)])
  (hsp:∀H:Hp,ag6 H->SqL K H a (ns.map V.int)->sp [.ref a] H (fun v _=>v=.bl true) fun _ _ _=>False)
  (hCX:∀H e s',CX [] H s₁ (fun _ _ _=>False) e s'->False):
  codeAny (model P w) callerA (.call (.ref fa) ⟨[.ref a],[]⟩) (fun r s'=>r=.ok (.ret (.bool true))/\OldK s₁.heap s'.heap/\s'.os=s₁.os/\AllBare s'.gens) s₁:=by
 have rv:=acC hi
 have lenV:=hi.length
 -- from an abstract heap in which nothing but the script may be tracked
 have core:∀H:Hp,ag6 H->SqL K H a (ns.map V.int)->HOk P w H s₁.heap->(∀b,H b≠none->b=a)->(H a≠none->K.lookup a=none)->
   codeAny (model P w) callerA (.call (.ref fa) ⟨[.ref a],[]⟩) (fun r s'=>r=.ok (.ret (.bool true))/\OldK s₁.heap s'.heap/\s'.os=s₁.os/\AllBare s'.gens) s₁:=by
  intro H hO hS hok hA hK
  have base_of:∀{b:Addr} {o:Obj},s₁.heap.get? b=some o->H b=none->(acM s₁.heap H).get? b=some o:=fun e n=>aeP e n
  have noA:∀{b:Addr} {o:Obj} {es:Array DictEntry} {ep:Nat},s₁.heap.get? b=some o->o.data=.dict es ep->H b=none:=fun {b o es ep} e d=>by
   cases q:H b with
   |none=>rfl
   |some u=>
    have e':b=a:=hA b (by rw[q];simp)
    subst e'
    rw[ha] at e;cases e
    have d':Data.seq vs.toArray _=Data.dict es ep:=d
    cases d'
  have nsK:∀{b:Addr} {m:Str->Option Value},s₁.heap.Ns b m->(acM s₁.heap H).Ns b m:=fun {b m} ⟨o,es,ep,e,d,r⟩=>⟨o,es,ep,base_of e (noA e d),d,r⟩
  have hKb:K.In (acM s₁.heap H):=fun b o e=>base_of (KX b o e) (by
   cases q:H b with
   |none=>rfl
   |some u=>
    have e':b=a:=hA b (by rw[q];simp)
    subst e'
    rw[hK (by rw[q];simp)] at e;cases e)
  have hM:Mod K mg (acM s₁.heap H):=⟨hKb,nsK hns,⟨mb,nsK hb,hbb⟩,let ⟨mc,h1,h2⟩:=hlim;⟨mc,nsK h1,h2⟩⟩
  have e0:Env0 P w K mg (acM s₁.heap H) callerA [] s₁ H:=⟨rfl,hM,fun b o e=>afQ e,Nat.le_of_eq (adR _ _),trivial,fun b hb=>absurd (show b∈([]:List Addr) from hb) (by simp),hok,.of_eq hg⟩
  refine codeAny_mono ((F _ hKb (nsK hns)).run callerA [] s₁ H ⟨[.ref a],[]⟩ [.ref a] [.ref a] _ _ hr e0 (hbind s₁ (.ref a)) (.cons rfl .nil) (hsp H hO hS)) fun r s' h=>?_
  cases r with
  |error e=>exact (hCX H e s' h).elim
  |ok fl=>
   cases fl with
   |next=>exact False.elim h
   |brk=>exact False.elim h
   |cont=>exact False.elim h
   |ret u=>
    obtain⟨v,H',os,bare,un,hok',r',q⟩:=h
    have q':v=.bl true:=q
    subst q'
    obtain rfl:u=Value.bool true:=r'
    refine⟨rfl,OldK.of_keep fun b o e=>?_,os,bare⟩
    cases q:H b with
    |none=>exact un.keep b o e q (by intro z;exact absurd (show b∈([]:List Addr) from z) (by simp)) (by simp)
    |some u=>
     rcases hO b with z | ⟨ob,xs,z⟩
     ·rw[q] at z;cases z
     ·have z2:=un.frzs b ob _ z
      obtain⟨e1,_⟩:=hok b _ z
      obtain⟨e2,_⟩:=hok' b _ z2
      rw[e] at e1;cases e1
      exact e2
 cases hk:K.lookup a with
 |some o=>
  -- the script is one of the module's own objects
  have e:=KX a o hk
  rw[ha] at e
  cases e
  refine core (fun _=>none) (fun _=>.inl rfl) (.inr ⟨_,vs.toArray,_,hk,rfl,rfl,rfl,by rw[List.size_toArray,lenV];exact hl,by simpa using rv⟩) (fun b u z=>by have z':(none:Option HO)=some u:=z;cases z') (fun b z=>absurd rfl z) fun z=>absurd rfl z
 |none=>
  refine core (fun b=>if b=a then some (.frz {cls:=.type "list",data:=.seq vs.toArray} (.lst (ns.map V.int))) else none) (fun b=>?_) (.inl (.inr ⟨{cls:=.type "list",data:=.seq vs.toArray},if_pos rfl⟩)) (fun b u z=>?_) (fun b z=>?_) fun _=>hk
  ·by_cases hb:b=a
   ·exact .inr ⟨_,_,if_pos hb⟩
   ·exact .inl (if_neg hb)
  ·by_cases hb:b=a
   ·have z':=(if_pos hb).symm.trans z
    cases z'
    subst hb
    exact⟨ha,by rw[List.length_map];exact hl,vs,_,rv,ha⟩
   ·have z':=(if_neg hb).symm.trans z
    cases z'
  ·by_cases hb:b=a
   ·exact hb
   ·exact absurd (if_neg hb) z
theorem walk_of{l:PySem.W.OpenLaw}{n k:Nat}{q:Program}{loose:List Str}{XP:(Str->Option Value)->Heap->Prop}{YP:World->Heap->Prop}{d:DefRec}{K:Params->PySem.W.Frag}{CX:World->CXT}{sp:World->Sp}{x:Str}
  (hn:l.most=some n) (hn2:n<=sizeLine) (hdf:d.params.defaults=[]) (hr:Room k callerA)
  (hY:∀(w:World) (h:Heap),YP w h->(K w.params).In h)
  (F:∀(w:World) (mg:Str->Option Value) (fa:Addr) (h:Heap),(K w.params).In h->h.Ns mainGlobals mg->mg d.name=some (.ref fa)->
   ∃fd:FuncData,(∀(s:Shared) (u:Value),BindsTo s fd ⟨[u],[]⟩ [(x,u)])/\
    ∀base:Heap,(K w.params).In base->base.Ns mainGlobals mg->FnOk l.prog w (K w.params) mg base (CX w) k fa fd [x] (sp w))
  (hsp:∀(w:World) (H:Hp) (a:Addr) (ns:List Int),ns.length<=n->ag6 H->SqL (K w.params) H a (ns.map V.int)->sp w [.ref a] H (fun v _=>v=.bl true) fun _ _ _=>False)
  (hCX:∀(w:World) (H:Hp) (s:Shared) (e:Value) (s':Shared),CX w [] H s (fun _ _ _=>False) e s'->False):
  PySem.W.WalkO q loose XP YP l.row.toRowW d [] (fun f vs=>PySem.call f vs):=by
 refine Att.attach_call hn hdf fun w s₀ s₁ mg mb fa o pm cd doc a vs ns G Y ho hd hcd hmg hobj hints hlen hg=>?_
 have KX:=hY w _ Y
 obtain⟨fd,hb,hF⟩:=F w mg fa _ KX G.T.g hmg
 exact aeN KX G.T.g G.T.b G.T.builtins G.T.nolimit hg hobj hints (Nat.le_trans hlen hn2) hr hF hb (fun H hO hS=>hsp w H a ns hlen hO hS) fun H e s'=>hCX w H s₁ e s'
end L2
/- THE LAST THEOREM (shape;LID,My.* are yours):
 My.Adr:a structure of the addresses that your layer names (classes,functions);My.Txt K t:a structure (Prop) of the equations over K;
 My.txt_mk:{K} {implicit addresses ..} (e1:nsIn K mainGlobals "law"=some (some (.ref f))) (e2:K.lookup f=some ⟨oc,od,.func (fnOf "law" "law" params body scope dV kV doc pm an cdv ct),sl⟩) (e3:codeIn K cdv "law"=true) .. :∃t,My.Txt K t
set_option maxRecDepth 100000 in
set_option maxHeartbeats 0 in
theorem PySem.Challenge.cw_LID_holds : PySem.Challenge.rw_LID.Holds := by
 w_on;o_law;k_head;(case hw=>w_witness2)
 k_fill
 refine L2.walk_of (l:=PySem.Challenge.rw_LID) (n:=63) (k:=40) (x:="script") (CX:=fun w=>..) (sp:=fun _=>My.sp_law) rfl (by decide) rfl ⟨rfl,by decide,by decide⟩ (fun w h Y=>PySem.W.kIn_of Y) ?F ?S ?C
 case F=>
  intro w mg fa h KX G hmg
  have T:∃t,My.Txt (L2.KOf KX) t:=by
   dsimp only[L2.KOf]                          -- K must stand as «<heap const> w.params» for k_is
   refine' My.txt_mk ?e1 ?e2 ?e3 ..
   (case e1=>PySem.W.k_is)                    -- in the order:a name->its address->its object->its parts
   (case e2=>PySem.W.k_is)
   ..
  obtain⟨t,T⟩:=T
  have e0:=hmg.symm.trans (PySem.W.mg_of KX G T.law)
  cases e0                                       -- fa is the law's own address
  exact⟨_,fun s u=>.of_eq rfl,fun base kb nb=>My.law_fn T kb nb⟩     -- if «.of_eq rfl» comes too early:refine' ⟨_,?b,fun base kb nb=>My.law_fn T kb nb⟩;exact fun s u=>.of_eq rfl
 case S=>exact fun w H a ns hl hO hS=>..
 case C=>exact ..
(the tactic k_is has no namespace:write k_is) -/
namespace L2
open PySem PySem.Spec PyProof.Rows
def acN(s:Stmt)(j:Nat):Stmt:=match s with
 |.ClassDef _ _ _ body _ _ _ _ _ _ _=>body.getD j (.Pass ⟨0,0,0,0⟩)
 |_=>.Pass ⟨0,0,0,0⟩
def aaK(s:Stmt):Arguments:=match s with
 |.FunctionDef _ a _ _ _ _ _ _ _ _=>a
 |_=>{posonlyargs:=[],args:=[],vararg:=none,kwonlyargs:=[],kw_defaults:=[],kwarg:=none,defaults:=[]}
def aaH(s:Stmt):List Stmt:=match s with
 |.FunctionDef _ _ b _ _ _ _ _ _ _=>b
 |_=>[]
def aaB(s:Stmt):Scope:=match s with
 |.FunctionDef _ _ _ _ _ _ sc _ _ _=>sc
 |_=>{kind:=.function,names:=[],isGenerator:=false,isCoroutine:=false}
abbrev CX0:CXT:=fun _ _ _ _ _ _=>False
abbrev E0:XK:=fun _ _ _=>False
theorem aiX{X:Cx}:ac2 CX0 X E0:=fun _ _ _ _ _ _ _ h=>h.elim
structure Fun(K:PySem.W.Frag)(x qual:Str)(st:Stmt)(f:Addr)(fd:FuncData):Prop where
 ex:∃(oc:Value) (od:Option Addr) (kV doc pm:Value) (an:Option Addr) (cdv ct:Value) (osl:Array (Option Value)),
  fd=PySem.W.fnOf x qual (aaK st) (aaH st) (aaB st) .none kV doc pm an cdv ct/\K.lookup f=some ⟨oc,od,.func fd,osl⟩/\PySem.W.codeIn K cdv qual=true
 kp:PySem.W.keepIn K (.ref f)=true
section
variable{P:Program}{w:World}{K:PySem.W.Frag}{mg:Str->Option Value}{base:Heap}
theorem Fun.ok{x qual:Str}{st:Stmt}{f:Addr}{fd:FuncData}{N ps:List Str}{k:Nat}{sp:Sp}(F:Fun K x qual st f fd)(S:FnScope N ps (aaB st))(len:∀vs H Q E,sp vs H Q E->vs.length=ps.length)
  (hbody:∀(cdv:Value) (A:Around) (outer:List Env) (s:Shared) (H:Hp) (vs:List V) (Q:VK) (E:XK),Room k (A.deeper (envOfC qual (aaB st) s.heap.objs.size f cdv))->sp vs H Q E->
   ∃t,PSs (aaR CX0 P w K mg base N qual (aaB st) f cdv A outer s H E).nox (aaH st) t/\t {nx:=fun _ H'=>Q .non H',rt:=Q} (aaJ N vs) H):FnOk P w K mg base CX0 (k+1) f fd ps sp:=by
 obtain⟨oc,od,kV,doc,pm,an,cdv,ct,osl,rfl,lk,hcd⟩:=F.ex
 refine agJ lk hcd S len fun A outer s H vs Q E hr hsp=>?_
 obtain⟨t,h,q⟩:=hbody cdv A outer s H vs Q E hr hsp
 exact⟨t,h.nox,q⟩
theorem Fun.binds{x qual:Str}{st:Stmt}{f:Addr}{fd:FuncData}{ps:List Str}(F:Fun K x qual st f fd)
  (h:∀(kV doc pm:Value) (an:Option Addr) (cdv ct:Value) (us:List Value),us.length=ps.length->bindArgs (PySem.W.fnOf x qual (aaK st) (aaH st) (aaB st) .none kV doc pm an cdv ct) ⟨us,[]⟩=pure (ps.zip us)):Binds K fd ps []:=by
 obtain⟨oc,od,kV,doc,pm,an,cdv,ct,osl,rfl,lk,hcd⟩:=F.ex
 exact .all (h kV doc pm an cdv ct)
theorem ac3{x qual:Str}{st:Stmt}{f:Addr}{oc:Value}{od an:Option Addr}{osl:Array (Option Value)}{kV doc pm cdv ct:Value}(l:K.lookup f=some ⟨oc,od,.func (PySem.W.fnOf x qual (aaK st) (aaH st) (aaB st) .none kV doc pm an cdv ct),osl⟩)
  (c:PySem.W.codeIn K cdv qual=true) (k:PySem.W.keepIn K (.ref f)=true):Fun K x qual st f (PySem.W.fnOf x qual (aaK st) (aaH st) (aaB st) .none kV doc pm an cdv ct):=⟨⟨oc,od,kV,doc,pm,an,cdv,ct,osl,rfl,l,c⟩,k⟩
end
section
variable{X:Cx}
end
theorem aeA{A B:Prop}(h:B):if false=true then A else B:=by
 rw[if_neg Bool.false_ne_true]
 exact h
theorem ad8{A B:Prop}(h:A):if true=true then A else B:=by
 rw[if_pos rfl]
 exact h
theorem aiW{c A B:Prop}[Decidable c](h1:c->A)(h2:¬c->B):if c then A else B:=by
 by_cases h:c
 ·rw[if_pos h]
  exact h1 h
 ·rw[if_neg h]
  exact h2 h
def Same(H H':Hp):Prop:=∀b o,H b=some o->H' b=some o
theorem Same.refl(H:Hp):Same H H:=fun _ _ h=>h
theorem Same.trans{H H1 H2:Hp}(a:Same H H1)(b:Same H1 H2):Same H H2:=fun c o h=>b c o (a c o h)
theorem Same.free{H H':Hp}(e:Same H H'){l:Addr}(h:H' l=Option.none):H l=Option.none:=by
 cases q:H l with
 |none=>rfl
 |some o=>
  rw[e l o q] at h
  cases h
theorem Same.seq{K:PySem.W.Frag}{H H':Hp}{a:Addr}{xs:List V}(e:Same H H')(h:SqL K H a xs):SqL K H' a xs:=by
 rcases h with (h | ⟨o,h⟩) | h
 ·exact .inl (.inl (e _ _ h))
 ·exact .inl (.inr ⟨o,e _ _ h⟩)
 ·exact .inr h
section
variable{X:Cx}
end
structure Df(P:Program)(w:World)(K:PySem.W.Frag)(mg:Str->Option Value)(base:Heap)(x:Str)(k:Nat)(ps:List Str)(sp:Sp):Prop where
 ex:∃(f:Addr) (fd:FuncData),FnOk P w K mg base CX0 k f fd ps sp/\Binds K fd ps []/\mg x=some (.ref f)/\PySem.W.keepIn K (.ref f)=true
structure Fn(K:PySem.W.Frag)(mg:Str->Option Value)(x:Str)(st:Stmt)(ps:List Str):Prop where
 ex:∃(f:Addr) (fd:FuncData),Fun K x x st f fd/\Binds K fd ps []/\mg x=some (.ref f)
section
variable{P:Program}{w:World}{K:PySem.W.Frag}{mg:Str->Option Value}{base:Heap}{x:Str}{st:Stmt}{ps N:List Str}{k:Nat}{sp:Sp}
theorem Fn.df(F:Fn K mg x st ps)(S:FnScope N ps (aaB st))(len:∀vs H Q E,sp vs H Q E->vs.length=ps.length)
  (hbody:∀(f:Addr) (cdv:Value) (A:Around) (outer:List Env) (s:Shared) (H:Hp) (vs:List V) (Q:VK) (E:XK),Room k (A.deeper (envOfC x (aaB st) s.heap.objs.size f cdv))->sp vs H Q E->
   ∃t,PSs (aaR CX0 P w K mg base N x (aaB st) f cdv A outer s H E).nox (aaH st) t/\t {nx:=fun _ H'=>Q .non H',rt:=Q} (aaJ N vs) H):Df P w K mg base x (k+1) ps sp:=by
 obtain⟨f,fd,F1,hb,hm⟩:=F.ex
 exact⟨⟨f,fd,F1.ok S len (hbody f),hb,hm,F1.kp⟩⟩
theorem acX{h:Heap}{f:Addr}{oc:Value}{od an:Option Addr}{osl:Array (Option Value)}{kV doc pm cdv ct:Value}(X:K.In h)(G:h.Ns mainGlobals mg)
  (a:PySem.W.nsIn K mainGlobals x=some (some (.ref f))) (l:K.lookup f=some ⟨oc,od,.func (PySem.W.fnOf x x (aaK st) (aaH st) (aaB st) .none kV doc pm an cdv ct),osl⟩)
  (c:PySem.W.codeIn K cdv x=true) (k:PySem.W.keepIn K (.ref f)=true)
  (hb:∀(kV doc pm:Value) (an:Option Addr) (cdv ct:Value) (us:List Value),us.length=ps.length->bindArgs (PySem.W.fnOf x x (aaK st) (aaH st) (aaB st) .none kV doc pm an cdv ct) ⟨us,[]⟩=pure (ps.zip us)):Fn K mg x st ps:=by
 have F:=ac3 (st:=st) l c k
 exact⟨⟨f,_,F,F.binds (ps:=ps) hb,PySem.W.mg_of X G a⟩⟩
end
section
variable{X:Cx}
theorem aeY{x:Str}{k k':Nat}{ps:List Str}{sp:Sp}{e:Expr}{es:List Expr}{t:TA}{p pos:Pos}(D:Df X.prog X.w X.K X.mg X.base x k ps sp)(hr:Room k' X.A)(ha:PA X (e::es) t)(hk:k<=k':=by decide)(hg:Gl X x:=by rfl)
  (hdb:(x==("__debug__":Str))=false:=by decide) (he:starEach (e::es) X.env=(false,eval e X.env)::starEach es X.env:=by rfl) (hpl:(backTo pos (starEach es X.env)).any (·.1)=false:=by rfl):
  PE X (.Call (.Name x p) (e::es) [] pos) (adI sp [] E0 t):=by
 obtain⟨f,fd,F,hb,hm,kp⟩:=D.ex
 exact afK F (hr.mono hk) hg hm kp hb .nil aiX ha hdb he hpl
end
theorem aaC{H:Hp}{p:Addr}(h:H p=none)(o:HO):Same H (upd H p o):=fun b u q=>by rw[aaD (aaF q h)];exact q
theorem int_eq{a b:Int}:(V.int a=V.int b)↔a=b:=⟨fun h=>V.int.inj h,fun h=>by rw[h]⟩
theorem ifI{a b:Int}{A B:Prop}(h1:a=b->A)(h2:¬a=b->B):if decide (V.int a=V.int b)=true then A else B:=
 aiW (fun c=>h1 (int_eq.mp (of_decide_eq_true c))) (fun c=>h2 fun e=>c (decide_eq_true (int_eq.mpr e)))
theorem ifD{c:Prop}[Decidable c]{A B:Prop}(h1:c->A)(h2:¬c->B):if decide c=true then A else B:=
 aiW (fun q=>h1 (of_decide_eq_true q)) (fun q=>h2 fun e=>q (decide_eq_true e))
theorem ifNe{a b:Int}{A B:Prop}(e:a=b)(h:B):if (!decide (V.int a=V.int b))=true then A else B:=by
 rw[decide_eq_true (int_eq.mpr e)];exact aeA h
structure Clos(X:Cx)(scope:Scope)(cl:List (Str×Addr)):Prop where
 is:closureFor scope X.env=pure cl
 sub:∀y c,cl.lookup y=some c->X.env.cells.lookup y=some c
 has:∀y,scope.names.lookup y=some .free->∃c,cl.lookup y=some c
 nocell:∀y∈scope.names,y.2≠ .cell
 kind:scope.kind=.function
 names:∀y∈scope.names,y.2=.local->scope.names.lookup y.1=some .local
def aaI(X:Cx)(N:List Str)(scope:Scope)(cl:List (Str×Addr))(C:Addr)(ex:List Addr)(pins:List (Addr×Obj))(s:Shared)(H:Hp):Cx:=
 {X with N:=N,s₀:=s,H₀:=H,env:=compEnvC scope cl C X.env,outer:=X.stack,stack:=X.stack,ex:=ex,fn:=fun _=>false,pn:=X.pn++pins,xe:=fun _ _=>False}
def aaP(js:List Nat)(σ:St):St:=js.map fun j=>(σ[j]?).getD none
def adJ(ifs:List Expr)(env:Env):Sem Bool:=
 forIn ifs true fun c r=>if r=true then (do let ok ←isTrue c env (eval c env);pure (ForInStep.yield ok)) else pure (ForInStep.yield r)
def PF(X:Cx)(ifs:List Expr)(t:TT):Prop:=
 ∀(pins:List (Addr×Obj)) (s:Shared) (σ:St) (H:Hp) (Q:Bool->Hp->Prop),Inv X pins σ H s->t σ H Q->
  wpAny (model X.prog X.w) X.A (adJ ifs X.env) (TP X pins σ Q) X.xe s
def agT:TT:=fun _ H Q=>Q true H
theorem agN{X:Cx}:PF X [] agT:=fun _ _ _ H _ I h=>wpAny_tests_nil ⟨H,I,h⟩
def acO(env:Env)(n:Str)(k:NameKind):NameKind:=if (k==NameKind.free&&env.scope.kind== .function&&env.kindOf n==some .cell) then .cell else k
theorem afR{env:Env}{n:Str}{k:NameKind}:(if (k==NameKind.free&&env.scope.kind== .function&&env.kindOf n==some .cell) then (n,NameKind.cell) else (n,k))=(n,acO env n k):=by
 unfold acO
 split<;>rfl
theorem aaS{env:Env}:∀(names:List (Str×NameKind)) (x:Str),(relabel {kind:=.function,names:=names,isGenerator:=false,isCoroutine:=false} env).names.lookup x=(names.lookup x).map (acO env x)
 |[],_=>rfl
 |(n,k)::r,x=>by
  have ih:=aaS (env:=env) r x
  unfold relabel at ih ⊢
  dsimp only at ih ⊢
  rw[List.map_cons]
  dsimp only
  rw[afR,List.lookup_cons,List.lookup_cons,ih]
  cases hx:x==n with
  |true=>
   have e:x=n:=by simpa using hx
   rw[e]
   rfl
  |false=>rfl
theorem abB{env:Env}(scope:Scope)(x:Str):(relabel scope env).names.lookup x=(scope.names.lookup x).map (acO env x):=aaS scope.names x
theorem aeB{env:Env}{x:Str}{o:Option NameKind}(hc:o≠some .cell)(h:o.map (acO env x)=some .cell∨o.map (acO env x)=some .free):o=some .free:=by
 cases o with
 |none=>rcases h with h | h<;>cases h
 |some k=>
  by_cases e:k=.free
  ·rw[e]
  ·have z:acO env x k=k:=by
    unfold acO
    have e':(k==NameKind.free)=false:=by simpa using e
    rw[e']
    rfl
   rw[Option.map_some,z] at h
   rcases h with h | h
   ·exact absurd h hc
   ·exact h
theorem acI{env:Env}{scope:Scope}{x:Str}(h:scope.names.lookup x=some .free):(relabel scope env).names.lookup x=some .cell∨(relabel scope env).names.lookup x=some .free:=by
 rw[abB,h,Option.map_some]
 unfold acO
 split
 ·exact .inl rfl
 ·exact .inr rfl
section
variable{X:Cx}{elt iter:Expr}{x:Str}{px pos:Pos}{ifs:List Expr}{scope:Scope}{cl:List (Str×Addr)}{N':List Str}{js:List Nat}{tt:TT}{te:TE}
theorem ac5{pins:List (Addr×Obj)}{σ:St}{H:Hp}{s s4:Shared}{fp:List Addr}{C:Addr}{m4:Str->Option Value}(hcl:Clos X scope cl)(hN:js.map (fun j=>X.N[j]?)=N'.map some)
  (hk:N'.all (fun y=>(X.env.kindOf y==some .cell)||(X.env.kindOf y==some .free))=true) (hf:N'.all (fun y=>scope.names.lookup y==some .free)=true)
  (I:Inv X pins σ H s) (hfp:∀b∈fp,abA X pins H b/\b<s.heap.objs.size) (hC:C=s.heap.objs.size) (ho:s4.os=s.os) (hg:s4.gens=s.gens) (hkeep:∀b o,s.heap.get? b=some o->s4.heap.get? b=some o) (hn:s4.heap.Ns C m4):
  Inv (aaI X (x::N') scope cl C fp pins s H) [] (none::aaP js σ) H s4:=by
 have hne:∀b o,s.heap.get? b=some o->b≠C:=fun b o e=>by rw[hC];exact Nat.ne_of_lt (Heap.lt_size e)
 refine⟨⟨I.ok.mod,hcl.kind,I.ok.glob,I.ok.blt,Nat.le_of_eq hC.symm,fun y z c h1 h2=>I.ok.inj y z c (hcl.sub y c h1) (hcl.sub z c h2),fun y hy=>hcl.has y (aeB (fun z=>hcl.nocell _ (PySem.mem_of_lookup z) rfl) (by rw[←abB];exact hy)),fun y c h _=>(nomatch h),I.ok.hd,I.ok.frames,.inl rfl,fun b hb=>⟨?_,fun y c e=>(hfp b hb).1.2.2.2.2.1 y c (hcl.sub y c e)⟩,
  I.bs,Nat.le_trans I.ok.bsz I.sz,fun b o e hb=>?_,fun b hb hz=>?_,I.stack,I.stkFree⟩,ho,by rw[hg];exact I.bare,Un.kept hkeep,⟨m4,hn,fun i y v h1 h2 h3=>?_⟩,fun y c e=>?_,?_,fun y c e=>I.freeC y c (hcl.sub y c e),fun p hp=>?_,I.hok.kept hkeep,?_⟩
 ·rw[hC];exact Nat.ne_of_lt (hfp b hb).2
 ·rcases (hfp b hb).1.2.2.2.1 with z | z
  ·exact I.ok.noex b o e z
  ·exact absurd (Nat.lt_of_lt_of_le (Heap.lt_size e) (Nat.le_trans I.ok.bsz z)) (Nat.lt_irrefl _)
 ·rcases List.mem_cons.mp (I.stkSub b hz) with z | z
  ·exact (hfp b hb).1.2.1 z
  ·exact (hfp b hb).1.2.2.1 z
 ·match i,h1,h2 with
  |0,_,h2=>exact nomatch h2
  |i+1,h1,h2=>
   have h1:N'[i]? =some y:=h1
   have h2:(aaP js σ)[i]? =some (some v):=h2
   have hy:y∈N':=List.mem_of_getElem? h1
   have q:(js.map (fun j=>X.N[j]?))[i]? =some (some y):=by rw[hN,List.getElem?_map,h1];rfl
   rw[List.getElem?_map] at q
   cases ej:js[i]? with
   |none=>rw[ej] at q;cases q
   |some j=>
    rw[ej] at q
    have q:X.N[j]? =some y:=Option.some.inj q
    unfold aaP at h2
    rw[List.getElem?_map,ej] at h2
    have h2:(σ[j]?).getD none=some v:=Option.some.inj h2
    have h2:σ[j]? =some (some v):=by
     cases e:σ[j]? with
     |none=>rw[e] at h2;cases h2
     |some o=>rw[e] at h2;exact congrArg some h2
    have kk:=List.all_eq_true.mp hk y hy
    have kk:X.env.kindOf y=some .cell∨X.env.kindOf y=some .free:=by simpa using kk
    have ff:=List.all_eq_true.mp hf y hy
    have ff:scope.names.lookup y=some .free:=by simpa using ff
    obtain⟨m,_,hl⟩:=I.loc
    obtain⟨u,r,l⟩:=hl j y v q h2 (by rcases kk with z | z;exact .inr (.inl z);exact .inr (.inr z))
    refine⟨u,r,.inr ⟨acI ff,?_⟩⟩
    obtain⟨c,hc⟩:=hcl.has y ff
    rcases l with ⟨z,_⟩ | ⟨_,c',e',cell⟩
    ·rcases kk with k | k<;>(rw[k] at z;cases z)
    ·rw[hcl.sub y c hc] at e'
     cases e'
     exact⟨c,hc,cell.keeps hkeep⟩
 ·obtain⟨v,q⟩:=I.cell y c (hcl.sub y c e)
  exact⟨v,q.keeps hkeep⟩
 ·show H C=none
  rw[hC]
  exact I.hok.fresh (Nat.le_refl _)
 ·have hp:p∈X.pn++pins:=by
   have hp:p∈(X.pn++pins)++[]:=hp
   rwa [List.append_nil] at hp
  obtain⟨e,n,ne,nf,d⟩:=I.pin p hp
  refine⟨hkeep _ _ e,n,hne _ _ e,fun z=>?_,d⟩
  rcases List.mem_cons.mp (I.stkSub p.1 z) with z | z
  ·exact ne z
  ·exact nf z
 ·show (aaP js σ).length+1=N'.length+1
  have q:=congrArg List.length hN
  rw[List.length_map,List.length_map] at q
  unfold aaP
  rw[List.length_map,q]
end
theorem ac7{prog:Program}{w:World}{A:Around}{R:Result->Shared->Prop}{s:Shared}{elt tg iter:Expr}{ifs:List Expr}{scope:Scope}{pos:Pos}{it acc:Value}{env:Env}{EN:Value->Shared->Prop}
  (hEN:EN=notedBy (model prog w) A env fun e s'=>R (.error e) s') (B:Nat->Shared->Prop)
  (turn:∀n s,B n s->wpAny (model prog w) A (pyNext it) (fun r s₁=>match r with
   |none=>R (.ok .next) s₁
   |some v=>wpAny (model prog w) A (letOwnedTupleGo tg it v) (fun _ s₂=>wpAny (model prog w) A (assign tg env v) (fun _ s₃=>
     wpAny (model prog w) A (adJ ifs env) (fun ok s₄=>
      if ok=true then wpAny (model prog w) A (eval elt env) (fun z s₅=>wpAny (model prog w) A (call (.builtin "list.append") [acc,z]) (fun _ s₆=>∃m,m<n/\B m s₆) EN s₅) EN s₄
      else ∃m,m<n/\B m s₄) EN s₃) EN s₂) EN s₁) EN s) (n:Nat) (h:B n s):
  codeAny (model prog w) A (.compLoop (.ListComp elt [⟨tg,iter,ifs,0⟩] scope pos) 0 it acc env) R s:=by
 subst hEN
 refine codeAny_loop rfl B (fun n s hI=>?_) n h
 refine wpAny_noted (m:=compTurn (.ListComp elt [⟨tg,iter,ifs,0⟩] scope pos) 0 it acc env) ?_
 rw[compTurn_list]
 refine wpAny_bind (wpAny_standAt (wpAny_bind (wpAny_mono (turn n s hI) (fun r s₁ h₁=>?_) fun _ _ z=>z)))
 cases r with
 |none=>exact wpAny_pure h₁
 |some v=>
  refine wpAny_bind (wpAny_mono h₁ (fun _ s₂ h₂=>?_) fun _ _ z=>z)
  refine wpAny_bind (wpAny_mono h₂ (fun _ s₃ h₃=>?_) fun _ _ z=>z)
  refine wpAny_bind (wpAny_mono h₃ (fun ok s₄ h₄=>?_) fun _ _ z=>z)
  cases ok with
  |false=>exact wpAny_pure ⟨rfl,h₄⟩
  |true=>
   refine wpAny_bind (wpAny_bind (wpAny_mono h₄ (fun z s₅ h₅=>?_) fun _ _ q=>q))
   exact wpAny_bind (wpAny_mono h₅ (fun _ s₆ h₆=>wpAny_pure (wpAny_pure ⟨rfl,h₆⟩)) fun _ _ q=>q)
section
variable{X:Cx}{elt iter:Expr}{x:Str}{px pos:Pos}{ifs:List Expr}{scope:Scope}{cl:List (Str×Addr)}{N':List Str}{js:List Nat}{tt:TT}{te:TE}
theorem aeE{pins:List (Addr×Obj)}{σ σ':St}{H H':Hp}{s s':Shared}{fp:List Addr}{C:Addr}(I:Inv X pins σ H s)(hfp:∀b∈fp,abA X pins H b)(J:Inv (aaI X (x::N') scope cl C fp pins s H) [] σ' H' s'):Inv X pins σ H' s':=
 I.call' (ch:=fp) J.os J.base J.hok J.bare fun b hb=>⟨(hfp b hb).2.2.2.1,(hfp b hb).2.1,(hfp b hb).2.2.2.2.1,(hfp b hb).2.2.2.2.2⟩
end
theorem aa0(env:Env):∀(names:List (Str×NameKind)) (acc:List (Str×Addr)),names.all (fun y=>y.2 != .free||(env.cells.lookup y.1).isSome)=true->
  ∃cl:List (Str×Addr),(forIn (m:=Sem) names acc fun x r=>(do
   let (name,kind):=x
   if kind== .free then do let c ←cellOf env name;pure (ForInStep.yield ((name,c)::r)) else pure (ForInStep.yield r)))=(pure cl:Sem _)/\
   (∀y c,cl.lookup y=some c->env.cells.lookup y=some c∨acc.lookup y=some c)/\(∀y,(∃c,acc.lookup y=some c)->∃c,cl.lookup y=some c)/\(∀y,(y,NameKind.free)∈names->∃c,cl.lookup y=some c)
 |[],acc,_=>⟨acc,rfl,fun _ _ h=>.inr h,fun _ h=>h,fun _ h=>nomatch h⟩
 |(n,k)::r,acc,h=>by
  rw[List.all_cons,Bool.and_eq_true] at h
  by_cases hk:k=.free
  ·subst hk
   have h1:(env.cells.lookup n).isSome=true:=by simpa using h.1
   obtain⟨c,hc⟩:=Option.isSome_iff_exists.mp h1
   obtain⟨cl,e,p1,p2,p3⟩:=aa0 env r ((n,c)::acc) h.2
   refine⟨cl,?_,fun y c' hy=>?_,fun y hy=>?_,fun y hy=>?_⟩
   ·rw[←e]
    have q:cellOf env n=(pure c:Sem Addr):=by unfold cellOf;rw[hc]
    rw[List.forIn_cons]
    dsimp only
    rw[if_pos (show (NameKind.free==NameKind.free)=true from rfl),q]
    rfl
   ·rcases p1 y c' hy with z | z
    ·exact .inl z
    ·rw[List.lookup_cons] at z
     cases hyn:y==n with
     |true=>
      rw[hyn] at z
      have e1:y=n:=by simpa using hyn
      have e2:c=c':=by simpa using z
      rw[e1,←e2]
      exact .inl hc
     |false=>
      rw[hyn] at z
      exact .inr z
   ·refine p2 y ?_
    rw[List.lookup_cons]
    cases hyn:y==n with
    |true=>exact⟨c,rfl⟩
    |false=>exact hy
   ·rcases List.mem_cons.mp hy with z | z
    ·refine p2 y ⟨c,?_⟩
     have e1:y=n:=(Prod.mk.inj z).1
     rw[e1,List.lookup_cons]
     simp
    ·exact p3 y z
  ·obtain⟨cl,e,p1,p2,p3⟩:=aa0 env r acc h.2
   have hk':(k==NameKind.free)=false:=by simpa using hk
   refine⟨cl,?_,p1,p2,fun y hy=>?_⟩
   ·rw[←e]
    rw[List.forIn_cons]
    dsimp only
    rw[if_neg (by rw[hk'];exact Bool.false_ne_true)]
    rfl
   ·rcases List.mem_cons.mp hy with z | z
    ·exact absurd (Prod.mk.inj z).2.symm hk
    ·exact p3 y z
theorem afT{X:Cx}{scope:Scope}(h:scope.names.all (fun y=>y.2 != .free||(X.env.cells.lookup y.1).isSome)=true)(h2:scope.names.all (fun y=>y.2 != .cell)=true)(h3:scope.kind=.function)
  (h4:scope.names.all (fun y=>y.2 != .local||scope.names.lookup y.1==some .local)=true):∃cl,Clos X scope cl:=by
 obtain⟨cl,e,p1,p2,p3⟩:=aa0 X.env scope.names [] h
 refine⟨cl,?_,fun y c hy=>?_,fun y hy=>p3 y (PySem.mem_of_lookup hy),fun y hy=>by simpa using List.all_eq_true.mp h2 y hy,h3,fun y hy hl=>?_⟩
 ·unfold closureFor
  exact Eq.trans (congrArg (fun t:Sem (List (Str×Addr))=>t >>=fun r=>(pure r:Sem (List (Str×Addr)))) e) rfl
 ·rcases p1 y c hy with z | z
  ·exact z
  ·simp at z
 ·have q:=List.all_eq_true.mp h4 y hy
  simpa [hl] using q
section
variable{js:List Nat}{σ:St}{tt:TT}{te:TE}{Q:VK}{H1:Hp}
end
structure E(X:Cx)(e:Expr)(t:TE):Prop where
 h:PE X e t
structure T(X:Cx)(e:Expr)(t:TT):Prop where
 h:PT X e t
structure As(X:Cx)(es:List Expr)(t:TA):Prop where
 h:PA X es t
structure S(X:Cx)(st:Stmt)(t:TS):Prop where
 h:PS X st t
structure Ss(X:Cx)(sts:List Stmt)(t:TS):Prop where
 h:PSs X sts t
structure Il(X:Cx)(tg iter:Expr)(wi:TI):Prop where
 h:PI X tg iter wi
structure Gt(X:Cx)(tg:Expr)(t:TG):Prop where
 h:PG X tg t
structure Fs(X:Cx)(ifs:List Expr)(t:TT):Prop where
 h:PF X ifs t
structure Op2(X:Cx)(f:Value->Value->Sem Value)(r:R2):Prop where
 h:OpR X f r
structure Cl1(X:Cx)(f:Value)(r:List V->Hp->VK->Prop):Prop where
 h:abM X f r
structure Ixs(X:Cx)(r:R2):Prop where
 h:IxR X r
section
variable{X:Cx}{a b c e:Expr}{pos p:Pos}{ta tb tc te:TE}{t u:TT}{rest es:List Expr}{tA:TA}{op op':CmpOp}{r r':R2}{x:Str}
theorem v_(i:Nat)(hN:X.N[i]? =some x:=by rfl)(hv:Vis X.env.scope x:=by first | exact Or.inl rfl | exact Or.inr (Or.inl rfl) | exact Or.inr (Or.inr rfl))(hd:(x==("__debug__":Str))=false:=by decide)(hcd:(x==("__classdict__":Str))=false:=by decide):
  E X (.Name x pos) (ai3 i):=⟨agO hN hv hd hcd⟩
theorem eI{i j}:E X (.Constant (.int i) j pos) (tC (.int i)):=⟨ag2⟩
theorem eB{k j}:E X (.Constant (.bool k) j pos) (tC (.bl k)):=⟨aiB⟩
theorem eGl{v:V}{w':Value}(hm:X.mg x=some w')(q:RelV v w')(hg:Gl X x:=by rfl)(hd:(x==("__debug__":Str))=false:=by decide):E X (.Name x pos) (tC v):=⟨afB hg hm q hd⟩
theorem eTy{n:String}(hm:X.mg x=none)(hv:bootBuiltins x=some (.type n))(hg:Gl X x:=by rfl)(hn:x≠"__name__":=by decide)(hd:(x==("__debug__":Str))=false:=by decide):E X (.Name x pos) (tC (.ty n)):=⟨afG hg hm hv rfl hn hd⟩
theorem eOp{o:Operator}(ho:Op2 X (binaryOp o) r)(ha:E X a ta)(hb:E X b tb):E X (.BinOp a o b pos) (tOp r ta tb):=⟨aiS ho.h ha.h hb.h⟩
theorem aeC(ho:Op2 X (compareOp op) r)(ha:E X a ta)(hb:E X b tb)(hm:behindInMarks op b=false:=by first | exact ae1 _ | rfl):E X (.Compare a [op] [b] pos) (tOp r ta tb):=⟨afS ho.h ha.h hb.h hm⟩
theorem aeK{o}(ha:E X a ta):E X (.BoolOp o [a] pos) ta:=⟨ag8 ha.h⟩
theorem aeG(ha:E X a ta)(hb:E X (.BoolOp .And (b::rest) pos) tb):E X (.BoolOp .And (a::b::rest) pos) (agE ta tb):=⟨ag5 ha.h hb.h⟩
theorem eNot(ha:E X a ta):E X (.UnaryOp .Not a pos) (af8 ta):=⟨ahO ha.h⟩
theorem tCm(ho:Op2 X (compareOp op) r)(ha:E X a ta)(hb:E X b tb)(hm:behindInMarks op b=false:=by first | exact ae1 _ | rfl):T X (.Compare a [op] [b] pos) (af9 (tOp r ta tb)):=⟨afP ho.h ha.h hb.h hm⟩
theorem aN:As X [] ag9:=⟨ahD⟩
theorem aC(ha:E X e te)(hr:As X es tA)(hs:starEach (e::es) X.env=(false,eval e X.env)::starEach es X.env:=by rfl):As X (e::es) (af6 te tA):=⟨af3 ha.h hr.h hs⟩
theorem aiM(ha:As X es tA):E X (.List es pos) (aiZ tA):=⟨agQ ha.h⟩
theorem eIx(hr:Ixs X r)(ha:E X a ta)(hb:E X b tb)(hs:adN b:=by intro _ _;rfl):E X (.Subscript a b pos) (tOp r ta tb):=⟨aiC hr.h ha.h hb.h hs⟩
theorem eD{k k':Nat}{ps:List Str}{sp:Sp}(D:Df X.prog X.w X.K X.mg X.base x k ps sp)(hr:Room k' X.A)(ha:As X (e::es) tA)(hk:k<=k':=by decide)(hg:Gl X x:=by rfl)
  (hdb:(x==("__debug__":Str))=false:=by decide) (he:starEach (e::es) X.env=(false,eval e X.env)::starEach es X.env:=by rfl) (hpl:(backTo pos (starEach es X.env)).any (·.1)=false:=by rfl):
  E X (.Call (.Name x p) (e::es) [] pos) (adI sp [] E0 tA):=⟨aeY D hr ha.h hk hg hdb he hpl⟩
theorem eCB{id:String}{rc:List V->Hp->VK->Prop}(hc:Cl1 X (.builtin id) rc)(hm:X.mg x=none)(hv:bootBuiltins x=some (.builtin id))(ha:As X (e::es) tA)(hg:Gl X x:=by rfl)(hn:x≠"__name__":=by decide)(hdb:(x==("__debug__":Str))=false:=by decide)
  (he:starEach (e::es) X.env=(false,eval e X.env)::starEach es X.env:=by rfl) (hpl:(backTo pos (starEach es X.env)).any (·.1)=false:=by rfl):E X (.Call (.Name x p) (e::es) [] pos) (tCB rc tA):=⟨ae2 hc.h hg hm hv ha.h hn hdb he hpl⟩
theorem eCT{n:String}{rc:List V->Hp->VK->Prop}(hc:Cl1 X (.type n) rc)(hm:X.mg x=none)(hv:bootBuiltins x=some (.type n))(ha:As X (e::es) tA)(hg:Gl X x:=by rfl)(hn:x≠"__name__":=by decide)(hdb:(x==("__debug__":Str))=false:=by decide)
  (he:starEach (e::es) X.env=(false,eval e X.env)::starEach es X.env:=by rfl) (hpl:(backTo pos (starEach es X.env)).any (·.1)=false:=by rfl):E X (.Call (.Name x p) (e::es) [] pos) (tCB rc tA):=⟨adT hc.h hg hm hv ha.h hn hdb he hpl⟩
end
section
variable{X:Cx}
theorem afV:Op2 X (binaryOp .Add) (rI0 fun i j=>.int (i+j)):=⟨ahG⟩
theorem oSub:Op2 X (binaryOp .Sub) (rI0 fun i j=>.int (i-j)):=⟨ahK⟩
theorem oMul:Op2 X (binaryOp .Mult) (rI CMul fun i j=>.int (i*j)):=⟨ahC⟩
theorem ag1:Op2 X (binaryOp .FloorDiv) (rI ah0 fun i j=>.int (i / j)):=⟨afX⟩
theorem afW:Op2 X (binaryOp .Mod) (rI (fun _ j=>0<j) fun i j=>.int (i%j)):=⟨ag3⟩
theorem ahZ:Op2 X (binaryOp .Pow) (rI ahV fun i j=>.int (i^j.toNat)):=⟨agV⟩
theorem oCat:Op2 X (binaryOp .Add) aiE:=⟨ahA⟩
theorem oEq:Op2 X (compareOp .Eq) rEq:=⟨ah2⟩
theorem oNe:Op2 X (compareOp .NotEq) rNe:=⟨aiG⟩
theorem oLt:Op2 X (compareOp .Lt) (rI0 fun i j=>.bl (decide (i<j))):=⟨aiN⟩
theorem xL:Ixs X (aiK X.K):=⟨afM⟩
theorem aiA:Cl1 X (.builtin "len") (fun xs H Q=>∃p ys,xs=[.ref p]/\(SqL X.K H p ys∨SqT X.K H p ys)/\Q (.int ys.length) H):=⟨acH⟩
theorem cMax(hc:X.calm=true:=by rfl):Cl1 X (.builtin "max") (fun xs H Q=>∃i j,xs=[.int i,.int j]/\Q (.int (if j>i then j else i)) H):=⟨ad4 hc⟩
theorem cMin(hc:X.calm=true:=by rfl):Cl1 X (.builtin "min") (fun xs H Q=>∃i j,xs=[.int i,.int j]/\Q (.int (if j<i then j else i)) H):=⟨adW hc⟩
theorem ah4:Cl1 X (.type "int") (fun xs H Q=>(∃i,xs=[.int i]/\Q (.int i) H)∨∃k,xs=[.bl k]/\Q (.int (if k then 1 else 0)) H):=⟨ad2⟩
end
section
variable{X:Cx}{e c iter tg:Expr}{te:TE}{tt:TT}{tA:TA}{wi:TI}{g:TG}{t u tb:TS}{st:Stmt}{rest body ba bb:List Stmt}{pos pos' p:Pos}{x:Str}{a1 a2:Expr}
theorem ssN:Ss X [] agF:=⟨ae7⟩
theorem ssC(h1:S X st t)(h2:Ss X rest u):Ss X (st::rest) (ah8 t u):=⟨ae3 h1.h h2.h⟩
theorem ss1(h1:S X st t):Ss X [st] t:=⟨afE h1.h⟩
theorem ab1(he:E X e te):S X (.Return (some e) pos) (ahS te):=⟨agS he.h⟩
theorem sIf(hc:T X c tt)(ha:Ss X ba t)(hb:Ss X bb u):S X (.If c ba bb pos) (ahU tt t u):=⟨ajD hc.h ha.h hb.h⟩
theorem acU(i:Nat)(he:E X e te)(hN:X.N.Nodup)(hi:X.N[i]? =some x:=by rfl)(hx:Loc X.env.scope x:=by first | exact Or.inl rfl | exact Or.inr rfl)(hs:swapsWith e (some (.Name x pos')) pos.line X.env=pure false:=by rfl)
  (hf:X.fn x=true∨X.env.scope.names.lookup x=some .local:=by first | exact .inl rfl | exact .inr rfl):S X (.Assign [.Name x pos'] e pos) (ai8 te (abU i)):=⟨ahE hN hi hx he.h hs hf⟩
theorem gN(i:Nat)(hN:X.N.Nodup)(hi:X.N[i]? =some x:=by rfl)(hx:Loc X.env.scope x:=by first | exact Or.inl rfl | exact Or.inr rfl)(hf:X.fn x=true∨X.env.scope.names.lookup x=some .local:=by first | exact .inl rfl | exact .inr rfl):Gt X (.Name x pos) (abU i):=⟨af2 hN hi hx hf⟩
theorem sFor(hi:Il X tg iter wi)(hg:Gt X tg g)(hb:Ss X body tb)(hp:PassesOwn (model X.prog X.w) X.A X.env X.xe)(hc:X.calm=true:=by rfl)(hs:∀x,foldedSetIterable iter X.env x=pure x:=by intro _;rfl):S X (.For tg iter body [] pos) (aiT wi g tb):=⟨ag7 hp hc hi.h hg.h hb.h hs⟩
theorem iR1(hm:X.mg "range"=none)(ha:As X [a1] tA)(hg:Gl X "range":=by rfl)(hs:starEach [a1] X.env=[(false,eval a1 X.env)]:=by rfl):Il X tg (.Call (.Name "range" p) [a1] [] pos) (agD tA):=⟨adZ hg hm ha.h hs⟩
end
section
variable{P:Program}{w:World}{K:PySem.W.Frag}{mg:Str->Option Value}{base:Heap}{x:Str}{st:Stmt}{ps N:List Str}{k:Nat}{sp:Sp}
theorem Fn.dfs(F:Fn K mg x st ps)(S':FnScope N ps (aaB st))(len:∀vs H Q E,sp vs H Q E->vs.length=ps.length)
  (hbody:∀(f:Addr) (cdv:Value) (A:Around) (outer:List Env) (s:Shared) (H:Hp) (vs:List V) (Q:VK) (E:XK),Room k (A.deeper (envOfC x (aaB st) s.heap.objs.size f cdv))->sp vs H Q E->
   ∃t,Ss (aaR CX0 P w K mg base N x (aaB st) f cdv A outer s H E).nox (aaH st) t/\t {nx:=fun _ H'=>Q .non H',rt:=Q} (aaJ N vs) H):Df P w K mg base x (k+1) ps sp:=
 F.df S' len fun f cdv A outer s H vs Q E hr h=>by
  obtain⟨t,h1,h2⟩:=hbody f cdv A outer s H vs Q E hr h
  exact⟨t,h1.h,h2⟩
theorem Fun.oks{f:Addr}{fd:FuncData}(F:Fun K x x st f fd)(S':FnScope N ps (aaB st))(len:∀vs H Q E,sp vs H Q E->vs.length=ps.length)
  (hbody:∀(cdv:Value) (A:Around) (outer:List Env) (s:Shared) (H:Hp) (vs:List V) (Q:VK) (E:XK),Room k (A.deeper (envOfC x (aaB st) s.heap.objs.size f cdv))->sp vs H Q E->
   ∃t,Ss (aaR CX0 P w K mg base N x (aaB st) f cdv A outer s H E).nox (aaH st) t/\t {nx:=fun _ H'=>Q .non H',rt:=Q} (aaJ N vs) H):FnOk P w K mg base CX0 (k+1) f fd ps sp:=
 F.ok S' len fun cdv A outer s H vs Q E hr h=>by
  obtain⟨t,h1,h2⟩:=hbody cdv A outer s H vs Q E hr h
  exact⟨t,h1.h,h2⟩
end
end L2
namespace L2
open PySem PySem.Spec PyProof.Rows PySem.SeqAt
section
variable{X:Cx}
def agW(bs:List Bool):PyData:=.list (bs.map PyData.bool)
theorem abD{h:Heap}:∀{bs:List Bool} {us:List Value},Vals (bs.map V.bl) us->ReadsAll h us (bs.map PyData.bool) []
 |[],_,.nil=>.nil
 |b::_,_,.cons (rfl) r=>by
  have:=ReadsAll.cons (Reads.bool (h:=h) b) (abD (h:=h) r)
  simpa using this
theorem adG:∀bs:List Bool,PyData.canLayAll0 (bs.map PyData.bool)=true
 |[]=>by simp[PyData.canLayAll0]
 |_::r=>by simp[PyData.canLayAll0,PyData.canLay0,adG r]
theorem aeZ:∀bs:List Bool,PyData.depthAll (bs.map PyData.bool)<=1
 |[]=>by simp[PyData.depthAll]
 |_::r=>by
  have:=aeZ r
  simp only[List.map_cons,PyData.depthAll,PyData.depth]
  omega
theorem adE(bs:List Bool):shaped (agW bs)=true:=by
 have h1:=aeZ bs
 have h2:PyData.depth (.list (bs.map PyData.bool))<=64:=by simp only[PyData.depth];omega
 show (PyData.canLay0 (.list (bs.map PyData.bool))&&decide (PyData.depth (.list (bs.map PyData.bool))<=64))=true
 rw[Bool.and_eq_true]
 exact⟨by simp only[PyData.canLay0];exact adG bs,decide_eq_true h2⟩
theorem aeT:∀bs cs:List Bool,noMixAll (bs.map PyData.bool) (cs.map PyData.bool)=true
 |[],[]=>by simp[noMixAll]
 |[],_::_=>by simp[noMixAll]
 |_::_,[]=>by simp[noMixAll]
 |_::r,_::q=>by simp[noMixAll,noMix,aeT r q]
theorem agI:∀bs cs:List Bool,PySem.Spec.sameAll (bs.map PyData.bool) (cs.map PyData.bool)=decide (bs=cs)
 |[],[]=>by simp[PySem.Spec.sameAll]
 |[],_::_=>by simp[PySem.Spec.sameAll]
 |_::_,[]=>by simp[PySem.Spec.sameAll]
 |n::r,k::q=>by
  simp only[List.map_cons,PySem.Spec.sameAll,PySem.Spec.same,agI r q]
  by_cases h:n=k<;>simp[h]
def aiH(K:PySem.W.Frag):R2:=fun x y H Q=>∃(a b:Addr) (bs cs:List Bool),x=.ref a/\y=.ref b/\SqL K H a (bs.map V.bl)/\SqL K H b (cs.map V.bl)/\Q (.bl (decide (bs=cs))) H
theorem agU(hu:X.A.units+64<cLine):OpR X (compareOp .Eq) (aiH X.K):=by
 intro pins s σ H x y v u Q I rx ry h
 obtain⟨a,b,bs,cs,rfl,rfl,ha,hb,q⟩:=h
 cases rx
 cases ry
 obtain⟨its,rv,pl,_⟩:=I.list ha
 obtain⟨its',rv',pl',_⟩:=I.list hb
 obtain⟨o,ho,hc,n,hd⟩:=pl.isList
 obtain⟨o',ho',hc',n',hd'⟩:=pl'.isList
 exact eq_dataH_same (da:=agW bs) (db:=agW cs) (Reads.list ho hc hd (by simpa using abD rv)) (Reads.list ho' hc' hd' (by simpa using abD rv')) (adE _) (adE _) hu (by show noMix (.list _) (.list _)=true;simp only[noMix];exact aeT bs cs)
  (by show EP X pins σ Q (.bool (same (.list _) (.list _))) s;simp only[same];rw[agI];exact⟨.bl _,H,I,rfl,q⟩)
end
section
variable{X:Cx}{elt iter:Expr}{x y:Str}{px py pos spos:Pos}{ifs:List Expr}{scope:Scope}{wi:TI}{tt:TT}{te:TE}
theorem fsN:Fs X [] agT:=⟨agN⟩
theorem oEqB(hu:X.A.units+64<cLine):Op2 X (compareOp .Eq) (aiH X.K):=⟨agU hu⟩
end
section
variable{js:List Nat}{σ:St}{tt:TT}{te:TE}{Q:VK}{H1:Hp}
def IntsR(i:Nat)(l:List V):Prop:=∃zs:List Int,l=zs.map V.int/\zs.length<=i
theorem IntsR.nil:IntsR 0 []:=⟨[],rfl,Nat.le_refl _⟩
theorem IntsR.one{i:Nat}{l:List V}(h:IntsR i l)(z:Int):IntsR (i+1) (l++[.int z]):=by
 obtain⟨zs,rfl,hl⟩:=h
 exact⟨zs++[z],by rw[List.map_append];rfl,by rw[List.length_append,List.length_singleton];omega⟩
theorem Same.tup{K:PySem.W.Frag}{H H':Hp}{a:Addr}{xs:List V}(e:Same H H')(h:SqT K H a xs):SqT K H' a xs:=by
 rcases h with (h | ⟨o,h⟩) | h
 ·exact .inl (.inl (e _ _ h))
 ·exact .inl (.inr ⟨o,e _ _ h⟩)
 ·exact .inr h
end
section
variable{prog:Program}{w:World}{A:Around}{E:Value->Shared->Prop}{s:Shared}
end
section
variable{X:Cx}{pos:Pos}
end
section
variable{js:List Nat}{σ:St}{tt:TT}{te:TE}{Q:VK}{H1:Hp}
end
theorem aeH{H H2:Hp}{p:Addr}{o:HO}(hn:H p=none)(s:Same H H2):Same H (upd H2 p o):=fun b u h=>by
 rw[aaD (aaF h hn)]
 exact s b u h
structure FnM(K:PySem.W.Frag)(C:Addr)(m qual:Str)(st:Stmt)(ps:List Str):Prop where
 ex:∃(f:Addr) (fd:FuncData),Fun K m qual st f fd/\Binds K fd ps []/\Meth K C m f
structure DfM(P:Program)(w:World)(K:PySem.W.Frag)(mg:Str->Option Value)(base:Heap)(C:Addr)(m:Str)(k:Nat)(ps:List Str)(sp:Sp):Prop where
 ex:∃(f:Addr) (fd:FuncData),FnOk P w K mg base CX0 k f fd ps sp/\Binds K fd ps []/\Meth K C m f
section
variable{P:Program}{w:World}{K:PySem.W.Frag}{mg:Str->Option Value}{base:Heap}{m qual:Str}{st:Stmt}{ps N:List Str}{k:Nat}{sp:Sp}{C:Addr}
theorem FnM.dfs(F:FnM K C m qual st ps)(S':FnScope N ps (aaB st))(len:∀vs H Q E,sp vs H Q E->vs.length=ps.length)
  (hbody:∀(f:Addr) (cdv:Value) (A:Around) (outer:List Env) (s:Shared) (H:Hp) (vs:List V) (Q:VK) (E:XK),Room k (A.deeper (envOfC qual (aaB st) s.heap.objs.size f cdv))->sp vs H Q E->
   ∃t,Ss (aaR CX0 P w K mg base N qual (aaB st) f cdv A outer s H E).nox (aaH st) t/\t {nx:=fun _ H'=>Q .non H',rt:=Q} (aaJ N vs) H):DfM P w K mg base C m (k+1) ps sp:=by
 obtain⟨f,fd,F1,hb,hm⟩:=F.ex
 refine⟨⟨f,fd,F1.ok S' len fun cdv A outer s H vs Q E hr h=>?_,hb,hm⟩⟩
 obtain⟨t,h1,h2⟩:=hbody f cdv A outer s H vs Q E hr h
 exact⟨t,h1.h,h2⟩
theorem adB{f:Addr}{oc:Value}{od an:Option Addr}{osl:Array (Option Value)}{kV doc pm cdv ct:Value}
  (a:PySem.W.findIn K (.ref C) m=some (some (.ref f))) (i:PySem.W.isFn K (.ref f)=true) (l:K.lookup f=some ⟨oc,od,.func (PySem.W.fnOf m qual (aaK st) (aaH st) (aaB st) .none kV doc pm an cdv ct),osl⟩)
  (c:PySem.W.codeIn K cdv qual=true) (k:PySem.W.keepIn K (.ref f)=true)
  (hb:∀(kV doc pm:Value) (an:Option Addr) (cdv ct:Value) (us:List Value),us.length=ps.length->bindArgs (PySem.W.fnOf m qual (aaK st) (aaH st) (aaB st) .none kV doc pm an cdv ct) ⟨us,[]⟩=pure (ps.zip us)):FnM K C m qual st ps:=by
 have F:=ac3 (st:=st) l c k
 exact⟨⟨f,_,F,F.binds (ps:=ps) hb,⟨a,i,k⟩⟩⟩
end
section
variable{X:Cx}{x m:Str}{C:Addr}{k k':Nat}{ps:List Str}{sp:Sp}{e o value:Expr}{es:List Expr}{ta tv:TE}{t:TA}{p pos apos pos':Pos}{f:Str}
end
structure Po(X:Cx)(o:Option Expr)(t:TO):Prop where
 h:PO X o t
structure Sls(X:Cx)(r:V->Option Int->Option Int->Hp->VK->Prop):Prop where
 h:SlR X r
section
variable{X:Cx}{e:Expr}{te:TE}{lo hi:Option Expr}{tl th:TO}{pos p2:Pos}
theorem poN:Po X none adH:=⟨af0⟩
theorem poS(h:E X e te):Po X (some e) (agH te):=⟨af4 h.h⟩
theorem eSl{r:V->Option Int->Option Int->Hp->VK->Prop}(hr:Sls X r)(he:E X e te)(hl:Po X lo tl)(hu:Po X hi th):E X (.Subscript e (.Slice lo hi none p2) pos) (tSl r te tl th):=⟨aeU hr.h he.h hl.h hu.h⟩
end
section
variable{P:Program}{w:World}{K:PySem.W.Frag}{mg:Str->Option Value}{base:Heap}{m qual:Str}{st:Stmt}{ps N:List Str}{k:Nat}{sp:Sp}{C:Addr}{dvs:List V}
end
section
variable{X:Cx}{x:Str}{C:Addr}{k k':Nat}{ps:List Str}{sp:Sp}{p pos:Pos}{dvs:List V}
end
end L2
namespace L2
open PySem PyProof.Rows
def tb(m:Int)(i:Nat):Bool:=m.toNat.testBit i
def ajC(p:Nat->Bool)(lo:Int):Nat->List Int
 |0=>[]
 |n+1=>ajC p lo n++(if p n=true then [lo+(n:Int)] else [])
@[irreducible] def flt(p:Nat->Bool)(lo:Int)(n:Nat):List Int:=ajC p lo n
def ah1(zs:List Int):Int:=zs.foldl (fun a z=>Builtin.bitOr a (1*2^z.toNat)) 0
end L2
namespace L2
open PySem PyProof.Rows
section
variable{X:Cx}{tg:Expr}
end
section
variable{X:Cx}
end
theorem Same.none{H H':Hp}{D:Addr}(s:Same H H')(h:H' D=none):H D=none:=by
 cases e:H D with
 |none=>rfl
 |some o=>exact absurd (h.symm.trans (s _ _ e)) (by simp)
def Keep(H H':Hp):Prop:=∀b o,(∀xs,o≠ .lst xs)->H b=some o->H' b=some o
theorem Same.keep{H H':Hp}(s:Same H H'):Keep H H':=fun b o _ h=>s b o h
theorem Keep.trans{H H1 H2:Hp}(a:Keep H H1)(b:Keep H1 H2):Keep H H2:=fun c o n h=>b c o n (a c o n h)
theorem Keep.tup{H H':Hp}(k:Keep H H'){b:Addr}{xs:List V}(h:H b=some (.tup xs)):H' b=some (.tup xs):=k b _ (fun _ z=>nomatch z) h
theorem Keep.ins{H H':Hp}(k:Keep H H'){b C dx:Addr}{fs:List (Str×V)}(h:H b=some (.ins C dx fs)):H' b=some (.ins C dx fs):=k b _ (fun _ z=>nomatch z) h
section
variable{js:List Nat}{σ:St}{tt:TT}{te:TE}{Q:VK}{H1:Hp}
end
section
variable{X:Cx}{K:PySem.W.Frag}
end
inductive Kd where
 |int | bool | str | non | list | tuple | dict
def Kd.nm:Kd->String
 |.int=>"int" | .bool=>"bool" | .str=>"str" | .non=>"NoneType" | .list=>"list" | .tuple=>"tuple" | .dict=>"dict"
def Kd.isa:Kd->Kd->Bool
 |.int,.int=>true | .bool,.int=>true | .bool,.bool=>true | .str,.str=>true | .list,.list=>true | .tuple,.tuple=>true | .dict,.dict=>true | _,_=>false
def af7(K:PySem.W.Frag)(H:Hp):V->Kd->Prop
 |.int _,k=>k=.int
 |.bl _,k=>k=.bool
 |.str _,k=>k=.str
 |.non,k=>k=.non
 |.ref a,k=>(k=.list/\∃xs,SqL K H a xs)∨(k=.tuple/\∃xs,SqT K H a xs)∨(k=.dict/\∃kvs,H a=some (.dK kvs))
 |_,_=>False
theorem cIs{X:Cx}:Cl1 X (.builtin "isinstance") (fun xs H Q=>∃(v:V) (n k:Kd),xs=[v,.ty n.nm]/\n.nm≠"NoneType"/\af7 X.K H v k/\Q (.bl (Kd.isa k n)) H):=by
 refine⟨fun pins s σ H xs us Q I r h=>?_⟩
 obtain⟨v,n,k,rfl,hn,hk,q⟩:=h
 obtain⟨u,w',rfl,r1,r2⟩:=acQ r
 cases r2
 have fin:∀tk,EP X pins σ Q (.bool (Kd.isa k n)) {s with toks:=tk}:=fun tk=>⟨.bl _,H,I.tok _,rfl,q⟩
 have fin0:EP X pins σ Q (.bool (Kd.isa k n)) s:=⟨.bl _,H,I,rfl,q⟩
 cases v with
 |int i=>
  obtain⟨t,rfl⟩:=r1
  cases (show k=Kd.int from hk)
  cases n with
  |int=>exact PySem.IsiPair.int_int fin0
  |bool=>exact PySem.IsiPair.int_bool (fin _)
  |str=>exact PySem.IsiPair.int_str (fin _)
  |list=>exact PySem.IsiPair.int_list (fin _)
  |tuple=>exact PySem.IsiPair.int_tuple (fin _)
  |dict=>exact PySem.IsiPair.int_dict (fin _)
  |non=>exact absurd rfl hn
 |bl b=>
  cases r1
  cases (show k=Kd.bool from hk)
  cases n with
  |int=>exact PySem.IsiPair.bool_int fin0
  |bool=>exact PySem.IsiPair.bool_bool fin0
  |str=>exact PySem.IsiPair.bool_str (fin _)
  |list=>exact PySem.IsiPair.bool_list (fin _)
  |tuple=>exact PySem.IsiPair.bool_tuple (fin _)
  |dict=>exact PySem.IsiPair.bool_dict (fin _)
  |non=>exact absurd rfl hn
 |str x=>
  obtain⟨t,rfl⟩:=r1
  cases (show k=Kd.str from hk)
  cases n with
  |int=>exact PySem.IsiPair.str_int (fin _)
  |bool=>exact PySem.IsiPair.str_bool (fin _)
  |str=>exact PySem.IsiPair.str_str fin0
  |list=>exact PySem.IsiPair.str_list (fin _)
  |tuple=>exact PySem.IsiPair.str_tuple (fin _)
  |dict=>exact PySem.IsiPair.str_dict (fin _)
  |non=>exact absurd rfl hn
 |non=>
  cases r1
  cases (show k=Kd.non from hk)
  cases n with
  |int=>exact PySem.IsiPair.NoneType_int (fin _)
  |bool=>exact PySem.IsiPair.NoneType_bool (fin _)
  |str=>exact PySem.IsiPair.NoneType_str (fin _)
  |list=>exact PySem.IsiPair.NoneType_list (fin _)
  |tuple=>exact PySem.IsiPair.NoneType_tuple (fin _)
  |dict=>exact PySem.IsiPair.NoneType_dict (fin _)
  |non=>exact absurd rfl hn
 |ref a=>
  cases r1
  rcases hk with ⟨rfl,ys,hq⟩ | ⟨rfl,ys,hq⟩ | ⟨rfl,kvs,hq⟩
  ·obtain⟨its,rv,pl,_⟩:=I.list hq
   obtain⟨o,ho,hc,_⟩:=pl.isList
   cases n with
   |int=>exact PySem.IsiPair.list_int ho hc (fin _)
   |bool=>exact PySem.IsiPair.list_bool ho hc (fin _)
   |str=>exact PySem.IsiPair.list_str ho hc (fin _)
   |list=>exact PySem.IsiPair.list_list ho hc fin0
   |tuple=>exact PySem.IsiPair.list_tuple ho hc (fin _)
   |dict=>exact PySem.IsiPair.list_dict ho hc (fin _)
   |non=>exact absurd rfl hn
  ·obtain⟨its,rv,⟨o,ho,hc,_⟩,_⟩:=I.tuple hq
   cases n with
   |int=>exact PySem.IsiPair.tuple_int ho hc (fin _)
   |bool=>exact PySem.IsiPair.tuple_bool ho hc (fin _)
   |str=>exact PySem.IsiPair.tuple_str ho hc (fin _)
   |list=>exact PySem.IsiPair.tuple_list ho hc (fin _)
   |tuple=>exact PySem.IsiPair.tuple_tuple ho hc fin0
   |dict=>exact PySem.IsiPair.tuple_dict ho hc (fin _)
   |non=>exact absurd rfl hn
  ·obtain⟨_,_,_,_,o,_,_,ho,ex,_⟩:=I.hok a _ hq
   cases n with
   |int=>exact PySem.IsiPair.dict_int ho ex.1 (fin _)
   |bool=>exact PySem.IsiPair.dict_bool ho ex.1 (fin _)
   |str=>exact PySem.IsiPair.dict_str ho ex.1 (fin _)
   |list=>exact PySem.IsiPair.dict_list ho ex.1 (fin _)
   |tuple=>exact PySem.IsiPair.dict_tuple ho ex.1 (fin _)
   |dict=>exact PySem.IsiPair.dict_dict ho ex.1 fin0
   |non=>exact absurd rfl hn
 |byt b=>exact False.elim hk
 |flt b=>exact False.elim hk
 |ty n=>exact False.elim hk
end L2
namespace L2
open PySem PySem.Spec PyProof.Rows PySem.Builtin PySem.Builtin.Str
abbrev Tx(l:List Nat):Str:=⟨l.toArray⟩
theorem adA(a:List Nat):(Tx a).length=a.length:=by simp[Str.length]
section
variable{X:Cx}{tg:Expr}
end
section
variable{js:List Nat}{σ:St}{tt:TT}{te:TE}{Q:VK}{H1:Hp}
end
section
variable{X:Cx}
end
end L2
namespace L2
open PySem PySem.Spec PyProof.Rows PySem.Builtin PySem.Builtin.Str
def spl(c:Nat):List Nat->List (List Nat)
 |[]=>[[]]
 |x::r=>if x=c then []::spl c r else match spl c r with
  |h::t=>(x::h)::t
  |[]=>[[x]]
section
variable{prog:Program}{w:World}{A:Around}{E:Value->Shared->Prop}{s:Shared}{x y:Str}{t u:Tok}{Q:Value->Shared->Prop}
end
section
variable{X:Cx}
end
end L2
namespace L2
open PySem PySem.Spec PyProof.Rows PySem.Builtin PySem.Builtin.Str
section
variable{X:Cx}{pins:List (Addr×Obj)}{σ:St}{H:Hp}{s:Shared}{h':Heap}
end
section
variable{X:Cx}{es:List Expr}{kk:Nat}{tpos:Pos}
end
def num(m:Nat):List Nat:=(Nat.toDigits 10 m).map Char.toNat
section
variable{X:Cx}
end
end L2
namespace L2
open PySem PySem.Spec PyProof.Rows PySem.Builtin PySem.Builtin.Str
section
variable{X:Cx}{pos:Pos}
theorem eSx{z:Str}{j}(l:List Nat)(h:z=Tx l:=by decide +kernel):E X (.Constant (.str z) j pos) (tC (.str (Tx l))):=by
 subst h
 exact⟨agM⟩
end
def aiR(c:Nat):Bool:=decide (48<=c)&&decide (c<=57)
def allF(l:List Nat):Bool:= !decide (l=[])&&l.all aiR
def isW(l:List Nat):Bool:=allF l&&(decide (l=[48])|| !decide (l.headD 0=48))
def dv(l:List Nat):Int:=((PySem.NumText.digitsVal l:Nat):Int)
def acB(lo hi:Int)(l:List Nat):Option Int:=if isW l=true then (if lo<=dv l/\dv l<=hi then some (dv l) else none) else none
def ahX(es:List (Option Int)):Option (Int×Int):=match es with
 |[some a]=>some (a,a)
 |[some a,some b]=>if b<a then none else some (a,b)
 |_=>none
def adL(lo hi:Int)(l:List Nat):Option (Int×Int):=if l=[42] then some (lo,hi) else ahX ((spl 45 l).map (acB lo hi))
@[irreducible] def rngL(a b s:Int):List Int:=(List.range (Builtin.Range.rangeSize a (b+1) s).toNat).map fun i:Nat=>a+(i:Int)*s
def ajA(a b s:Int):Int:=ah1 (rngL a b s)
def ae9(lo hi:Int)(r s:List Nat):Option Int:=
 match adL lo hi r,acB 1 99 s with
 |some (a,b),some st=>some (ajA a (if isW r=true then hi else b) st)
 |_,_=>none
def abT(lo hi:Int)(l:List Nat):Option Int:=
 match spl 47 l with
 |[r,s]=>ae9 lo hi r s
 |_=>match adL lo hi l with
  |some (a,b)=>some (ajA a b 1)
  |none=>none
end L2
namespace L2
open PySem PySem.Spec PyProof.Rows PySem.Builtin PySem.Builtin.Str
end L2
namespace L2
open PySem PySem.Spec PyProof.Rows PySem.Builtin PySem.Builtin.Str
section
variable{X:Cx}
end
section
variable{X:Cx}{elt iter tg:Expr}{xs:List Str}{y:Str}{py pos spos:Pos}{ifs:List Expr}{scope:Scope}{cl:List (Str×Addr)}{N':List Str}{js:List Nat}{tt:TT}{te:TE}{g:TG}{wi:TI}
end
section
variable{js:List Nat}{σ:St}{tt:TT}{te:TE}{Q:VK}{H1:Hp}
end
section
variable{X:Cx}
end
section
variable{X:Cx}{elt iter tg:Expr}{xs:List Str}{y:Str}{py pos spos:Pos}{ifs:List Expr}{scope:Scope}{cl:List (Str×Addr)}{N':List Str}{js:List Nat}{tt:TT}{te:TE}{g:TG}{wi:TI}
end
end L2
namespace L2
open PySem PySem.Spec PyProof.Rows PySem.SeqAt
section
variable{X:Cx}
end
def Kn(f:Obj->Prop):Prop:=∀(o:Obj) (vs:Array Value) (x:Value),o.data=.fields vs->f o->f (Obj.mapFields (·.setIfInBounds 1 x) o)
def Trc(f:Obj->Prop)(fl:Value)(B h:Heap)(e:Addr):Prop:=∃(o:Obj) (vs:Array Value) (T:Addr) (oT:Obj) (ts:Array Value),
 (h.get? e=some o/\o.data=.fields vs/\vs[1]? =some (.ref T)/\f o)/\(h.get? T=some oT/\oT.data=.fields ts/\ts[3]? =some fl)/\B.get? T=none/\T≠e
structure Fg(f:Obj->Prop)(fl:Value)(B:Heap)(l:List Env)(e:Addr)(h:Heap):Prop where
 st:B.StaysIn h
 nb:B.get? e=none
 ff:h.FunFrames B l
 tr:Trc f fl B h e
theorem ab9{h:Heap}{T:Addr}{oT:Obj}{ts:Array Value}(hT:h.get? T=some oT)(hd:oT.data=.fields ts){b:Addr}{o:Obj}(e:h.get? b=some o)(n:∀vs,o.data≠ .fields vs):b≠T:=fun z=>by
 subst z
 cases hT.symm.trans e
 exact n ts hd
section
variable{M:Model}{A:Around}{E:Value->Shared->Prop}{s:Shared}{f:Obj->Prop}{B:Heap}{env:Env}{outer l:List Env}{L e:Addr}{fl:Value}{Q:Unit->Shared->Prop}
theorem acT{o:Obj}{vs:Array Value}{head:Value}{had:Bool}(kn:Kn f)(hA:A.frames=some (env::outer))(hL:env.frame=some L)(ff:s.heap.FunFrames B (env::outer))(st:B.StaysIn s.heap)(nb:B.get? e=none)
  (he:s.heap.get? e=some o) (hd:o.data=.fields vs) (sz:1<vs.size) (ho:f o) (k:∀h',Fg f (rawInt L) B (env::outer) e h'->s.heap.UpToSlots h'->Q () {s with heap:=h'}):
  wpAny M A (do let a ←frameOf env;let pl ←entryPlaceOf L had;let b ←EntryCells.newEntry head a .none (rawInt L) .none pl;setField (.ref e) 1 b) Q E s:=by
 have out:e∉(env::outer).filterMap (·.frame):=fun z=>by
  obtain⟨_,o',q,nf⟩:=ff.mem z
  cases he.symm.trans q
  exact nf vs hd
 refine wpAny_bind (wpAny_frameOf_fun hA ff hL fun g sl=>wpAny_bind (wpAny_entryPlaceOf fun pl pok=>?_))
 unfold EntryCells.newEntry newFields
 refine wpAny_bind (wpAny_newObj_type ?_ (pok.sizeOk5 _ _ _ _ _))
 have t3:([head,Value.ref L,.none,rawInt L,.none]++(if pl.isEmpty then List.replicate 6 Value.none else pl)).toArray[3]? =some (rawInt L):=by
  rw[List.getElem?_toArray]
  rfl
 generalize ([head,Value.ref L,.none,rawInt L,.none]++(if pl.isEmpty then List.replicate 6 Value.none else pl)).toArray=ts at t3
 have e1:g.get? e=some o:=(sl.2.1 e out).trans he
 have st1:B.StaysIn g:=fun b ob q=>(sl.2.1 b fun z=>by rw[(ff.mem z).1] at q;cases q).trans (st b ob q)
 have e2:=Heap.get?_push_of_some (h:=g) {cls:=.type "traceback",data:=.fields ts} e1
 have far:g.objs.size≠e:=Nat.ne_of_gt (Heap.lt_size e1)
 have dat:=Obj.data_mapFields hd (·.setIfInBounds 1 (Value.ref g.objs.size))
 have e3:=Heap.get?_update_self (Obj.mapFields (·.setIfInBounds 1 (Value.ref g.objs.size))) e2 (Obj.isFreed_of_fields dat)
 have k1:∀b ob,b≠e->g.get? b=some ob->((g.push {cls:=.type "traceback",data:=.fields ts}).update e (Obj.mapFields (·.setIfInBounds 1 (Value.ref g.objs.size)))).get? b=some ob:=fun b ob n q=>
  (Heap.get?_update_other _ _ (Ne.symm n)).trans (Heap.get?_push_of_some _ q)
 refine wpAny_setField e2 hd sz (k _ ⟨fun b ob q=>k1 b ob (fun z=>by rw[z,nb] at q;cases q) (st1 b ob q),nb,ff.of_keeps fun b ob q n=>?_,?_⟩ fun b ob q n=>?_)
 ·obtain⟨x,q1⟩:=sl.2.2 b ob q
  exact⟨_,k1 b _ (ab9 he hd q n) q1,rfl⟩
 ·exact⟨_,_,g.objs.size,_,ts,⟨e3,dat,by simp[sz],kn o vs _ hd ho⟩,⟨(Heap.get?_update_other _ _ (Ne.symm far)).trans (Heap.get?_push_size g rfl),rfl,t3⟩,st1.fresh,far⟩
 ·obtain⟨x,q1⟩:=sl.2.2 b ob q
  exact⟨x,k1 b _ (ab9 he hd q n) q1⟩
theorem ae5{o:Obj}{vs:Array Value}(kn:Kn f)(hA:A.frames=some (env::outer))(hL:env.frame=some L)(ff:s.heap.FunFrames B (env::outer))(st:B.StaysIn s.heap)(nb:B.get? e=none)
  (he:s.heap.get? e=some o) (hd:o.data=.fields vs) (h1:vs[1]? =some .none) (ho:f o) (k:∀h',Fg f (rawInt L) B (env::outer) e h'->s.heap.UpToSlots h'->Q () {s with heap:=h'}):wpAny M A (noteFrame (.ref e) env) Q E s:=by
 unfold noteFrame
 simp only[hL]
 refine wpAny_bind (wpAny_field he hd h1 ?_)
 rw[if_neg (by decide)]
 exact acT kn hA hL ff st nb he hd (Array.getElem?_eq_some_iff.mp h1).1 ho k
theorem acJ(v:Option Addr)(F:Fg f fl B l e s.heap)(k:∀h',Fg f (v.elim .none fun q=>rawInt q) B l e h'->s.heap.UpToSlots h'->Q () {s with heap:=h'}):wpAny M A (setFlight (.ref e) v) Q E s:=by
 obtain⟨o,vs,T,oT,ts,⟨he,hd,h1,ho⟩,⟨hT,dT,h3⟩,nT,ne⟩:=F.tr
 have s3:3<ts.size:=(Array.getElem?_eq_some_iff.mp h3).1
 have oth:∀b,b≠T->(s.heap.update T (Obj.mapFields (·.setIfInBounds 3 (v.elim Value.none fun q=>rawInt q)))).get? b=s.heap.get? b:=fun b n=>Heap.get?_update_other _ _ n.symm
 unfold setFlight
 refine wpAny_bind (wpAny_field he hd h1 ?_)
 rw[if_pos (by simp)]
 refine wpAny_setField hT dT s3 (k _ ⟨fun b ob q=>(oth b fun z=>by rw[z,nT] at q;cases q).trans (F.st b ob q),F.nb,F.ff.of_keeps fun b ob q n=>⟨ob,(oth b (ab9 hT dT q n)).trans q,rfl⟩,?_⟩ fun b ob q n=>⟨ob.slots,(oth b (ab9 hT dT q n)).trans q⟩)
 exact⟨o,vs,T,_,_,⟨(oth e ne.symm).trans he,hd,h1,ho⟩,⟨Heap.get?_update_self _ hT (Obj.isFreed_of_fields (Obj.data_mapFields dT _)),Obj.data_mapFields dT _,by simp[s3]⟩,nT,ne⟩
theorem ae8(kn:Kn f)(hA:A.frames=some (env::outer))(hL:env.frame=some L)(F:Fg f .none B (env::outer) e s.heap)(k:∀h',Fg f (rawInt L) B (env::outer) e h'->s.heap.UpToSlots h'->Q () {s with heap:=h'}):
  wpAny M A (noteFrame (.ref e) env) Q E s:=by
 obtain⟨o,vs,T,oT,ts,⟨he,hd,h1,ho⟩,⟨hT,dT,h3⟩,nT,ne⟩:=F.tr
 have oth:∀b,b≠T->(s.heap.update T (Obj.mapFields (·.setIfInBounds 3 Value.none))).get? b=s.heap.get? b:=fun b n=>Heap.get?_update_other _ _ n.symm
 unfold noteFrame
 simp only[hL]
 refine wpAny_bind (wpAny_field he hd h1 ?_)
 rw[if_pos (by simp)]
 refine wpAny_bind (wpAny_field hT dT h3 ?_)
 rw[if_neg (by simp[rawInt])]
 refine wpAny_bind (wpAny_setField hT dT (Array.getElem?_eq_some_iff.mp h3).1 ?_)
 refine acT kn hA hL (F.ff.of_keeps fun b ob q n=>⟨ob,(oth b (ab9 hT dT q n)).trans q,rfl⟩) (fun b ob q=>(oth b fun z=>by rw[z,nT] at q;cases q).trans (F.st b ob q)) F.nb ((oth e ne.symm).trans he) hd (Array.getElem?_eq_some_iff.mp h1).1 ho fun h' F' up=>k h' F' fun b ob q n=>up b ob ((oth b (ab9 hT dT q n)).trans q) n
theorem Fg.out{h:Heap}(F:Fg f fl B (env::outer) e h):Fg f fl B outer e h:=⟨F.st,F.nb,F.ff.2.2,F.tr⟩
theorem ac8{o:Obj}{vs:Array Value}(kn:Kn f)(hA:A.frames=some (env::outer))(hL:env.frame=some L)(ff:s.heap.FunFrames B (env::outer))(st:B.StaysIn s.heap)(nb:B.get? e=none)
  (he:s.heap.get? e=some o) (hd:o.data=.fields vs) (h1:vs[1]? =some .none) (ho:f o) (k:∀h',Fg f .none B outer e h'->s.heap.UpToSlots h'->Q () {s with heap:=h'}):wpAny M A (leaving env (.ref e)) Q E s:=
 wpAny_bind (ae5 kn hA hL ff st nb he hd h1 ho fun _ F1 u1=>acJ none F1 fun h2 F2 u2=>k h2 F2.out (u1.trans u2))
end
theorem ObjOk.at{P:Program}{w:World}{H:Hp}{h:Heap}{a:Addr}{o:HO}(x:ObjOk P w H h a o):∃ob,h.get? a=some ob:=by
 induction o with
 |lst xs=>obtain⟨_,_,_,_,e⟩:=x;exact⟨_,e⟩
 |tup xs=>obtain⟨_,_,_,ob,e,_⟩:=x;exact⟨_,e⟩
 |dK kvs=>obtain⟨_,_,_,_,ob,_,_,e,_⟩:=x;exact⟨_,e⟩
 |dT kvs=>obtain⟨_,_,_,_,ob,_,_,e,_⟩:=x;exact⟨_,e⟩
 |set S n=>obtain⟨ob,_,_,_,e,_⟩:=x;exact⟨_,e⟩
 |ins C dx fs=>obtain⟨_,_,_,e,_⟩:=x;exact⟨_,e⟩
 |own y=>exact x
 |xd fs=>obtain⟨_,⟨ob,_,_,e,_⟩,_⟩:=x;exact⟨_,e⟩
 |rng lo hi=>obtain⟨_,_,_,e⟩:=x;exact⟨_,e⟩
 |frz ob u ih=>exact⟨_,x.1⟩
 |tbl ps=>exact⟨_,x⟩
 |met f y=>exact⟨_,x⟩
 |ext φ=>exact x.2.1
def Ex(C:Addr)(d:Option Addr)(b:Bool)(o:Obj):Prop:=o.cls=.ref C/\o.dict=d/\∃vs,o.data=.fields vs/\(b=true->vs[2]? =some .none)
theorem agA(C:Addr)(d:Option Addr)(b:Bool):Kn (Ex C d b):=fun o vs x hd ⟨h1,h2,ws,h3,h4⟩=>by
 cases hd.symm.trans h3
 refine⟨(Obj.cls_mapFields _ _).trans h1,?_,_,Obj.data_mapFields hd _,fun z=>?_⟩
 ·rw[←h2]
  obtain⟨c,dd,dt,sl⟩:=o
  cases hd
  rfl
 ·rw[Array.getElem?_setIfInBounds_ne (by decide)]
  exact h4 z
def wc(C:Addr):Value:=.int C 0
def cv(C:Addr):Bool->Value
 |true=>.ref C
 |false=>wc C
theorem agK{C C':Addr}{b:Bool}(h:cv C b=.ref C'):C=C'/\b=true:=by
 cases b with
 |true=>cases h;exact⟨rfl,rfl⟩
 |false=>cases h
def Fly(g h:Heap)(H:Hp)(a C:Addr)(d:Option Addr)(b:Bool):Prop:=
 H a=none/\g.get? a=none/\∃(o:Obj) (vs:Array Value) (T:Addr) (oT:Obj) (ts:Array Value),(h.get? a=some o/\o.data=.fields vs/\vs[1]? =some (.ref T)/\Ex C d b o)/\
  (h.get? T=some oT/\oT.data=.fields ts/\ts[3]? =some .none)/\(H T=none/\g.get? T=none)/\T≠a
def CX1(P:Program)(w:World):CXT:=fun outer H s E e s'=>
 ∃a C d b H',e=.ref a/\s'.os=s.os/\AllBare s'.gens/\Un (frs outer) [] H H' s.heap s'.heap/\HOk P w H' s'.heap/\Fly s.heap s'.heap H' a C d b/\E (cv C b) d H'
theorem adD{P:Program}{w:World}{fs:List Addr}{l:List Env}{H0 H:Hp}{g h1 h2:Heap}{hid:List Addr}{a C:Addr}{d:Option Addr}{b0:Bool}(u:Un fs [] H0 H g h1)(hok:HOk P w H h1)(frf:∀b∈fs,H b=none)
  (ff:∀b∈fs,∃o,h1.get? b=some o/\∀vs,o.data≠ .fields vs) (hh:∀b∈hid,b∈fs∨(H b=none/\g.get? b=none)) (fl:Fg (Ex C d b0) .none (PySem.W.hideAll h1 hid) l a h2) (up:h1.UpToSlots h2)
  (hga:g.get? a=none) (Ha:H a=none):Un fs [] H0 H g h2/\HOk P w H h2/\Fly g h2 H a C d b0:=by
 have keep:∀b o,h1.get? b=some o->b∉hid->h2.get? b=some o:=fun b o e n=>fl.st b o (PySem.W.hideAll_get _ e n)
 have nofr:∀b o vs,b∈fs->h2.get? b=some o->o.data≠ .fields vs:=fun b o vs hb e=>by
  obtain⟨o1,e1,nf⟩:=ff b hb
  obtain⟨sl,e2⟩:=up b o1 e1 nf
  rw[e] at e2
  cases e2
  exact nf vs
 have slots:∀b o,b∈fs->h1.get? b=some o->∃sl,h2.get? b=some {o with slots:=sl}:=fun b o hb e=>by
  obtain⟨o1,e1,nf⟩:=ff b hb
  rw[e] at e1
  cases e1
  exact up b o e nf
 have nhid:∀b o,b∉fs->g.get? b=some o->b∉hid:=fun b o nb e hb=>by
  rcases hh b hb with z | ⟨_,z⟩
  ·exact nb z
  ·rw[e] at z;cases z
 have thid:∀b o,H b=some o->b∉hid:=fun b o e hb=>by
  rcases hh b hb with z | ⟨z,_⟩
  ·rw[frf b z] at e;cases e
  ·rw[e] at z;cases z
 refine⟨⟨fun b o e n hb hx=>keep b o (u.keep b o e n hb hx) (nhid b o hb e),fun b o e n hb hx=>?_,u.free,fun b o e hx=>?_,u.tups,u.frzs,u.tbls⟩,fun b ob e=>?_,Ha,hga,?_⟩
 ·obtain⟨sl,e1⟩:=u.slot b o e n hb hx
  obtain⟨sl',e2⟩:=slots b _ hb e1
  exact⟨sl',e2⟩
 ·obtain⟨o',e1⟩:=u.there b o e hx
  by_cases hb:b∈fs
  ·obtain⟨sl,e2⟩:=slots b _ hb e1
   exact⟨_,e2⟩
  ·exact⟨o',keep b o' e1 (nhid b o hb e)⟩
 ·refine (hok b ob e).stay (fun c v hc q=>keep c v q ?_) (fun _ q=>q) fun _ _ q=>q
  rcases hc with z | z
  ·rw[z];exact thid b ob e
  ·exact thid c _ z
 ·obtain⟨o,vs,T,oT,ts,ho,hT,hnT,hTe⟩:=fl.tr
  have nT:T∉fs:=fun z=>nofr T oT ts z hT.1 hT.2.1
  refine⟨o,vs,T,oT,ts,ho,hT,⟨?_,?_⟩,hTe⟩
  ·cases q:H T with
   |none=>rfl
   |some o=>
    obtain⟨ob,e⟩:=(hok T o q).at
    have:=PySem.W.hideAll_get _ e (thid T o q)
    rw[hnT] at this;cases this
  ·cases q:g.get? T with
   |none=>rfl
   |some o=>
    obtain⟨ob,e⟩:=u.there T o q (by simp)
    have:=PySem.W.hideAll_get _ e (nhid T o nT q)
    rw[hnT] at this;cases this
theorem Fly.flying{bs g h:Heap}{H:Hp}{a C:Addr}{d:Option Addr}{b:Bool}{l:List Env}(f:Fly g h H a C d b)(ff:h.FunFrames bs l):∃T,(H T=none/\g.get? T=none)/\Fg (Ex C d b) .none (PySem.W.hideAll h (frs l++[a,T])) l a h:=by
 obtain⟨_,_,o,vs,T,oT,ts,ho,hT,fT,nT⟩:=f
 exact⟨T,fT,fun b o e=>PySem.W.of_hideAll _ e,PySem.W.hideAll_none _ (by simp),PySem.W.funFrames_hide ff fun env he b hb=>List.mem_append_left _ (List.mem_filterMap.mpr ⟨env,he,hb⟩),o,vs,T,oT,ts,ho,hT,PySem.W.hideAll_none _ (by simp),nT⟩
theorem ahJ{bs h:Heap}{l:List Env}(ff:h.FunFrames bs l):∀b∈frs l,∃o,h.get? b=some o/\∀vs,o.data≠ .fields vs:=fun b hb=>(ff.mem hb).2
section
variable{P:Program}{w:World}{K:PySem.W.Frag}{mg:Str->Option Value}{base:Heap}{N:List Str}{qual:Str}{scope:Scope}{f:Addr}{cd:Value}{A:Around}{outer:List Env}{s0:Shared}{H0:Hp}{E:XK}
theorem ad6{pins:List (Addr×Obj)}{σ:St}{H:Hp}{s:Shared}(I:Inv (aaR (CX1 P w) P w K mg base N qual scope f cd A outer s0 H0 E) pins σ H s):∀b∈frs (aaR (CX1 P w) P w K mg base N qual scope f cd A outer s0 H0 E).stack,b∈frs outer∨(H b=none/\s0.heap.get? b=none):=fun b hb=>by
 have hb:b∈frs (envOfC qual scope s0.heap.objs.size f cd::outer):=hb
 have q:b=s0.heap.objs.size∨b∈frs outer:=by
  obtain⟨env,he,hf⟩:=List.mem_filterMap.mp hb
  rcases List.mem_cons.mp he with rfl | he
  ·exact .inl (Option.some.inj hf).symm
  ·exact .inr (List.mem_filterMap.mpr ⟨env,he,hf⟩)
 rcases q with rfl | q
 ·exact .inr ⟨I.free,Heap.get?_none_of_le (Nat.le_refl _)⟩
 ·exact .inl q
theorem Inv.gone{X:Cx}{pins:List (Addr×Obj)}{σ:St}{H:Hp}{s:Shared}(I:Inv X pins σ H s)(hx:X.ex=[]){b:Addr}(e:s.heap.get? b=none):X.s₀.heap.get? b=none:=by
 cases q:X.s₀.heap.get? b with
 |none=>rfl
 |some o=>
  obtain⟨o',z⟩:=I.base.there b o q (by rw[hx];simp)
  rw[e] at z;cases z
theorem aiF{pins:List (Addr×Obj)}{σ:St}{H:Hp}{s:Shared}{a C:Addr}{d:Option Addr}{b:Bool}{o:Obj}{vs:Array Value}(I:Inv (aaR (CX1 P w) P w K mg base N qual scope f cd A outer s0 H0 E) pins σ H s)(Ha:H a=none)(ga:s0.heap.get? a=none)
  (ho:s.heap.get? a=some o) (hd:o.data=.fields vs) (h1:vs[1]? =some .none) (hx:Ex C d b o) (q:E (cv C b) d H):(aaR (CX1 P w) P w K mg base N qual scope f cd A outer s0 H0 E).xe (.ref a) s:=by
 refine ac8 (B:=PySem.W.hideAll s.heap (frs (envOfC qual scope s0.heap.objs.size f cd::outer)++[a])) (L:=s0.heap.objs.size) (agA C d b) I.ok.frames rfl (PySem.W.funFrames_hide I.stack fun env he b hb=>List.mem_append_left _ (List.mem_filterMap.mpr ⟨env,he,hb⟩)) (fun b o e=>PySem.W.of_hideAll _ e) (PySem.W.hideAll_none _ (by simp)) ho hd h1 hx fun h2 fl2 up=>?_
 obtain⟨u2,hok2,fly2⟩:=adD (fs:=frs outer) I.base I.hok (fun b hb=>I.stkFree b (by
   obtain⟨env,he,hf⟩:=List.mem_filterMap.mp hb
   exact List.mem_filterMap.mpr ⟨env,List.mem_cons_of_mem _ he,hf⟩)) (ahJ I.funs) (fun b hb=>by
  rcases List.mem_append.mp hb with z | z
  ·exact ad6 I b z
  ·obtain rfl:b=a:=by simpa using z
   exact .inr ⟨Ha,ga⟩) fl2 up ga Ha
 exact⟨a,C,d,b,H,rfl,I.os,I.bare,u2,hok2,fly2,q⟩
end
abbrev aeF:List Value:=[.type "ValueError",.type "Exception",.type "BaseException",.type "object"]
structure Xc(K:PySem.W.Frag)(mg:Str->Option Value)(x:Str)(C:Addr):Prop where
 m:mg x=some (.ref C)
 n:PySem.W.nsIn K mainGlobals x=some (some (.ref C))
 q:PySem.W.excIn K C aeF "ValueError.__new__"=true
theorem Mod.top{K:PySem.W.Frag}{mg:Str->Option Value}{base:Heap}(m:Mod K mg base)(p:Program):∃loose mb,PySem.W.TopRead p loose mg mb base:=by
 obtain⟨mb,b1,b2⟩:=m.blt
 obtain⟨o,es,ep,ho,hd,hk,hf⟩:=id m.glob
 refine⟨es.toList.filterMap fun e=>match e.key with | .str y _=>some y | _=>none,mb,m.glob,b1,m.nolimit,b2,fun x _ hx _ _ _=>?_⟩
 rw[←hf]
 have none_:es.find? (fun e=>e.key.isStr x)=none:=by
  rw[Array.find?_eq_none]
  intro e he hs
  obtain⟨y,t,ek⟩:=hk e he
  refine hx (List.mem_filterMap.mpr ⟨e,by simpa using he,?_⟩)
  rw[ek] at hs ⊢
  have:y=x:=by simpa [Value.isStr] using hs
  rw[this]
 show (es.find? fun e=>e.key.isStr x).map (·.val)=none
 rw[none_]
 rfl
theorem Xc.own{K:PySem.W.Frag}{mg:Str->Option Value}{base:Heap}{x:Str}{C:Addr}(c:Xc K mg x C)(m:Mod K mg base)(p:Program):OwnCls x C aeF "ValueError.__new__" mg base:=by
 obtain⟨loose,mb,T⟩:=m.top p
 exact PySem.W.own_of_in m.kin T c.n c.q
def ac4(C:Addr)(E:XK)(t:TA):TS:=fun _ σ H=>t σ H fun vs H1=>vs.length<=sizeLine/\E (.ref C) none H1
def aeQ(X:Cx)(E:XK):Prop:=∀(pins:List (Addr×Obj)) (σ:St) (H:Hp) (s:Shared) (a C:Addr) (d:Option Addr) (b:Bool) (o:Obj) (vs:Array Value),Inv X pins σ H s->H a=none->X.s₀.heap.get? a=none->s.heap.get? a=some o->o.data=.fields vs->vs[1]? =some .none->Ex C d b o->E (cv C b) d H->X.xe (.ref a) s
theorem Inv.newX{X:Cx}{pins:List (Addr×Obj)}{σ:St}{H:Hp}{s:Shared}{a:Addr}(I:Inv X pins σ H s)(hx:X.ex=[])(e:s.heap.get? a=none):H a=none/\X.s₀.heap.get? a=none:=by
 refine⟨?_,I.gone hx e⟩
 cases q:H a with
 |none=>rfl
 |some o=>
  obtain⟨ob,z⟩:=(I.hok a o q).at
  rw[e] at z;cases z
section
variable{X:Cx}{E:XK}{x:Str}{C:Addr}{e:Expr}{es:List Expr}{t:TA}{np cpos pos:Pos}
theorem aeV(hM:aeQ X E)(c:Xc X.K X.mg x C)(ha:PA X (e::es) t)(hex:X.ex=[]:=by rfl)(hc:X.calm=true:=by rfl)(hg:Gl X x:=by rfl)(hdb:(x==("__debug__":Str))=false:=by decide)
  (he:starEach (e::es) X.env=(false,eval e X.env)::starEach es X.env:=by rfl) (hpl:(backTo cpos (starEach es X.env)).any (·.1)=false:=by rfl):
  PS X (.Raise (some (.Call (.Name x np) (e::es) [] cpos)) none pos) (ac4 C E t):=by
 intro pins s σ H D I h
 obtain⟨tl,N,_,_,_,_,_,_,_,_,_,_,_,_,_,_,mN,hC,hN,no,T⟩:=(c.own I.ok.mod X.prog).obj
 have pl:(backTo cpos (starEach (e::es) X.env)).any (·.1)=false:=by
  rw[he]
  exact hpl
 refine' wpAny_Raise_call_subT (N:=N) (bm:=tl) (mN:=mN) PySem.F.excBase_ValueError (T.hasType (by decide)) (I.ok.hd hc) pl no (aaM I hg c.m ⟨rfl,?main⟩ hdb)
 case main=>
  have hw:=ha cpos pins s σ H _ I h
  rw[he] at hw ⊢
  exact Calls.evalArgs_plain (thn hw fun us s2 ⟨vs,H2,I2,r,hz,q⟩=>⟨rfl,by rw[←r.length];exact hz,I2.bk _ _ hC,hN.keeps I2.bk,T.keeps I2.bk,fun h' a mk=>by
   obtain⟨t0,there,_,_⟩:=mk.there
   obtain⟨Ha,ga⟩:=I2.newX hex mk.new
   exact hM pins σ H2 {s2 with heap:=h'} a C none true _ _ (I2.kept (t':=s2.toks) mk.keeps) Ha ga there rfl rfl ⟨rfl,rfl,_,rfl,fun _=>rfl⟩ q⟩)
end
section
variable{P:Program}{w:World}{K:PySem.W.Frag}{mg:Str->Option Value}{base:Heap}{N:List Str}{qual:Str}{scope:Scope}{f:Addr}{cd:Value}{A:Around}{outer:List Env}{s0:Shared}{H0:Hp}{E:XK}
theorem abF:aeQ (aaR (CX1 P w) P w K mg base N qual scope f cd A outer s0 H0 E) E:=fun _ _ _ _ _ _ _ _ _ _ I h1 h2 h3 h4 h5 h6 q=>aiF I h1 h2 h3 h4 h5 h6 q
end
structure Df1(P:Program)(w:World)(K:PySem.W.Frag)(mg:Str->Option Value)(base:Heap)(x:Str)(k:Nat)(ps:List Str)(sp:Sp):Prop where
 ex:∃(f:Addr) (fd:FuncData),FnOk P w K mg base (CX1 P w) k f fd ps sp/\Binds K fd ps []/\mg x=some (.ref f)/\PySem.W.keepIn K (.ref f)=true
section
variable{P:Program}{w:World}{K:PySem.W.Frag}{mg:Str->Option Value}{base:Heap}{x:Str}{st:Stmt}{ps N:List Str}{k:Nat}{sp:Sp}
theorem Fn.dfs1(F:Fn K mg x st ps)(S':FnScope N ps (aaB st))(len:∀vs H Q E,sp vs H Q E->vs.length=ps.length)
  (hbody:∀(f:Addr) (cdv:Value) (A:Around) (outer:List Env) (s:Shared) (H:Hp) (vs:List V) (Q:VK) (E:XK),Room k (A.deeper (envOfC x (aaB st) s.heap.objs.size f cdv))->sp vs H Q E->
   ∃t,Ss (aaR (CX1 P w) P w K mg base N x (aaB st) f cdv A outer s H E) (aaH st) t/\t {nx:=fun _ H'=>Q .non H',rt:=Q} (aaJ N vs) H):Df1 P w K mg base x (k+1) ps sp:=by
 obtain⟨f,fd,F1,hb,hm⟩:=F.ex
 have kp:=F1.kp
 obtain⟨oc,od,kV,doc,pm,an,cdv,ct,osl,rfl,lk,hcd⟩:=F1.ex
 refine⟨⟨f,_,agJ lk hcd S' len fun A outer s H vs Q E hr hsp=>?_,hb,hm,kp⟩⟩
 obtain⟨t,h,q⟩:=hbody f cdv A outer s H vs Q E hr hsp
 exact⟨t,h.h,q⟩
end
def XP(X:Cx)(pins:List (Addr×Obj))(σ:St)(E:XK)(e:Value)(s':Shared):Prop:=∃s1 H1,Inv X pins σ H1 s1/\CX1 X.prog X.w X.stack H1 s1 E e s'
abbrev TX:=St->Hp->VK->XK->Prop
structure Px(X:Cx)(e:Expr)(t:TX):Prop where
 h:∀(pins:List (Addr×Obj)) (s:Shared) (σ:St) (H:Hp) (Q:VK) (E:XK),Inv X pins σ H s->t σ H Q E->wpAny (model X.prog X.w) X.A (eval e X.env) (EP X pins σ Q) (XP X pins σ E) s
abbrev TB:=Ends->St->Hp->XK->Prop
structure Pb(X:Cx)(body:List Stmt)(t:TB):Prop where
 h:∀(pins:List (Addr×Obj)) (s:Shared) (σ:St) (H:Hp) (D:Ends) (E:XK),Inv X pins σ H s->t D σ H E->wpAny (model X.prog X.w) X.A (execs body X.env) (SP X pins D) (XP X pins σ E) s
def ajB(sp:Sp)(t:TA):TX:=fun σ H Q E=>t σ H fun vs H1=>sp vs H1 Q E
section
variable{X:Cx}{k k':Nat}{ps:List Str}{sp:Sp}{x:Str}{e:Expr}{es:List Expr}{tA:TA}{p pos:Pos}{t:TX}
theorem xD(D:Df1 X.prog X.w X.K X.mg X.base x k ps sp)(hr:Room k' X.A)(ha:As X.nox (e::es) tA)(hk:k<=k':=by decide)(hg:Gl X x:=by rfl)(hdb:(x==("__debug__":Str))=false:=by decide)
  (he:starEach (e::es) X.env=(false,eval e X.env)::starEach es X.env:=by rfl) (hpl:(backTo pos (starEach es X.env)).any (·.1)=false:=by rfl):Px X (.Call (.Name x p) (e::es) [] pos) (ajB sp tA):=by
 obtain⟨f,fd,F,hb,hm,kp⟩:=D.ex
 refine⟨fun pins s σ H Q E I h=>?_⟩
 refine wpAny_Call_Name_kw (aaM I hg hm ?_ hdb)
 refine PySem.W.callWith_K (h₀:=X.base) I.ok.mod.kin kp (wpAny_mono (ha.h pos pins s σ H _ (I.wish _) h) (fun us s1 ⟨vs,H1,I1',r,q⟩=>?_) fun _ _ z=>False.elim z) he hpl
 have I1:Inv X pins σ H1 s1:=I1'.unwish
 refine⟨I1.kIn,?_⟩
 have hl:us.length=ps.length:=by rw[←r.length];exact F.len _ _ _ _ q
 have hbd:=hb s1 us I1.kIn (by rw[List.append_nil];exact hl)
 rw[List.append_nil] at hbd
 refine wpAny_call (codeAny_mono (F.run X.A X.stack s1 H1 ⟨us,[]⟩ us vs Q E (hr.mono hk) I1.env0 hbd r q) fun rr s' hq=>?_)
 cases rr with
 |error e=>exact⟨s1,H1,I1,hq⟩
 |ok fl=>
  cases fl with
  |ret u=>exact I1.after hq
  |next=>exact False.elim hq
  |brk=>exact False.elim hq
  |cont=>exact False.elim hq
def bExp(t:TX):TB:=fun D σ H E=>t σ H (fun _ H'=>D.nx σ H') E
theorem bE(h:Px X e t)(hs:swapsWith e none pos.line X.env=pure false:=by rfl):Pb X [.Expr e pos] (bExp t):=by
 refine⟨fun pins s σ H D E I hw=>?_⟩
 refine wpAny_execs_cons (wpAny_mono (wpAny_Expr_any (thn (h.h pins s σ H _ E I hw) fun v s1 ⟨y,H1,I1,r1,q1⟩=>(show SP X pins D .next s1 from ⟨σ,H1,I1,q1⟩)) I.quiet hs) (fun f s1 q=>?_) fun _ _ z=>z)
 cases f with
 |next=>exact wpAny_execs_nil q
 |ret v=>exact q
 |brk=>exact q
 |cont=>exact q
end
abbrev Cx.hnd(X:Cx)(a:Addr):Cx:={X with A:=X.A.mark (some (.ref a)),calm:=false,xe:=fun _ _=>False}
section
variable{X:Cx}{pins:List (Addr×Obj)}{σ:St}{H:Hp}{s:Shared}
theorem Inv.hnd(I:Inv X pins σ H s)(a:Addr):Inv (X.hnd a) pins σ H s:=
 ⟨⟨I.ok.mod,I.ok.kind,I.ok.glob,I.ok.blt,I.ok.above,I.ok.inj,I.ok.has,I.ok.cab,(fun z=>nomatch z),I.ok.frames,I.ok.stk,I.ok.exf,I.ok.bs,I.ok.bsz,I.ok.noex,I.ok.exfs,I.ok.funs,I.ok.frf⟩,I.os,I.bare,I.base,I.loc,I.cell,I.free,I.freeC,I.pin,I.hok,I.len⟩
theorem Inv.unhnd{a:Addr}(I:Inv (X.hnd a) pins σ H s)(ok:X.Ok):Inv X pins σ H s:=⟨ok,I.os,I.bare,I.base,I.loc,I.cell,I.free,I.freeC,I.pin,I.hok,I.len⟩
theorem Inv.lost{h':Heap}{m':Str->Option Value}{t:Nat}(I:Inv X pins σ H s)(hn:h'.Ns X.env.locals m')(hs:Heap.SameBut X.env.locals s.heap h'):Inv X pins (List.replicate X.N.length none) H {s with heap:=h',toks:=t}:=by
 obtain⟨m,⟨oL,_,_,hoL,_⟩,_⟩:=id I.loc
 have nl:∀b o,X.s₀.heap.get? b=some o->b≠X.env.locals:=fun b o e=>Nat.ne_of_lt (Nat.lt_of_lt_of_le (Heap.lt_size e) I.ok.above)
 refine⟨I.ok,I.os,I.bare,⟨fun b o e n hb hx=>(hs.2 b (nl b o e)).trans (I.base.keep b o e n hb hx),fun b o e n hb hx=>?_,I.base.free,fun b o e hx=>?_,I.base.tups,I.base.frzs,I.base.tbls⟩,⟨m',hn,fun j y v' e1 e2 e3=>?_⟩,fun y c e=>?_,I.free,I.freeC,fun p hp=>?_,fun b ob e=>?_,by rw[List.length_replicate]⟩
 ·obtain⟨sl,e1⟩:=I.base.slot b o e n hb hx
  exact⟨sl,(hs.2 b (nl b o e)).trans e1⟩
 ·obtain⟨o',e1⟩:=I.base.there b o e hx
  exact⟨o',(hs.2 b (nl b o e)).trans e1⟩
 ·rw[List.getElem?_replicate] at e2
  split at e2
  ·cases e2
  ·cases e2
 ·obtain⟨w',z⟩:=I.cell y c e
  exact⟨w',z.sameBut hs (I.cne y c e)⟩
 ·obtain⟨e,n,ne,nf,d⟩:=I.pin p hp
  exact⟨(hs.2 p.1 ne).trans e,n,ne,nf,d⟩
 ·refine (I.hok b ob e).stay (fun c w' hc q=>(hs.2 c ?_).trans q) (fun _ q=>q) fun _ _ q=>q
  rintro rfl
  rcases hc with rfl | hc
  ·rw[I.free] at e;cases e
  ·rw[I.free] at hc;cases hc
end
def xo(a C:Addr)(d:Option Addr)(b:Bool):HO:=.ext fun h=>∃o,h.get? a=some o/\Ex C d b o
theorem afF{P:Program}{w:World}{fs:List Addr}{H0 H:Hp}{g h:Heap}{a C:Addr}{d:Option Addr}{b0:Bool}(u:Un fs [] H0 H g h)(hok:HOk P w H h)(f:Fly g h H a C d b0):Un fs [] H0 (upd H a (xo a C d b0)) g h/\HOk P w (upd H a (xo a C d b0)) h:=by
 obtain⟨Ha,ga,oe,vs,T,oT,ts,⟨he,hd,_,hx⟩,_⟩:=f
 have ne:∀b o,H b=some o->b≠a:=fun b o e z=>by rw[z,Ha] at e;cases e
 have same:∀b o,H b=some o->upd H a (xo a C d b0) b=some o:=fun b o e=>by rw[aaD (ne b o e)];exact e
 refine⟨⟨u.keep,u.slot,fun b o e n hx=>?_,u.there,fun b xs e=>same _ _ (u.tups b xs e),fun b o v e=>same _ _ (u.frzs b o v e),fun b ps e=>?_⟩,fun b o e=>?_⟩
 ·rw[aaD (fun z=>by rw[z,ga] at e;cases e)]
  exact u.free b o e n hx
 ·obtain⟨more,z⟩:=u.tbls b ps e
  exact⟨more,same _ _ z⟩
 ·by_cases hb:b=a
  ·subst hb
   rw[aaA] at e
   cases e
   exact⟨⟨oe,he,hx⟩,⟨oe,he⟩,fun h1 h2 ⟨o,e,r⟩ k=>⟨o,k o e,r⟩⟩
  ·rw[aaD hb] at e
   exact (hok b o e).stay (fun _ _ _ q=>q) (fun c q=>same _ _ q) fun c xs q=>same _ _ q
theorem acY{M:Model}{A:Around}{E:Value->Shared->Prop}{s:Shared}{K:PySem.W.Frag}{C CF a:Addr}{oe:Obj}{b:Bool}{Q:Bool->Shared->Prop}(X:K.In s.heap)(e:PySem.W.kitCls K (.ref C) (.ref CF)=some b)
  (eB:PySem.W.subIn K (.ref CF) (.type "BaseException")=some true) (he:s.heap.get? a=some oe) (hc:oe.cls=.ref C) (hq:Q b s):wpAny M A (excMatches (.ref a) (.ref CF)) Q E s:=by
 obtain⟨h,g,d,t,os⟩:=s
 obtain⟨hty,his,hsub⟩:=PySem.W.kit_cls (M:=M) X e
 have hB:=PySem.W.looks_subIn (M:=M) X eB
 have L0:PySem.W.Looks M h (typeOf (.ref a)) (.ref C):=hc▸(PySem.W.Looks.ld he).andThen .now
 have f:=tc_notTuple
 unfold excMatches isExcClass isInstance
 repeat lk
 cases b<;>repeat lk
 all_goals exact hq
section
variable{X:Cx}{body suite:List Stmt}{b0:Stmt}{tb:TB}{th:Addr->TS}{cx n:Str}{np hpos pos:Pos}{CF:Addr}
end
section
variable{X:Cx}{E:XK}{x:Str}{C:Addr}{e:Expr}{es:List Expr}{tA:TA}{np cpos pos p:Pos}{k k':Nat}{ps:List Str}{sp:Sp}
theorem sRz(hM:aeQ X E)(c:Xc X.K X.mg x C)(ha:As X (e::es) tA)(hex:X.ex=[]:=by rfl)(hc:X.calm=true:=by rfl)(hg:Gl X x:=by rfl)(hdb:(x==("__debug__":Str))=false:=by decide)
  (he:starEach (e::es) X.env=(false,eval e X.env)::starEach es X.env:=by rfl) (hpl:(backTo cpos (starEach es X.env)).any (·.1)=false:=by rfl):
  S X (.Raise (some (.Call (.Name x np) (e::es) [] cpos)) none pos) (ac4 C E tA):=⟨aeV hM c ha.h hex hc hg hdb he hpl⟩
end
structure XF(K:PySem.W.Frag)(C:Addr):Prop where
 cls:(PySem.W.clsIn K C).isSome=true
 ga:PySem.W.findIn K (.ref C) "__getattribute__"=some (some (.builtin "BaseException.__getattribute__"))
 nga:PySem.W.findIn K (.ref C) "__getattr__"=some none
 ca:PySem.W.findIn K (.ref C) "__class__"=some (some (.builtin "object.__class__"))
 cg:PySem.W.specialIn K (.builtin "object.__class__") "__get__"=some (some (.builtin "getset_descriptor.__get__"))
 ct:PySem.W.takesIn K (.builtin "object.__class__")=some true
 mo:PySem.W.mroIn K C (.type "object")=some true
 mb:PySem.W.mroIn K C (.type "BaseException")=some true
def AtC(a C:Addr)(h:Heap):Prop:=∃o vs,h.get? a=some o/\o.cls=.ref C/\o.data=.fields vs
theorem AtC.of{a C:Addr}{d:Option Addr}{b:Bool}{h:Heap}(x:∃o,h.get? a=some o/\Ex C d b o):AtC a C h:=by
 obtain⟨o,e,h1,_,vs,h2,_⟩:=x
 exact⟨o,vs,e,h1,h2⟩
theorem AtC.ty{M:Model}{a C:Addr}{h:Heap}(x:AtC a C h):PySem.W.Looks M h (typeOf (.ref a)) (.ref C):=by
 obtain⟨o,vs,h1,h2,_⟩:=x
 exact h2▸(PySem.W.Looks.ld h1).andThen .now
section
open PySem.W
variable{prog:Program}{w:World}{A:Around}{E:Value->Shared->Prop}{s:Shared}{K:PySem.W.Frag}{a C:Addr}
open Builtin Builtin.ObjectAttr Builtin.Getset_descriptor in
theorem ab0{tp:Value}{R:Result->Shared->Prop}(F:XF K C)(X:K.In s.heap)(I:AtC a C s.heap)(h:R (.ok (.ret (.ref C))) s):
  codeAny (model prog w) A (.call (.builtin "getset_descriptor.__get__") ⟨[.builtin "object.__class__",.ref a,tp],[]⟩) R s:=by
 obtain⟨hh,g,dr,t,os⟩:=s
 have ofC:=I.ty (M:=model prog w)
 have obj:=PySem.W.looks_mroIn (M:=model prog w) X F.mo
 have gs:=KF.slot_gs
 refine codeAny_call_builtin gs.plain KF.entry_gs (gs.check _ _ _ _ _ _ _ _ KF.type_class (KF.args_gs _ _ _) ?_)
 simp only[Builtin.«getset_descriptor.__get__»,descrGet,dga_obj]
 refine wpAny_bind (wpAny_pure ?_)
 simp only[descrGetter,descrCheckInstance,descrNameAndClass,isInstance,KF.owner_class]
 repeat lk
 constructor
 ·exact Code.quiet_builtin _ (by decide +kernel)
 ·apply codeAny_builtin KF.entry_class
  simp only[Builtin.«object.__class__»,shownTypeOf]
  repeat lk
  exact h
theorem aa3{M:Model}{nameV:Value}{Q:Unit->Shared->Prop}(F:XF K C)(X:K.In s.heap)(I:AtC a C s.heap)(hq:Q () s):wpAny M A (checkBuiltinCall "BaseException.__getattribute__" ⟨[.ref a,nameV],[]⟩) Q E s:=by
 obtain⟨hh,g,d,t,os⟩:=s
 have L0:=I.ty (M:=M)
 have L1:=PySem.W.looks_mroIn (M:=M) X F.mb
 have hk:builtinKind "BaseException.__getattribute__"=some .slot:=by decide +kernel
 have hsplit:splitId "BaseException.__getattribute__"=some ("BaseException","__getattribute__"):=by decide +kernel
 have ha:=PySem.F.args_bexc_ga (.ref a) nameV
 simp only[checkBuiltinCall,hk,hsplit]
 refine wpAny_bind ?_
 unfold isInstance
 repeat (first | lk | wp_step)
 exact hq
open Builtin Builtin.ObjectAttr in
theorem aeM{M:Model}{h:Heap}(F:XF K C)(X:K.In h):Looks M h (Builtin.ObjectAttr.find (.ref a) (.ref C) "__class__") (.bind (.builtin "getset_descriptor.__get__") (.builtin "object.__class__")):=by
 have L1:=PySem.W.looks_findIn (M:=M) X F.ca
 have L2:Looks M h (getOf (some (.builtin "object.__class__"))) (some (.builtin "getset_descriptor.__get__")):=PySem.W.looks_specialIn X F.cg
 have L3:=PySem.W.looks_takesIn (M:=M) X F.ct
 intro A Q E s k q
 unfold Builtin.ObjectAttr.find
 refine wpAny_bind (L1 A _ E s k ?_)
 refine wpAny_bind (L2 A _ E s k ?_)
 refine wpAny_bind (wpAny_bind (L3 A _ E s k ?_))
 simp only[if_true]
 refine wpAny_pure ?_
 exact wpAny_bind (wpAny_rule (wpAny_pure q))
theorem abV{Q:Option Value->Shared->Prop}(F:XF K C)(X:K.In s.heap)(I:AtC a C s.heap)(h:Q (some (.ref C)) {s with toks:=s.toks+1}):wpAny (model prog w) A (getAttr? (.ref a) "__class__") Q E s:=by
 obtain⟨hh,g,d,t,os⟩:=s
 have L0:=I.ty (M:=model prog w)
 have L1:=PySem.W.looks_findIn (M:=model prog w) X F.ga
 have L2:=PySem.W.looks_findIn (M:=model prog w) X F.nga
 have f3:=PySem.F.attr_ValueError.ga.bind (.ref a)
 unfold getAttr? getAttrBy? getAttrBy
 refine wpAny_bind (wpAny_mkText (wpAny_bind (wpAny_attempt (wpAny_holding ?_))))
 refine wpAny_bind (L0.at ?_)
 refine wpAny_bind (L1.at ?_)
 show wpAny _ _ (getAttrByItsOwn _ _ _ _ _ _) _ _ _
 unfold getAttrByItsOwn
 repeat (first | assumption | with_reducible refine Looks.at (by assumption) ?_ | wp_step)
 refine codeAny_call_builtin PySem.F.attr_ValueError.ga.plain PySem.F.entry_bexc_ga (aa3 F X I ?_)
 have L4:=aeM (a:=a) (M:=model prog w) F X
 unfold Builtin.«object.__getattribute__»
 repeat (first | assumption | with_reducible refine Looks.at (by assumption) ?_ | wp_step)
 refine ab0 F X I ?_
 exact wpAny_pure (wpAny_of_eq (PySem.W.handedOut_of rfl) (wpAny_pure h))
theorem acZ(F:XF K C):KitX K (.ref a) (.ref C) (AtC a C) where
 ty:=fun _ _ _ I=>I.ty
 it:=fun _ _ X _=>by
  obtain⟨cdD,hcD⟩:=Option.isSome_iff_exists.mp F.cls
  unfold clsIn at hcD
  split at hcD
  ·next ho=>
   intro A' Q' E' s' k q
   unfold isType loadHead
   exact wpAny_bind (wpAny_loadPart (k _ _ (X _ _ ho)) (wpAny_pure q))
  ·cases hcD
 ne:=fun h tp dd its n sl X htp=>by
  obtain⟨cdD,hcD⟩:=Option.isSome_iff_exists.mp F.cls
  refine Bool.eq_false_iff.mpr fun q=>?_
  obtain rfl:C=tp:=Value.ref.inj (beq_iff_eq.mp q)
  unfold clsIn at hcD
  split at hcD
  ·next ho=>
   have z:=(X _ _ ho).symm.trans htp
   cases z
  ·cases hcD
 ca:=fun X I k=>abV F X I k
end
theorem cXi{X:Cx}:Cl1 X (.builtin "isinstance") (fun xs H Q=>∃(a C C':Addr) (d:Option Addr) (b0 b:Bool),xs=[.ref a,.ref C']/\H a=some (xo a C d b0)/\XF X.K C/\PySem.W.kitOne X.K (.ref C) (.ref C')=some b/\Q (.bl b) H):=by
 refine⟨fun pins s σ H xs us Q I r h=>?_⟩
 obtain⟨a,C,C',d,b0,b,rfl,ha,F,e,q⟩:=h
 obtain⟨u,w',rfl,r1,r2⟩:=acQ r
 cases r1
 cases r2
 exact PySem.W.kia_one (acZ F) I.kIn (AtC.of (I.hok a _ ha).1) e (fun z=>nomatch z) fun tk=>⟨.bl b,H,I.tok _,rfl,q⟩
theorem cXy{X:Cx}:Cl1 X (.builtin "isinstance") (fun xs H Q=>∃(a C:Addr) (T:String) (d:Option Addr) (b0 b:Bool),xs=[.ref a,.ty T]/\H a=some (xo a C d b0)/\XF X.K C/\PySem.W.kitOne X.K (.ref C) (.type T)=some b/\Q (.bl b) H):=by
 refine⟨fun pins s σ H xs us Q I r h=>?_⟩
 obtain⟨a,C,T,d,b0,b,rfl,ha,F,e,q⟩:=h
 obtain⟨u,w',rfl,r1,r2⟩:=acQ r
 cases r1
 cases r2
 exact PySem.W.kia_one (acZ F) I.kIn (AtC.of (I.hok a _ ha).1) e (fun z=>nomatch z) fun tk=>⟨.bl b,H,I.tok _,rfl,q⟩
section
variable{X:Cx}{body suite:List Stmt}{b0:Stmt}{tb:TB}{th:Addr->TS}{cx:Str}{np hpos pos:Pos}{CF:Addr}
end
theorem ab3:entryFor table "proto.unchain"=some Builtin.«proto.unchain»:=entryFor_of_tree (by kernel_rfl)
theorem ab6:plainId "proto.unchain"=true:=by decide +kernel
def PX(e C:Addr)(d:Option Addr)(h:Heap):Prop:=∃(vs:Array Value) (sl:Array (Option Value)),h.get? e=some ⟨.ref C,d,.fields vs,sl⟩/\vs[1]? =some .none/\4<vs.size
section
variable{prog:Program}{w:World}{A:Around}{E:Value->Shared->Prop}{s:Shared}{e C a:Addr}{d:Option Addr}
theorem aeX{v:Value}{oa:Obj}{va:Array Value}{Q:Value->Shared->Prop}(ho:s.heap.get? a=some oa)(hd:oa.data=.fields va)(h2:va[2]? =some .none)(q:Q .none s):
  wpAny (model prog w) A (runValue (.builtin "proto.unchain" ⟨[v,.ref a,.ref a,.bool false],[]⟩)) Q E s:=by
 refine wpAny_runValue (codeAny_builtin ab3 ?_)
 rw[Around.under_plainId ab6 _]
 unfold Builtin.«proto.unchain»
 refine wpAny_bind (wpAny_field ho hd h2 ?_)
 rw[if_pos (by decide)]
 exact wpAny_pure q
end
def IsXC(C:Addr)(h:Heap):Prop:=∃nm q N bs bm hdct sn sub ab col dd k0 k1 k2 k3 k5 newId,h.get? C=some (excClassObj nm q C N bs bm hdct sn sub ab col dd k0 k1 k2 k3 k5 newId)/\bm.contains (.type "BaseException")=true
section
variable{prog:Program}{w:World}{A:Around}{E:Value->Shared->Prop}{s:Shared}{env:Env}{e C a:Addr}{d:Option Addr}
end
section
variable{P:Program}{w:World}{K:PySem.W.Frag}{mg:Str->Option Value}{base:Heap}{N:List Str}{qual:Str}{scope:Scope}{f:Addr}{cd:Value}{A:Around}{outer:List Env}{s0:Shared}{H0:Hp}{E:XK}
end
section
variable{X:Cx}{E:XK}{x:Str}{C a:Addr}{e:Expr}{es:List Expr}{t:TA}{np cpos pos p2:Pos}{j:Nat}
end
theorem abG:bootBuiltins "ValueError"=some (.type "ValueError"):=by decide +kernel
section
variable{X:Cx}{pos:Pos}{o i:Expr}{to ti:TE}
end
def Kd.wh:Kd->Bool
 |.int=>true
 |_=>false
section
variable{X:Cx}
end
section
variable{js:List Nat}{σ:St}{tt:TT}{te:TE}{Q:VK}{H1:Hp}
end
def abY(l:List Nat)(lo hi:Option Int):List Nat:=(l.drop (HT.sIx l.length 0 lo)).take (HT.sIx l.length l.length hi-HT.sIx l.length 0 lo)
theorem af5(v:Option Int)(n d:Nat):(match v with | none=>(d:Int) | some i=>max 0 (min (if i<0 then i+(n:Int) else i) (n:Int)))=((HT.sIx n d v:Nat):Int):=by
 cases v with
 |none=>rfl
 |some i=>
  show max 0 (min (if i<0 then i+(n:Int) else i) (n:Int))=(((if i<0 then (i+(n:Int)).toNat else min i.toNat n):Nat):Int)
  by_cases h:i<0
  ·rw[if_pos h,if_pos h];omega
  ·rw[if_neg h,if_neg h];omega
theorem aeW(lo hi:Option Int)(n:Nat):Builtin.Str.strSliceIndices lo hi 1 n=sliceRange ((HT.sIx n 0 lo:Nat):Int) ((HT.sIx n n hi:Nat):Int) 1:=by
 unfold Builtin.Str.strSliceIndices
 simp only[show ((1:Int)>0)=True from by simp,if_true]
 rw[←af5 lo n 0,←af5 hi n n]
 cases lo<;>cases hi<;>rfl
theorem acV(a b:Nat):sliceRange (a:Int) (b:Int) 1=(List.range (b-a)).map fun k=>a+k:=by
 rcases Nat.lt_or_ge a b with c | c
 ·have up:(a:Int)<b:=by omega
  have many:(((b:Int)-a+1-1) / 1).toNat=b-a:=by rw[Int.ediv_one];omega
  have e:∀k:Nat,((a:Int)+1*(k:Int)).toNat=a+k:=fun k=>by omega
  simp only[sliceRange,gt_iff_lt,Int.one_pos,if_true,up,many,e]
 ·have no:¬((a:Int)<b):=by omega
  have z:b-a=0:=by omega
  simp only[sliceRange,gt_iff_lt,Int.one_pos,if_true,no,if_false,z,List.range_zero,List.map_nil]
  rfl
theorem ad3(l:List Nat)(n a:Nat):((List.range n).map fun k=>a+k).filterMap (fun i=>(Tx l).cps[i]?)=(l.drop a).take n:=by
 rw[List.filterMap_map]
 induction n with
 |zero=>rw[List.take_zero];rfl
 |succ n ih=>
  have one:[n].filterMap ((fun i=>(Tx l).cps[i]?) ∘ fun k=>a+k)=(l[a+n]?).toList:=by
   show List.filterMap _ [n]=_
   cases e:l[a+n]? <;>simp[e]
  rw[List.range_succ,List.filterMap_append,ih,one,List.take_add_one,List.getElem?_drop]
theorem ahP(l:List Nat)(lo hi:Option Int):(Builtin.Str.strSliceIndices lo hi 1 l.length).filterMap (fun i=>(Tx l).cps[i]?)=abY l lo hi:=by
 rw[aeW,acV,ad3]
 rfl
theorem ad1(l:List Nat)(lo hi:Option Int)(h:(Builtin.Str.strSliceIndices lo hi 1 l.length).length=l.length):abY l lo hi=l:=by
 rw[aeW,acV,List.length_map,List.length_range] at h
 have h1:=HT.sIx_le l.length l.length (Nat.le_refl _) hi
 have e1:HT.sIx l.length 0 lo=0∨l.length=0:=by omega
 unfold abY
 rcases e1 with e | e
 ·rw[e]
  have:HT.sIx l.length l.length hi=l.length:=by omega
  rw[this]
  simp
 ·have:l=[]:=List.eq_nil_of_length_eq_zero e
  subst this
  simp
theorem acS(l:List Nat)(lo hi:Option Int):(abY l lo hi).length<=l.length:=by
 unfold abY
 rw[List.length_take,List.length_drop]
 omega
section
variable{X:Cx}
def rSlX:V->Option Int->Option Int->Hp->VK->Prop:=fun x lo hi H Q=>∃l:List Nat,x=.str (Tx l)/\l.length<=sizeLine/\Q (.str (Tx (abY l lo hi))) H
theorem slX:Sls X rSlX:=by
 refine⟨fun pins s σ H x v vl vu lo hi sl Q I rx hs pl pu h=>?_⟩
 obtain⟨l,rfl,hz,q⟩:=h
 obtain⟨t,rfl⟩:=rx
 refine⟨"str",_,PySem.F.slot_str_getitem.lookup,typeIs_str _ _ _,?_⟩
 obtain⟨o,ho,hc,hd⟩:=hs
 have fin:∀(a b:Option (Int×Tok)),o.data=.fields #[partValue a,partValue b,.none]->a.map (·.1)=lo->b.map (·.1)=hi->wpAny (model X.prog X.w) X.A (getItem (.str (Tx l) t) (.ref sl)) (EP X pins σ Q) X.xe s:=fun a b hd ea eb=>by
  refine wpAny_getItem_str_slice (l:=a) (u:=b) (st:=none) ⟨o,ho,hc,hd⟩ rfl ?_
  have ep:slicePicked (Tx l) a b none=Builtin.Str.strSliceIndices lo hi 1 l.length:=by unfold slicePicked;rw[ea,eb,adA];rfl
  unfold sliceMade
  rw[ep]
  split
  ·next hw=>
   have hw2:(Builtin.Str.strSliceIndices lo hi 1 l.length).length=l.length:=by
    have:=(Bool.and_eq_true_iff.mp hw).2
    rw[adA] at this
    exact beq_iff_eq.mp this
   show EP X pins σ Q _ s
   rw[ad1 l lo hi hw2] at q
   exact⟨.str (Tx l),H,I,⟨t,rfl⟩,q⟩
  ·rw[ahP]
   exact⟨by rw[adA];exact Nat.le_trans (acS l lo hi) hz,⟨.str (Tx (abY l lo hi)),H,I.tok _,⟨_,rfl⟩,q⟩⟩
 cases pl with
 |none=>
  cases pu with
  |none=>exact fin none none hd rfl rfl
  |int j tj=>exact fin none (some (j,tj)) hd rfl rfl
 |int i ti=>
  cases pu with
  |none=>exact fin (some (i,ti)) none hd rfl rfl
  |int j tj=>exact fin (some (i,ti)) (some (j,tj)) hd rfl rfl
end
section
variable{prog:Program}{w:World}{A:Around}{E:Value->Shared->Prop}{s:Shared}{I:Addr}{fp wr:List Addr}{G:Array GenState->Array GenState->Prop}{n:Nat}{P:Nat->Value->Prop}{St:Nat->Shared->Prop}
end
section
variable{X:Cx}{o e:Expr}{to te:TE}{p rpos apos cpos:Pos}
end
section
variable{X:Cx}
end
section
variable{κ:Type}[DecidableEq κ]
def ae6(kvs:List (κ×V))(k:κ):Option V:=(kvs.find? fun kv=>decide (kv.1=k)).map (·.2)
def afJ(kvs:List (κ×V))(k:κ)(v:V):List (κ×V):=
 if (kvs.any fun kv=>decide (kv.1=k))=true then kvs.map (fun kv=>if kv.1=k then (kv.1,v) else kv) else kvs++[(k,v)]
theorem KV.any{kvs:List (κ×V)}{vs:List (κ×Value)}(r:KV kvs vs)(k:κ):(kvs.any fun kv=>decide (kv.1=k))=vs.any fun kv=>decide (kv.1=k):=by
 unfold KV at r
 induction r with
 |nil=>rfl
 |cons h t ih=>rw[List.any_cons,List.any_cons,ih,h.1]
theorem KV.length{kvs:List (κ×V)}{vs:List (κ×Value)}(r:KV kvs vs):kvs.length=vs.length:=Paired.length r
end
section
variable{P:Program}{w:World}{H:Hp}{h:Heap}{a:Addr}
end
def DGet(H:Hp)(a:Addr)(y:V)(r:Option V):Prop:=
 (∃kvs k,Rd H a (.dK kvs)/\y=kV k/\r=ae6 kvs k)∨∃kvs k b,Rd H a (.dT kvs)/\y=.ref b/\H b=some (.tup (k.map kV))/\r=ae6 kvs k
def DPut(H:Hp)(a:Addr)(y v:V)(H':Hp):Prop:=
 (∃kvs k,H a=some (.dK kvs)/\y=kV k/\kvs.length<sizeLine/\H'=upd H a (.dK (afJ kvs k v)))∨
 ∃kvs k b,H a=some (.dT kvs)/\y=.ref b/\H b=some (.tup (k.map kV))/\kvs.length<sizeLine/\H'=upd H a (.dT (afJ kvs k v))
theorem DGet.k{H:Hp}{a:Addr}{kvs:List (Key×V)}{k:Key}(e:H a=some (.dK kvs)):DGet H a (kV k) (ae6 kvs k):=.inl ⟨kvs,k,.inl e,rfl,rfl⟩
theorem DGet.t{H:Hp}{a b:Addr}{kvs:List (List Key×V)}{k:List Key}(e:H a=some (.dT kvs))(eb:H b=some (.tup (k.map kV))):DGet H a (.ref b) (ae6 kvs k):=.inr ⟨kvs,k,b,.inl e,rfl,eb,rfl⟩
theorem DPut.k{H:Hp}{a:Addr}{kvs:List (Key×V)}{k:Key}{v:V}(e:H a=some (.dK kvs))(hl:kvs.length<sizeLine):DPut H a (kV k) v (upd H a (.dK (afJ kvs k v))):=.inl ⟨kvs,k,e,rfl,hl,rfl⟩
theorem DPut.t{H:Hp}{a b:Addr}{kvs:List (List Key×V)}{k:List Key}{v:V}(e:H a=some (.dT kvs))(eb:H b=some (.tup (k.map kV)))(hl:kvs.length<sizeLine):
  DPut H a (.ref b) v (upd H a (.dT (afJ kvs k v))):=.inr ⟨kvs,k,b,e,rfl,eb,hl,rfl⟩
section
variable{X:Cx}{pins:List (Addr×Obj)}{σ:St}{H:Hp}{s:Shared}{a:Addr}{y v:V}{u r:Value}{o:Option V}{A:Around}{E:Value->Shared->Prop}
end
section
variable{X:Cx}{pins:List (Addr×Obj)}{σ:St}{H:Hp}{s:Shared}{a:Addr}{kvs:List (Key×V)}{k:Key}{u:Value}{A:Around}{E:Value->Shared->Prop}
end
section
variable{X:Cx}{o i e value:Expr}{pos pos' tpos:Pos}{td ty tv:TE}
end
section
variable{X:Cx}{pos:Pos}
end
section
variable{X:Cx}{pins:List (Addr×Obj)}{σ:St}{H:Hp}{s:Shared}{a:Addr}{y d:V}{u r:Value}{o:Option V}{A:Around}{E:Value->Shared->Prop}
end
section
variable{X:Cx}{o e f:Expr}{apos cpos:Pos}{td ty tx:TE}
end
section
variable{X:Cx}{pins:List (Addr×Obj)}{σ:St}{H:Hp}{s:Shared}{a:Addr}{kvs:List (Key×V)}{A:Around}{E:Value->Shared->Prop}
end
section
variable{X:Cx}{pins:List (Addr×Obj)}{σ:St}{H:Hp}{s:Shared}{a:Addr}{y:V}{u:Value}{A:Around}{E:Value->Shared->Prop}
end
section
variable{X:Cx}{k:Nat}{o i kx vx:Expr}{td ty tk tv:TE}{pos:Pos}{keys:List (Option Expr)}{values:List Expr}{trs:List (TE×TE)}
end
section
variable{prog:Program}{w:World}{A:Around}{E:Value->Shared->Prop}{s:Shared}{a:Addr}{es:Array (Int×Value)}{ep:Nat}{t:SetTable}{z:Int}{tk:Tok}
end
section
variable{prog:Program}{w:World}{A:Around}{R:Result->Shared->Prop}{I:Addr}{fp wr:List Addr}{G:Array GenState->Array GenState->Prop}{n:Nat}{P:Nat->Value->Prop}{St:Nat->Shared->Prop}
end
section
variable{prog:Program}{w:World}{A:Around}{E:Value->Shared->Prop}{s:Shared}
end
section
variable{M:Model}{A:Around}{E:Value->Shared->Prop}{s:Shared}
end
section
variable{prog:Program}{w:World}{A:Around}{E:Value->Shared->Prop}{s:Shared}{a I:Addr}{es:Array (Int×Value)}{ep:Nat}{t:SetTable}
end
section
variable{prog:Program}{w:World}{A:Around}{E:Value->Shared->Prop}{s:Shared}{a I:Addr}{es:Array (Int×Value)}{ep:Nat}{t:SetTable}
end
section
variable{X:Cx}
end
section
variable{X:Cx}
end
section
variable{js:List Nat}{σ:St}{tt:TT}{te:TE}{Q:VK}{H1:Hp}
end
end L2
namespace KM
open PySem PySem.Spec PyProof.Rows L2
inductive Mk where
 |num (m:Int) | lst (b:Int) | nea (d:Int) | wrk | wkd (m:Int) | nth (w m:Int) | one (w:Int) | nil
 deriving DecidableEq
def wk(f:Int)(n:Nat):Bool:=decide (1<=(f+(1+(n:Int))-1)%7)&&decide ((f+(1+(n:Int))-1)%7<=5)
def ab(i:Int):Int:=if i<0 then -i else i
theorem rng{l:Int}(hl:28<=l/\l<=31):(-(2^62)<=(1:Int)/\(1:Int)<2^62/\ -(2^62)<=l+1/\l+1<2^62)/\(l+1-1).toNat=l.toNat/\(l+1-1).toNat<=sizeLine:=by
 obtain⟨h0,h1⟩:=hl
 refine⟨⟨by decide,by decide,by omega,by omega⟩,by omega,?_⟩
 rw[sizeLine_eq]
 omega
def fldN(w m:Int):List (Str×V):=ag4 "many" (.int m) (ag4 "weekday" (.int w) [])
def Mk.ok:Mk->Prop
 |.num m=>0<=m
 |.lst b=>0<=b/\b<=30
 |.nea d=>1<=d/\d<=31
 |.wrk=>True
 |.wkd m=>0<=m/\m<=127
 |.nth w m=>(0<=w/\w<=6)/\1<=m/\m<=5
 |.one w=>0<=w/\w<=6
 |.nil=>True
def Mk.wk:Mk->Bool
 |.wkd _ | .nth _ _ | .one _=>true
 |_=>false
def Mk.tup:Mk->List V
 |.num m=>[.str (Tx [112,108,97,105,110]),.int m,.int 0]
 |.wkd m=>[.str (Tx [112,108,97,105,110]),.int m,.int 0]
 |.lst b=>[.str (Tx [108,97,115,116]),.int b,.int 0]
 |.nea d=>[.str (Tx [110,101,97,114]),.int d,.int 0]
 |.wrk=>[.str (Tx [119,111,114,107]),.int 0,.int 0]
 |.nth w m=>[.str (Tx [110,116,104]),.int w,.int m]
 |.one w=>[.str (Tx [108,97,115,116,111,110,101]),.int w,.int 0]
 |.nil=>[]
def Mk.sp:Mk->Bool
 |.nil=>false
 |_=>true
structure Cs where
 (nu la ne lw we nt lo ma:Addr)
def MkAt(c:Cs)(H:Hp)(x:Addr):Mk->Prop
 |.num m=>∃dx,H x=some (.ins c.nu dx [("mask",.int m)])
 |.lst b=>∃dx,H x=some (.ins c.la dx [("back",.int b)])
 |.nea d=>∃dx,H x=some (.ins c.ne dx [("day",.int d)])
 |.wrk=>∃dx,H x=some (.ins c.lw dx [])
 |.wkd m=>∃dx,H x=some (.ins c.we dx [("mask",.int m)])
 |.nth w m=>∃dx,H x=some (.ins c.nt dx (fldN w m))
 |.one w=>∃dx,H x=some (.ins c.lo dx [("weekday",.int w)])
 |.nil=>∃dx,H x=some (.ins c.ma dx [])
theorem MkAt.keep{c:Cs}{H H':Hp}(s:Keep H H'){x:Addr}{k:Mk}(h:MkAt c H x k):MkAt c H' x k:=by
 cases k<;>(obtain⟨dx,h⟩:=h;exact⟨dx,s.ins h⟩)
def PrAt(H:Hp)(p:Addr)(k:Mk):Prop:=k.ok/\k.sp=true/\∃u,H p=some (.tup [.ref u,.bl k.wk])/\H u=some (.tup k.tup)
theorem PrAt.keep{H H':Hp}(s:Keep H H'){p:Addr}{k:Mk}(h:PrAt H p k):PrAt H' p k:=by
 obtain⟨o,e,u,h1,h2⟩:=h
 exact⟨o,e,u,s.tup h1,s.tup h2⟩
abbrev Ft(R:Addr->Mk->Prop):List Addr->List Mk->Prop:=Paired R
theorem Ft.keepM{c:Cs}{H H':Hp}(s:Keep H H'){ps:List Addr}{ks:List Mk}(h:Ft (MkAt c H) ps ks):Ft (MkAt c H') ps ks:=Paired.imp' (fun _ _ z=>z.keep s) h
theorem Ft.all{H:Hp}:∀{ps:List Addr} {ks:List Mk},Ft (PrAt H) ps ks->∀k∈ks,k.ok
 |_,_,.nil,k,hk=>nomatch hk
 |_,_,.cons r t,k,hk=>by
  rcases List.mem_cons.mp hk with rfl | hk
  ·exact r.1
  ·exact Ft.all t k hk
end KM
namespace L2
open PySem
theorem ahL{us:List Value}(h:us.length=1):∃a,us=[a]:=by
 cases us with
 |nil=>cases h
 |cons a r=>cases r with
  |nil=>exact⟨a,rfl⟩
  |cons b r=>cases h
theorem ahB{us:List Value}{n:Nat}(h:us.length=n+1):∃a r,us=a::r/\r.length=n:=by
 cases us with
 |nil=>cases h
 |cons a r=>exact⟨a,r,rfl,Nat.succ.inj h⟩
theorem aeJ{us:List Value}(h:us.length=2):∃a b,us=[a,b]:=by
 obtain⟨a,r,rfl,h'⟩:=ahB h
 obtain⟨b,rfl⟩:=ahL h'
 exact⟨a,b,rfl⟩
theorem ai4{us:List Value}(h:us.length=3):∃a b c,us=[a,b,c]:=by
 obtain⟨a,r,rfl,h'⟩:=ahB h
 obtain⟨b,c,rfl⟩:=aeJ h'
 exact⟨a,b,c,rfl⟩
theorem len4{us:List Value}(h:us.length=4):∃a b c d,us=[a,b,c,d]:=by
 obtain⟨a,r,rfl,h'⟩:=ahB h
 obtain⟨b,c,d,rfl⟩:=ai4 h'
 exact⟨a,b,c,d,rfl⟩
section
variable{X:Cx}{f:Addr}{k k':Nat}{ps:List Str}{sp:Sp}{y:Str}{e:Expr}{es:List Expr}{t:TA}{tv:TE}{p pos:Pos}
end
section
variable{X:Cx}
end
end L2
namespace KM
open PySem PySem.Spec PyProof.Rows L2
def ai1(t:List Nat):Option Mk:=
 if t=[76] then some (.lst 0) else if t=[76,87] then some .wrk
 else if t.take ([76,45]:List Nat).length=[76,45] then (acB 1 30 (abY t (some 2) none)).map Mk.lst
 else if t.getLast? =some 87 then (acB 1 31 (abY t none (some (-1)))).map Mk.nea else none
def wdN(t:List Nat):Option Int:=(acB 0 7 t).map fun n=>if n=7 then 0 else n
def ah3:Option Int->Option Int->Option Mk
 |some w,some m=>some (.nth w m)
 |_,_=>none
def rdWk(t:List Nat):Option Mk:=
 if t.getLast? =some 76 then (wdN (abY t none (some (-1)))).map Mk.one
 else match spl 35 t with
  |[a,b]=>ah3 (wdN a) (acB 1 5 b)
  |_=>none
def rdM(wk:Bool)(t:List Nat):Option Mk:=if wk=true then rdWk t else ai1 t
def wk7(m:Int):Int:=Builtin.bitAnd (Builtin.bitOr m (m / 2^(7:Int).toNat)) 127
def Cl(t:List Nat):Prop:=(44∉t/\32∉t)/\t≠[]/\t.length<=8
instance (t:List Nat):Decidable (Cl t):=by unfold Cl;exact inferInstance
def SpT(b:Bool)(t:List Nat):Mk->Prop
 |.num m=>b=false/\abT 1 31 t=some m/\0<m
 |.wkd m=>b=true/\∃M,abT 0 7 t=some M/\(0<M/\M<=255)/\m=wk7 M
 |.nil=>False
 |k=>abT (if b=true then 0 else 1) (if b=true then 7 else 31) t=none/\rdM b t=some k
end KM
namespace L2
open PySem PySem.Spec PyProof.Rows PySem.SeqAt
section
variable{X:Cx}
structure IsC(K:PySem.W.Frag)(C:Addr):Prop where
 ha:PySem.W.findIn K (.ref C) "__class__"=some (some (.builtin "object.__class__"))
 hn:PySem.W.specialIn K (.builtin "object.__class__") "__get__"=some (some (.builtin "getset_descriptor.__get__"))
 htk:PySem.W.takesIn K (.builtin "object.__class__")=some true
 hm:PySem.W.mroIn K C (.type "object")=some true
theorem IsC.ty{K:PySem.W.Frag}{C a dx:Addr}{H:Hp}{fs:List (Str×V)}(i:IsC K C)(c:Cls K C)(h:H a=some (.ins C dx fs)):TyOf K H (.ref a) (.ref C):=.ins h c i.ha i.hn i.htk i.hm
end
end L2
namespace KM
open PySem PySem.Spec PyProof.Rows L2
def TpAt(b:Bool)(H:Hp)(u:Addr)(k:Mk):Prop:=H u=some (.tup k.tup)/\k.sp=true/\k.wk=b/\k.ok
theorem TpAt.keep{b:Bool}{H H':Hp}(s:Keep H H'){u:Addr}{k:Mk}(h:TpAt b H u k):TpAt b H' u k:=⟨s.tup h.1,h.2⟩
abbrev Ws(b:Bool):List (List Nat)->List Mk->Prop:=Paired fun w k=>Cl w/\SpT b w k
theorem Ws.cl{b:Bool}:∀{ws:List (List Nat)} {ks:List Mk},Ws b ws ks->∀w∈ws,Cl w
 |_,_,.nil,w,hw=>nomatch hw
 |_,_,.cons r t,w,hw=>by
  rcases List.mem_cons.mp hw with rfl | hw
  ·exact r.1
  ·exact Ws.cl t w hw
def PrT(H:Hp)(ts:List Addr)(prs:List (Nat×Nat)):Prop:=Paired (fun (t:Addr) (pr:Nat×Nat)=>H t=some (.tup [.int pr.1,.int pr.2])) ts prs
theorem PrT.keep{H H':Hp}{ts:List Addr}{prs:List (Nat×Nat)}(h:PrT H ts prs)(k:Keep H H'):PrT H' ts prs:=Paired.mapP h fun _ _ z=>k.tup z
theorem Paired.at{α β:Type}{F:α->β->Prop}:∀{l:List α} {r:List β} {i:Nat} {a:α},Paired F l r->l[i]? =some a->∃b,r[i]? =some b/\F a b
 |_,_,_,_,.nil,e=>by simp at e
 |_,_,0,_,.cons h _,e=>by
  have:=Option.some.inj e
  subst this
  exact⟨_,rfl,h⟩
 |_,_,i+1,_,.cons _ t,e=>Paired.at (i:=i) t e
def rt(x:Nat×Nat):List Nat:=if x.1=x.2 then num x.1 else num x.1++45::num x.2
end KM
namespace L2
open PySem PySem.Spec PyProof.Rows
section
variable{X:Cx}{f:Addr}{k k':Nat}{ps:List Str}{sp:Sp}{x y e:Expr}{es:List Expr}{t:TA}{tv:TE}{p pos:Pos}
end
section
variable{X:Cx}{C:Addr}{m:Str}{k k':Nat}{ps:List Str}{sp:Sp}{o:Expr}{ta:TE}{apos pos:Pos}
end
section
variable{X:Cx}{body:List Stmt}{tb:TS}{h:ExceptHandler}{hs:List ExceptHandler}{pos:Pos}
end
section
variable{js:List Nat}{σ:St}{tt:TT}{te:TE}{Q:VK}{H1:Hp}
end
section
variable{X:Cx}{o i:Expr}{td ty:TE}{pos:Pos}
end
end L2
namespace KM
open PySem PySem.Spec PyProof.Rows L2
def DV(c:Cs)(H:Hp)(v:V):Option (List Mk)->Prop
 |none=>v=.non
 |some ks=>∃p qs,v=.ref p/\H p=some (.lst (qs.map V.ref))/\Ft (MkAt c H) qs ks/\∀k∈ks,k.ok
theorem DV.keep{c:Cs}{H H':Hp}(s:Same H H'){v:V}:∀{ko:Option (List Mk)},DV c H v ko->DV c H' v ko
 |none,h=>h
 |some _,⟨p,qs,e,h1,h2,h3⟩=>⟨p,qs,e,s _ _ h1,h2.keepM s.keep,h3⟩
end KM
namespace L2
open PySem PySem.Spec PyProof.Rows
def agL(l:List Value):Bool:=match l with
 |.ref _:: .ref _::r=>decide (r=aeF)
 |_=>false
structure XS(K:PySem.W.Frag)(C:Addr)(f:Str):Prop where
 xf:XF K C
 cd:((PySem.W.clsIn K C).any fun c=>c.hasDict&&agL c.mro)=true
 sa:PySem.W.findIn K (.ref C) "__setattr__"=some (some (.builtin "object.__setattr__"))
 no:PySem.W.findIn K (.ref C) f=some none
theorem aeS(self:Value){l:List Value}(e:agL l=true):refuseLoop self "__setattr__" l=pure ():=by
 unfold agL at e
 split at e
 ·rw[of_decide_eq_true e,refuseLoop_ref,refuseLoop_ref]
  exact PySem.F.store_ValueError.passes self
 ·cases e
section
open PySem.W Builtin Builtin.ObjectAttr
variable{prog:Program}{w:World}{A:Around}{E:Value->Shared->Prop}{s:Shared}{K:PySem.W.Frag}{x C:Addr}{f:Str}{v:Value}{o:Obj}{vs:Array Value}
theorem aeO{od:Option Obj}(hx:s.heap.get? x=some o)(hc:o.cls=.ref C)(hd:o.data=.fields vs)(hdi:match o.dict,od with | some dx,some q=>s.heap.get? dx=some q | none,none=>True | _,_=>False):PySem.W.InstAt s.heap x o C od:=
 ⟨hx,hc,by unfold notCls;rw[hd],hdi⟩
theorem ai9{Q:Unit->Shared->Prop}(X:K.In s.heap)(F:XS K C f)(hx:s.heap.get? x=some o)(hc:o.cls=.ref C)(hd:o.data=.fields vs)(hn:o.dict=none)
  (k:∀h' tk,s.heap.get? s.heap.objs.size=none->s.heap.objs.size≠x->h'.get? x=some {o with dict:=some s.heap.objs.size}->h'.Ns1 s.heap.objs.size (fun y=>if y=f then some v else none)->
   (∀b u,b≠x->s.heap.get? b=some u->h'.get? b=some u)->Q () {s with heap:=h',toks:=tk}):
  wpAny (model prog w) A (setAttr (.ref x) f v) Q E s:=by
 have J:PySem.W.InstAt s.heap x o C none:=aeO hx hc hd (by rw[hn];exact True.intro)
 have SF:=PySem.F.store_object
 obtain⟨cd,hcl,hh⟩:=PySem.W.any_some F.cd
 obtain⟨hdct,hm⟩:=Bool.and_eq_true_iff.mp hh
 refine PySem.W.set_plain X J F.sa ?_
 have sub:Looks (model prog w) s.heap (isInstance (.ref x) (.type "object")) true:=J.type.andThen (PySem.W.looks_mroIn X F.xf.mo)
 refine codeAny_call_builtin SF.slot.plain SF.entry (@PySem.W.check_slot (model prog w) _ _ {s with toks:=s.toks+1} "object.__setattr__" "object" "__setattr__" (.ref x) [.str f s.toks,v] [] _ SF.kind SF.split sub (SF.args (.ref x) (.str f s.toks) v) ?_)
 have mr:Looks (model prog w) s.heap (mroOf (.ref C)) cd.mro:=(PySem.W.looks_clsIn X hcl).andThen .now
 have L3:Looks (model prog w) s.heap (storeTaker? none) none:=.now
 rw[PySem.W.osa_eq,refuse_eq]
 refine wpAny_bind (wpAny_bind (J.type.here (s:={s with toks:=s.toks+1}) (wpAny_bind (mr.here (s:={s with toks:=s.toks+1}) ?_))))
 rw[aeS _ hm]
 refine wpAny_pure (wpAny_bind (J.type.here (s:={s with toks:=s.toks+1}) (wpAny_bind ((PySem.W.looks_findIn X F.no).here (s:={s with toks:=s.toks+1}) (wpAny_bind (L3.here (s:={s with toks:=s.toks+1}) ?_))))))
 have hp:s.heap.objs.size≠x:=Nat.ne_of_gt (Heap.lt_size hx)
 have fr:s.heap.get? s.heap.objs.size=none:=Heap.get?_none_of_le (Nat.le_refl _)
 obtain⟨oc,od,oda,osl⟩:=o
 obtain rfl:oc=.ref C:=hc
 obtain rfl:od=none:=hn
 obtain rfl:oda=.fields vs:=hd
 refine wpAny_bind (wpAny_pure (wpAny_bind (wpAny_bind (wpAny_loadPart hx (wpAny_bind (PySem.W.Looks.here (s:={s with toks:=s.toks+1}) (PySem.W.looks_clsIn X hcl) ?_))))))
 rw[hdct,if_neg (by decide)]
 dsimp only
 rw[if_neg (by simp[typeHasDict])]
 have hx1:=Heap.get?_push_of_some {cls:=.type "dict",data:=.dict #[]} hx
 refine wpAny_bind (wpAny_alloc' (wpAny_bind (wpAny_update' hx1 (wpAny_pure ?_))))
 have gD:((s.heap.push {cls:=.type "dict",data:=.dict #[]}).update x fun o=>{o with dict:=some s.heap.objs.size}).get? s.heap.objs.size=some {cls:=.type "dict",data:=.dict #[]}:=
  (Heap.get?_update_ne _ _ _ _ hp).trans (Heap.get?_push_at rfl rfl)
 refine wpAny_bind (wpAny_pure (wpAny_bind (wpAny_nsSet1 (Heap.Ns1.of_empty ⟨_,#[],_,gD,rfl,fun e he=>absurd he (by simp),fun _=>rfl⟩) fun h' n' sb=>?_)))
 obtain⟨oD,eD,pD,goD,dD,cD⟩:=n'.count (Within.cons f v Within.nil)
 refine wpAny_bind (wpAny_lookBehind goD (by rw[dD];exact pastItsLine_dict (Nat.le_trans cD (by rw[List.length_cons,List.length_nil,sizeLine_eq];omega))) (wpAny_pure ?_))
 refine k h' _ fr hp ((sb.2 x hp.symm).trans ?_) n' fun b u hb q=>(sb.2 b (Nat.ne_of_lt (Heap.lt_size q))).trans ((Heap.get?_update_ne _ _ _ _ hb).trans (Heap.get?_push_of_some _ q))
 exact Heap.get?_update_self _ hx1 rfl
theorem aiV{expr:Bool}{dx:Addr}{mA:Str->Option Value}{Q:Value->Shared->Prop}(X:K.In s.heap)(F:XS K C f)(hx:s.heap.get? x=some o)(hc:o.cls=.ref C)(hd:o.data=.fields vs)(hn:o.dict=some dx)(ns:s.heap.Ns1 dx mA)(hv:mA f=some v)(hh:PySem.W.handedIn v=true)
  (h:Q v {s with toks:=s.toks+1}):wpAny (model prog w) A (getAttr (.ref x) f expr) Q E s:=by
 obtain⟨od,ho,hl⟩:=ad9 ns
 have J:PySem.W.InstAt s.heap x o C (some od):=aeO hx hc hd (by rw[hn];exact ho)
 have I:AtC x C s.heap:=⟨o,vs,hx,hc,hd⟩
 obtain⟨cd,hcl,hh2⟩:=PySem.W.any_some F.cd
 obtain⟨hdct,hm⟩:=Bool.and_eq_true_iff.mp hh2
 have L0:=I.ty (M:=model prog w)
 have L1:=PySem.W.looks_findIn (M:=model prog w) X F.xf.ga
 have L2:=PySem.W.looks_findIn (M:=model prog w) X F.xf.nga
 have f3:=PySem.F.attr_ValueError.ga.bind (.ref x)
 have e4:PySem.W.findObj K C (some od) f=some (.value v):=PySem.W.findObj_own (by unfold PySem.W.hasDictIn;rw[hcl];exact hdct) F.no rfl (by rw[hl,hv])
 have L4:=PySem.W.looks_find (M:=model prog w) X J e4
 have hx0:(expr&&onTheHeap (Value.builtin "BaseException.__getattribute__"))=false:=by cases expr<;>rfl
 unfold getAttr getAttrBy
 refine wpAny_bind (wpAny_mkText (wpAny_holding ?_))
 refine wpAny_bind (L0.at ?_)
 refine wpAny_bind (L1.at ?_)
 show wpAny _ _ (getAttrByItsOwn _ _ _ _ _ _) _ _ _
 unfold getAttrByItsOwn
 repeat (first | assumption | with_reducible refine Looks.at (by assumption) ?_ | wp_step)
 refine codeAny_call_builtin PySem.F.attr_ValueError.ga.plain PySem.F.entry_bexc_ga (aa3 F.xf X I ?_)
 unfold Builtin.«object.__getattribute__»
 repeat (first | assumption | with_reducible refine Looks.at (by assumption) ?_ | wp_step)
 show wpAny _ _ (handedOut v) _ _ _
 exact wpAny_of_eq (PySem.W.handedOut_of hh) h
end
def PY(e C:Addr)(d:Option Addr)(h:Heap):Prop:=∃(vs:Array Value) (sl:Array (Option Value)),h.get? e=some ⟨.ref C,d,.fields vs,sl⟩/\vs[1]? =some .none/\vs[2]? =some .none/\4<vs.size
def xn(a C:Addr)(d:Option Addr):HO:=.ext (PY a C d)
theorem PY.ok{P:Program}{w:World}{H:Hp}{h:Heap}{a C:Addr}{d:Option Addr}(x:PY a C d h):ObjOk P w H h a (xn a C d):=by
 obtain⟨vs,sl,e,r⟩:=id x
 exact⟨x,⟨_,e⟩,fun h1 h2 ⟨vs,sl,e,r⟩ k=>⟨vs,sl,k _ e,r⟩⟩
section
variable{X:Cx}{pins:List (Addr×Obj)}{σ:St}{H:Hp}{s:Shared}{a C:Addr}{f:Str}
theorem afA{A:Around}{E:Value->Shared->Prop}{y:V}{u:Value}{Q:Unit->Shared->Prop}(I:Inv X pins σ H s)(e:H a=some (xn a C none))(F:XS X.K C f)(ry:RelV y u)
  (k:∀dx s',H dx=none->dx≠a->Inv X pins σ (upd (upd H dx (.xd [(f,y)])) a (xn a C (some dx))) s'->Q () s'):wpAny (model X.prog X.w) A (setAttr (.ref a) f u) Q E s:=by
 obtain⟨⟨vs,sl,ha,h1,h2,h4⟩,_,_⟩:=I.hok a _ e
 refine ai9 I.kIn F ha rfl rfl rfl fun h' tk fr ne hx' ns kp=>?_
 have nD:H s.heap.objs.size=none:=I.hok.fresh (Nat.le_refl _)
 have nt:∀{b:Addr} {o:HO},H b=some o->(∀φ,o≠ .ext φ)->b≠a:=fun q n z=>by rw[z,e] at q;exact n _ (Option.some.inj q).symm
 have same:∀{b:Addr} {o:HO},H b=some o->b≠a->upd (upd H s.heap.objs.size (.xd [(f,y)])) a (xn a C (some s.heap.objs.size)) b=some o:=fun q n=>by
  rw[aaD n,aaD (aaF q nD)]
  exact q
 refine k s.heap.objs.size _ nD ne (I.un ⟨fun b o q n _ _=>kp b o (fun z=>by rw[z,e] at n;cases n) q,fun b o q n _ _=>⟨o.slots,kp b o (fun z=>by rw[z,e] at n;cases n) q⟩,fun b o q n _=>?_,fun b o q _=>?_,fun b xs q=>same q (nt q fun _ z=>nomatch z),fun b o v q=>same q (nt q fun _ z=>nomatch z),fun b ps q=>⟨#[],by rw[Array.append_empty];exact same q (nt q fun _ z=>nomatch z)⟩⟩ fun b o q=>?_)
 ·rw[aaD (fun z=>by rw[z,e] at n;cases n),aaD (fun z=>by rw[z,fr] at q;cases q)]
  exact n
 ·by_cases hb:b=a
  ·subst hb
   exact⟨_,hx'⟩
  ·exact⟨o,kp b o hb q⟩
 ·by_cases hb:b=a
  ·subst hb
   rw[aaA] at q
   cases q
   exact PY.ok ⟨vs,sl,hx',h1,h2,h4⟩
  ·rw[aaD hb] at q
   by_cases hd:b=s.heap.objs.size
   ·subst hd
    rw[aaA] at q
    cases q
    refine⟨_,ns,fun g=>?_⟩
    by_cases hg:g=f
    ·subst hg
     rw[List.lookup_cons,show (g==g)=true from beq_self_eq_true g,if_pos rfl]
     exact ry
    ·rw[List.lookup_cons,show (g==f)=false from beq_false_of_ne hg,if_neg hg]
     exact True.intro
   ·rw[aaD hd] at q
    refine (I.hok b o q).stay (fun c v hc z=>kp c v ?_ z) (fun c z=>same z (nt z fun _ y=>nomatch y)) fun c xs z=>same z (nt z fun _ y=>nomatch y)
    rcases hc with rfl | hc
    ·exact hb
    ·exact nt hc fun _ y=>nomatch y
theorem afI{A:Around}{E:Value->Shared->Prop}{expr b:Bool}{dx:Addr}{fs:List (Str×V)}{v:V}{Q:Value->Shared->Prop}(I:Inv X pins σ H s)(e:H a=some (xo a C (some dx) b))(ed:H dx=some (.xd fs))(F:XS X.K C f)(l:fs.lookup f=some v)
  (k:∀u s',RelV v u->Inv X pins σ H s'->Q u s'):wpAny (model X.prog X.w) A (getAttr (.ref a) f expr) Q E s:=by
 obtain⟨⟨o,ha,hc,hd,vs,hv,_⟩,_,_⟩:=I.hok a _ e
 obtain⟨mA,ns,r⟩:=I.hok dx _ ed
 have rf:=r f
 rw[l] at rf
 cases em:mA f with
 |none=>rw[em] at rf;exact False.elim rf
 |some u=>
  rw[em] at rf
  exact aiV I.kIn F ha hc hv hd ns em (adX rf) (k u _ rf (I.tok _))
end
def aiY(K:PySem.W.Frag)(ta tv:TE)(f:Str):TS:=fun D σ H=>tv σ H fun y H1=>ta σ H1 fun x H2=>∃a C,x=.ref a/\H2 a=some (xn a C none)/\XS K C f/\∀dx,H2 dx=none->dx≠a->D.nx σ (upd (upd H2 dx (.xd [(f,y)])) a (xn a C (some dx)))
def ajF(K:PySem.W.Frag)(ta:TE)(f:Str):TE:=fun σ H Q=>ta σ H fun x H1=>∃a C dx b fs v,x=.ref a/\H1 a=some (xo a C (some dx) b)/\H1 dx=some (.xd fs)/\XS K C f/\fs.lookup f=some v/\Q v H1
section
variable{X:Cx}{o e value:Expr}{ta tv:TE}{f:Str}{pos pos':Pos}
theorem ahQ(ha:E X o ta)(hv:E X value tv)(hs:swapsWith value (some (.Attribute o f pos')) pos.line X.env=pure false:=by rfl):S X (.Assign [.Attribute o f pos'] value pos) (aiY X.K ta tv f):=by
 refine⟨fun pins s σ H D I h=>?_⟩
 refine plainObj_wpAny_Assign_Attribute (thn (hv.h pins s σ H _ I h) fun u s1 ⟨y,H1,I1,ry,q⟩=>thn (ha.h pins s1 σ H1 _ I1 q) fun ov s2 ⟨x,H2,I2,rx,a,C,ex,ea,F,q2⟩=>?_) hs
 subst ex
 obtain rfl:ov=Value.ref a:=rx
 exact afA I2 ea F ry fun dx s3 n1 n2 I3=>⟨σ,_,I3,q2 dx n1 n2⟩
theorem adS(he:E X e ta)(hb:attributeBase e f X.env (eval e X.env)=eval e X.env:=by rfl):E X (.Attribute e f pos) (ajF X.K ta f):=by
 refine⟨fun pins s σ H Q I h=>?_⟩
 refine afZ hb (thn (he.h pins s σ H _ I h) fun u s1 ⟨x,H1,I1,rx,a,C,dx,b,fs,v,ex,ea,ed,F,l,q⟩=>?_)
 subst ex
 obtain rfl:u=Value.ref a:=rx
 exact afI I1 ea ed F l fun u' s2 ru I2=>⟨v,H1,I2,ru,q⟩
end
def abX(K:PySem.W.Frag)(C:Addr):Bool:=match K.lookup C with
 |some o=>(match o.cls,o.data with
  |.type t,.cls cd=>(match cd.mro,o.slots.toList with
   |.ref C'::bm,[_,_,_,_,some (.builtin n),_]=>t=="type"&&C'==C&&n=="ValueError.__new__"&& !cd.hasDel&&PySem.W.tailIn K aeF bm
   |_,_=>false)
  |_,_=>false)
 |none=>false
theorem acL{K:PySem.W.Frag}{C:Addr}{h:Heap}(X:K.In h)(q:abX K C=true):
  ∃bm N nm qn bs hdct sn sub ab col dd k0 k1 k2 k3 k5,h.get? C=some (excClassObj nm qn C N bs bm hdct sn sub ab col dd k0 k1 k2 k3 k5 "ValueError.__new__")/\OwnTail h aeF bm:=by
 unfold abX at q
 split at q
 ·next o ho=>
  obtain⟨oc,od,oda,sl⟩:=o
  dsimp only at q
  split at q
  ·next t cd=>
   split at q
   ·next C' bm k0 k1 k2 k3 n k5 hm hs=>
    simp only[Bool.and_eq_true,beq_iff_eq,Bool.not_eq_true'] at q
    obtain⟨⟨⟨⟨rfl,rfl⟩,rfl⟩,hdel⟩,ht⟩:=q
    obtain⟨nm,bs,mro,ns,qn,hd,sn,sub,ab,col,del⟩:=cd
    dsimp only at hm hdel hs
    subst hm hdel
    obtain⟨l⟩:=sl
    have hs:l=[k0,k1,k2,k3,some (.builtin "ValueError.__new__"),k5]:=hs
    subst hs
    exact⟨bm,ns,nm,qn,bs,hd,sn,sub,ab,col,od,k0,k1,k2,k3,k5,X _ _ ho,PySem.W.tail_of_in X ht⟩
   ·cases q
  ·cases q
 ·cases q
section
open PySem.W
variable{prog:Program}{w:World}{A:Around}{E:Value->Shared->Prop}{s:Shared}{K:PySem.W.Frag}{C fI:Addr}
theorem aeD{rest:List Value}{Q:Value->Shared->Prop}(X:K.In s.heap)(hq:abX K C=true)(hi:findIn K (.ref C) "__init__"=some (some (.ref fI)))(hf:typeIn K (.ref fI)=some (.type "function"))(hz:rest.length<=sizeLine)
  (k:∀h' e,Heap.MadeExcOf s.heap h' e (.ref C) rest->wpAny (model prog w) (A.under (.builtin "type.__call__" ⟨.ref C::rest,[]⟩)) (call (.ref fI) (.ref e::rest)) (fun r s'=>r=.none/\Q (.ref e) s') E {s with heap:=h'}):
  wpAny (model prog w) A (call (.ref C) rest) Q E s:=by
 obtain⟨h,g,d,t,os⟩:=s
 obtain⟨bm,N,nm,qn,bs,hdct,sn,sub,ab,col,dd,k0,k1,k2,k3,k5,hC,T⟩:=acL X hq
 have VE:=PySem.F.excBase_ValueError
 have c1:=tc_lookup
 have c2:=tc_bind (.ref C)
 have cT:(⟨h,g,d,t,os⟩:Shared).TypeIs (.ref C) "type":=⟨_,hC,rfl⟩
 refine wpAny_call (codeAny_of_tree (show wpAny _ _ (callAny (.ref C) _) _ _ _ from ?_))
 repeat (any_goals (first | with_reducible refine wpAny_loadPart_at hC ?_ | assumption | wp_step))
 refine⟨rfl,codeAny_call_builtin_at (Code.quiet_builtin _ (by decide +kernel)) entry_typeCall (wpAny_check_type_call_sub hC ?_)⟩
 repeat (first | with_reducible refine wpAny_madeBy_exc hC ?_ | with_reducible refine wpAny_loadPart_at hC ?_ | wp_step)
 refine codeAny_call_builtin_code (Code.quiet_builtin _ VE.quiet) (wpAny_check_new_subT VE T hC (codeAny_exc_new_subT VE T hC ?_ hz))
 have kp:∀b o,h.get? b=some o->((h.push {cls:=.type "tuple",data:=.seq rest.toArray}).push {cls:=.ref C,data:=.fields #[.ref h.objs.size,.none,.none,.none,.bool false,.none]}).get? b=some o:=fun b o e=>Heap.get?_push_of_some _ (Heap.get?_push_of_some _ e)
 have he:((h.push {cls:=.type "tuple",data:=.seq rest.toArray}).push {cls:=.ref C,data:=.fields #[.ref h.objs.size,.none,.none,.none,.bool false,.none]}).get? (h.objs.size+1)=some {cls:=.ref C,data:=.fields #[.ref h.objs.size,.none,.none,.none,.bool false,.none]}:=by heap_get
 have ht:((h.push {cls:=.type "tuple",data:=.seq rest.toArray}).push {cls:=.ref C,data:=.fields #[.ref h.objs.size,.none,.none,.none,.bool false,.none]}).get? h.objs.size=some {cls:=.type "tuple",data:=.seq rest.toArray}:=Heap.get?_push_of_some _ (Heap.get?_push_at rfl rfl)
 show wpAny _ _ _ _ _ _
 have kk:=k _ (h.objs.size+1) ⟨kp,Heap.get?_none_of_le (Nat.le_succ _),h.objs.size,he,Heap.get?_none_of_le (Nat.le_refl _),ht⟩
 have hC2:=kp _ _ hC
 have inC:(Value.ref C::bm).contains (.ref C)=true:=by simp
 have X2:K.In _:=X.keeps kp
 have L1:=PySem.W.looks_findIn (M:=model prog w) X2 hi
 have L2:=PySem.W.bind_fn (M:=model prog w) X2 (.ref (h.objs.size+1)) hf
 have L0:Looks (model prog w) _ (typeOf (.ref (h.objs.size+1))) (.ref C):=(PySem.W.Looks.ld he).andThen .now
 unfold isInstance
 repeat (first | with_reducible refine wpAny_loadPart_at he ?_ | wp_step)
 dsimp only
 refine wpAny_isSubtype_exc hC2 ?_
 rw[inC]
 repeat (first | with_reducible refine wpAny_loadPart_at he ?_ | with_reducible refine Looks.at (by assumption) ?_ | wp_step)
 dsimp only
 refine L1.at (wpAny_holding (wpAny_bind (L2.at (wpAny_bind (wpAny_mono kk (fun r s' hr=>?_) fun _ _ z=>z)))))
 obtain⟨rfl,hQ⟩:=hr
 wp_walk
 exact hQ
end
def rem(H:Hp)(a:Addr):Hp:=fun b=>if b=a then none else H b
theorem abN{H:Hp}{a:Addr}:rem H a a=none:=if_pos rfl
theorem abS{H:Hp}{a b:Addr}(h:b≠a):rem H a b=H b:=if_neg h
section
variable{X:Cx}{pins:List (Addr×Obj)}{σ:St}{H:Hp}{s:Shared}
theorem Inv.forget{a:Addr}{φ:Heap->Prop}(I:Inv X pins σ H s)(e:H a=some (.ext φ)):Inv X pins σ (rem H a) s:=by
 have nt:∀{b:Addr} {o:HO},H b=some o->(∀φ,o≠ .ext φ)->rem H a b=some o:=fun {b o} q n=>by
  rw[abS (fun z=>by rw[z,e] at q;exact n _ (Option.some.inj q).symm)]
  exact q
 have fr:∀{b:Addr},H b=none->rem H a b=none:=fun {b} n=>by
  by_cases hb:b=a
  ·rw[hb];exact abN
  ·rw[abS hb];exact n
 exact I.un (t':=s.toks) ⟨fun b o q _ _ _=>q,fun b o q _ _ _=>⟨o.slots,q⟩,fun b o _ n _=>fr n,fun b o q _=>⟨o,q⟩,fun b xs q=>nt q (fun _ z=>nomatch z),fun b o v q=>nt q (fun _ z=>nomatch z),fun b ps q=>⟨#[],(by rw[Array.append_empty];exact nt q fun _ z=>nomatch z)⟩⟩ fun b o q=>by
  by_cases hb:b=a
  ·rw[hb,abN] at q;cases q
  ·rw[abS hb] at q
   exact (I.hok b o q).stay (fun _ _ _ z=>z) (fun c z=>nt z fun _ y=>nomatch y) fun c xs z=>nt z fun _ y=>nomatch y
theorem Inv.born{a:Addr}{o:HO}{h':Heap}{t':Nat}(I:Inv X pins σ H s)(k:∀b u,s.heap.get? b=some u->h'.get? b=some u)(n:s.heap.get? a=none)(new:ObjOk X.prog X.w (upd H a o) h' a o):Inv X pins σ (upd H a o) {s with heap:=h',toks:=t'}:=by
 have nH:H a=none:=by
  cases q:H a with
  |none=>rfl
  |some u=>
   obtain⟨ob,z⟩:=(I.hok a u q).at
   rw[n] at z;cases z
 have same:∀{b:Addr} {u:HO},H b=some u->upd H a o b=some u:=fun q=>by rw[aaD (aaF q nH)];exact q
 refine I.un ⟨fun b u q _ _ _=>k b u q,fun b u q _ _ _=>⟨u.slots,k b u q⟩,fun b u q m _=>?_,fun b u q _=>⟨u,k b u q⟩,fun b xs q=>same q,fun b u v q=>same q,fun b ps q=>⟨#[],(by rw[Array.append_empty];exact same q)⟩⟩ fun b u q=>?_
 ·rw[aaD (fun z=>by rw[z,n] at q;cases q)]
  exact m
 ·by_cases hb:b=a
  ·subst hb
   rw[aaA] at q
   cases q
   exact new
  ·rw[aaD hb] at q
   exact (I.hok b u q).stay (fun c v _ z=>k c v z) (fun c z=>same z) fun c xs z=>same z
end
section
variable{prog:Program}{w:World}{A:Around}{E:Value->Shared->Prop}{s:Shared}{env:Env}
theorem adC{x:Sem Value}{Q:Flow->Shared->Prop}(hh:A.handled=none)(h:wpAny (model prog w) A x (fun v s1=>∃e C d,v=.ref e/\IsXC C s1.heap/\PX e C d s1.heap/\E (.ref e) s1) E s):wpAny (model prog w) A (raiseStmt env (some x) none) Q E s:=by
 unfold raiseStmt
 refine wpAny_bind (wpAny_mono h (fun v s1 h1=>?_) fun _ _ z=>z)
 obtain⟨e,C,d,rfl,⟨nm,q,N,bs,bm,hdct,sn,sub,ab,col,dd,k0,k1,k2,k3,k5,newId,hC,hB⟩,⟨vs,sl,he,hn,hz⟩,hE⟩:=h1
 have inB:(Value.ref C::bm).contains (.type "BaseException")=true:=by rw[List.contains_cons,hB,Bool.or_true]
 obtain⟨hp,g,dr,tk,os⟩:=s1
 generalize hsf:@setFlight=sf
 repeat (first | with_reducible refine wpAny_loadPart_at he ?_ | with_reducible refine wpAny_loadPart_at hC ?_ | (with_reducible refine wpAny_isSubtype_exc hC ?_;rw[inB]) | wp_step)
 subst hsf
 unfold setFlight
 refine wpAny_bind (wpAny_field he rfl hn ?_)
 rw[if_neg (by decide)]
 exact wpAny_pure (wpAny_raiseNew_none hh hE)
end
def af1(C:Addr)(sp:Sp)(E:XK)(t:TA):TS:=fun _ σ H=>t σ H fun vs H1=>vs.length<=sizeLine/\∀e,H1 e=none->sp (.ref e::vs) (upd H1 e (xn e C none)) (fun v H2=>v=.non/\∃dx,H2 e=some (xn e C (some dx))/\E (.ref C) (some dx) (rem H2 e)) E0
section
variable{X:Cx}{E:XK}{x:Str}{C:Addr}{e:Expr}{es:List Expr}{t:TA}{np cpos pos:Pos}{k k':Nat}{ps:List Str}{sp:Sp}
theorem agP(hM:aeQ X E)(hm:X.mg x=some (.ref C))(hq:abX X.K C=true)(D:DfM X.prog X.w X.K X.mg X.base C "__init__" k ps sp)(hr:Room k' X.A)(ha:As X (e::es) t)(hk:k+1<=k':=by decide)(hex:X.ex=[]:=by rfl)(hc:X.calm=true:=by rfl)(hg:Gl X x:=by rfl)(hdb:(x==("__debug__":Str))=false:=by decide)
  (he:starEach (e::es) X.env=(false,eval e X.env)::starEach es X.env:=by rfl) (hpl:(backTo cpos (starEach es X.env)).any (·.1)=false:=by rfl):
  S X (.Raise (some (.Call (.Name x np) (e::es) [] cpos)) none pos) (af1 C sp E t):=by
 obtain⟨f,fd,F,hb,hme⟩:=D.ex
 refine⟨fun pins s σ H De I h=>?_⟩
 have pl:(backTo cpos ((false,eval e X.env)::starEach es X.env)).any (·.1)=false:=hpl
 rw[arm_exec_Raise]
 simp only[evalOpt,Option.map]
 refine wpAny_bind (wpAny_standAt (adC (I.ok.hd hc) ?_))
 refine wpAny_bind (wpAny_mono (wpAny_Call_ofName (aaM I hg hm ?_ hdb)) (fun v s3 h3=>wpAny_bind (wpAny_standAt (wpAny_pure h3))) fun _ _ z=>z)
 unfold callWith
 have hw:=ha.h cpos pins s σ H _ I h
 rw[he] at hw ⊢
 refine wpAny_bind (wpAny_holding (Calls.evalArgs_plain (thn hw fun us s2 ⟨vs,H2,I2,r,hz,q⟩=>wpAny_bind (wpAny_standAt ?_))))
 obtain⟨bm,N,nm,qn,bs,hdct,sn,sub,ab,col,dd,k0,k1,k2,k3,k5,hC,T⟩:=acL I2.kIn hq
 simp only[pl]
 refine wpAny_bind (wpAny_keeperOf_exc (h:=s2.heap) (g:=s2.gens) (d:=s2.drawn) (t:=s2.toks) (os:=s2.os) hC ?_)
 refine wpAny_bind (aeD I2.kIn hq hme.at_ (beq_iff_eq.mp hme.fn) (by rw[List.nil_append,←r.length];exact hz) fun h' n mk=>?_)
 obtain⟨t0,there,_,_⟩:=mk.there
 obtain⟨Hn,gn⟩:=I2.newX hex mk.new
 have I3:Inv X pins σ (upd H2 n (xn n C none)) {s2 with heap:=h'}:=I2.born (t':=s2.toks) mk.keeps mk.new (PY.ok ⟨_,_,there,rfl,rfl,(show 4<6 by decide)⟩)
 have sp':=q n Hn
 have r2:Vals (V.ref n::vs) (Value.ref n::us):=.cons rfl r
 have hl:(Value.ref n::us).length=ps.length:=by rw[←r2.length];exact F.len _ _ _ _ sp'
 have hbd:=hb {s2 with heap:=h'} (Value.ref n::us) I3.kIn (by rw[List.append_nil];exact hl)
 rw[List.append_nil] at hbd
 refine wpAny_call (codeAny_mono (F.run _ X.stack _ _ ⟨Value.ref n::us,[]⟩ (Value.ref n::us) (V.ref n::vs) _ E0 ((hr.mono hk).make C us []) (I3.env0.make C us []) hbd r2 sp') fun rr s' hq'=>?_)
 cases rr with
 |error e=>exact False.elim hq'
 |ok fl=>
  cases fl with
  |next=>exact False.elim hq'
  |brk=>exact False.elim hq'
  |cont=>exact False.elim hq'
  |ret u=>
   obtain⟨v,H4,I4,rv,rfl,dx,hx,qE⟩:=I3.after hq'
   obtain⟨⟨vs4,sl4,e4,n1,n2,z4⟩,_,_⟩:=I4.hok n _ hx
   refine⟨rv,wpAny_bind (wpAny_holding (wpAny_point (wpAny_pure ⟨n,C,some dx,rfl,?_,⟨vs4,sl4,e4,n1,z4⟩,?_⟩)))⟩
   ·obtain⟨bm,N,nm,qn,bs,hdct,sn,sub,ab,col,dd,k0,k1,k2,k3,k5,hC4,T4⟩:=acL I4.kIn hq
    exact⟨nm,qn,N,bs,bm,hdct,sn,sub,ab,col,dd,k0,k1,k2,k3,k5,_,hC4,T4.hasType (by decide)⟩
   ·have I5:=I4.forget hx
    exact hM pins σ _ _ n C (some dx) true _ vs4 I5 abN gn e4 rfl n1 ⟨rfl,rfl,vs4,rfl,fun _=>n2⟩ qE
end
structure RoomQ(k:Nat)(A:Around):Prop where
 dp:A.depth+3*k+5<recursionLimit
 un:A.units+16*k+200<cLine
theorem Room.q{k:Nat}{A:Around}(r:Room k A):RoomQ k A:=⟨r.dp,r.un⟩
theorem RoomQ.mono{j k:Nat}{A:Around}(r:RoomQ k A)(h:j<=k):RoomQ j A:=⟨by have:=r.dp;omega,by have:=r.un;omega⟩
theorem RoomQ.mark{k:Nat}{A:Around}(r:RoomQ k A)(v:Option Value):RoomQ k (A.mark v):=⟨r.dp,r.un⟩
theorem RoomQ.deeper{k:Nat}{A:Around}(r:RoomQ (k+1) A)(env:Env):RoomQ k (A.deeper env):=
 ⟨by have:=r.dp;show A.depth+1+3*k+5<_;omega,by have:=r.un;show A.units+3+16*k+200<_;omega⟩
def agG(P:Program)(w:World)(K:PySem.W.Frag)(mg:Str->Option Value)(base:Heap)(N:List Str)(qual:Str)(scope:Scope)(f:Addr)(cd:Value)(A:Around)(outer:List Env)(s:Shared)(H:Hp):Cx:=
 { (aaR CX0 P w K mg base N qual scope f cd A outer s H E0).nox with calm:=false}
section
variable{P:Program}{w:World}{K:PySem.W.Frag}{mg:Str->Option Value}{base:Heap}{N ps:List Str}{qual:Str}{scope:Scope}{f:Addr}{cd:Value}{A:Around}{outer:List Env}{s s1:Shared}{H:Hp}{us:List Value}{vs:List V}
theorem ac6(S':FnScope N ps scope)(e0:Env0 P w K mg base A outer s H)(hl:vs.length=ps.length)(r:Vals vs us)
  (x:InCallC s s.heap.objs.size (bindL (envOfC qual scope s.heap.objs.size f cd).kindOf (ps.zip us) fun _=>none) (cellsFrom (s.heap.objs.size+1) scope.names []) (bindC (envOfC qual scope s.heap.objs.size f cd).kindOf (ps.zip us) fun _=>none) s1):
  Inv (agG P w K mg base N qual scope f cd A outer s H) [] (aaJ N vs) H s1:=by
 have I:=acG (CX:=CX0) (E:=E0) (A:={A with handled:=none}) (qual:=qual) (f:=f) (cd:=cd) S' rfl ⟨e0.frames,e0.mod,e0.bs,e0.bsz,e0.funs,e0.frf,e0.hok,e0.bare⟩ hl r x
 exact⟨⟨I.ok.mod,I.ok.kind,I.ok.glob,I.ok.blt,I.ok.above,I.ok.inj,I.ok.has,I.ok.cab,(fun z=>nomatch z),Around.frames_deeper e0.frames,I.ok.stk,I.ok.exf,I.ok.bs,I.ok.bsz,I.ok.noex,I.ok.exfs,I.ok.funs,I.ok.frf⟩,I.os,I.bare,I.base,I.loc,I.cell,I.free,I.freeC,I.pin,I.hok,I.len⟩
end
structure DfQ(P:Program)(w:World)(K:PySem.W.Frag)(mg:Str->Option Value)(base:Heap)(x:Str)(k:Nat)(ps:List Str)(sp:Sp):Prop where
 ex:∃(f:Addr) (fd:FuncData),(∀vs H Q E,sp vs H Q E->vs.length=ps.length)/\(∀(A:Around) (outer:List Env) (s:Shared) (H:Hp) (args:Args) (us:List Value) (vs:List V) (Q:VK),RoomQ k A->Env0 P w K mg base A outer s H->BindsTo s fd args (ps.zip us)->Vals vs us->sp vs H Q E0->
  codeAny (model P w) A (.call (.ref f) args) (CR CX0 outer P w H s Q E0) s)/\Binds K fd ps []/\mg x=some (.ref f)/\PySem.W.keepIn K (.ref f)=true
section
variable{P:Program}{w:World}{K:PySem.W.Frag}{mg:Str->Option Value}{base:Heap}{x:Str}{st:Stmt}{ps N:List Str}{k:Nat}{sp:Sp}
theorem Fn.dfsQ(F:Fn K mg x st ps)(S':FnScope N ps (aaB st))(len:∀vs H Q E,sp vs H Q E->vs.length=ps.length)
  (hbody:∀(f:Addr) (cdv:Value) (A:Around) (outer:List Env) (s:Shared) (H:Hp) (vs:List V) (Q:VK),RoomQ k (A.deeper (envOfC x (aaB st) s.heap.objs.size f cdv))->sp vs H Q E0->
   ∃t,Ss (agG P w K mg base N x (aaB st) f cdv A outer s H) (aaH st) t/\t {nx:=fun _ H'=>Q .non H',rt:=Q} (aaJ N vs) H):DfQ P w K mg base x (k+1) ps sp:=by
 obtain⟨f,fd,F1,hb,hm⟩:=F.ex
 have kp:=F1.kp
 obtain⟨oc,od,kV,doc,pm,an,cdv,ct,osl,rfl,lk,hcd⟩:=F1.ex
 refine⟨⟨f,_,len,fun A outer s H args us vs Q hr e0 hbd r hsp=>?_,hb,hm,kp⟩⟩
 have stay:∀b o,base.get? b=some o->s.heap.get? b=some o:=fun b o e=>(e0.bs b o e).1
 have KX:=e0.mod.kin.keeps stay
 have names:∀y∈ps.zip us,(aaB st).names.lookup y.1=some .local∨((aaB st).names.lookup y.1=some .cell/\((cellsFrom (s.heap.objs.size+1) (aaB st).names []).lookup y.1).isSome=true):=fun y hy=>by
  rcases S'.par y.1 (List.of_mem_zip hy).1 with q | q
  ·exact .inl q
  ·exact .inr ⟨q,PySem.W.cellsFrom_some _ _ _ (.inl q)⟩
 refine codeAny_call_function (by have:=hr.dp;omega) (KX _ _ lk) rfl S'.co S'.gen rfl (PySem.W.codeRec_of KX hcd) (hbd _ _ _ _ (wpAny_newFunctionEnv_cells S'.kind names fun env he s1 y=>?_))
 subst he
 refine⟨(e0.mod.nolimit.keeps stay).keeps y.toInCall.keep,codeAny_func ?_⟩
 obtain⟨t,ht,hq⟩:=hbody f cdv A outer s H vs Q (hr.deeper _) hsp
 have I:=ac6 (qual:=x) (f:=f) (cd:=cdv) S' e0 (len _ _ _ _ hsp) r y
 refine wpAny_mono (ht.h [] s1 (aaJ N vs) H _ I hq) (fun fl s' hs=>?_) fun e s' hs=>False.elim hs
 cases fl with
 |ret u=>
  obtain⟨v,σ',H',J,rv,q⟩:=hs
  exact⟨v,H',J.os,J.bare,J.base,J.hok,rv,q⟩
 |next=>
  obtain⟨σ',H',J,q⟩:=hs
  exact⟨V.non,H',J.os,J.bare,J.base,J.hok,rfl,q⟩
 |brk=>obtain⟨_,_,_,q⟩:=hs;exact False.elim q
 |cont=>obtain⟨_,_,_,q⟩:=hs;exact False.elim q
end
section
variable{X:Cx}{k k':Nat}{ps:List Str}{sp:Sp}{x:Str}{e:Expr}{es:List Expr}{tA:TA}{p pos:Pos}
theorem eDQ(D:DfQ X.prog X.w X.K X.mg X.base x k ps sp)(hr:RoomQ k' X.A)(ha:As X (e::es) tA)(hk:k<=k':=by decide)(hg:Gl X x:=by rfl)(hdb:(x==("__debug__":Str))=false:=by decide)
  (he:starEach (e::es) X.env=(false,eval e X.env)::starEach es X.env:=by rfl) (hpl:(backTo pos (starEach es X.env)).any (·.1)=false:=by rfl):E X (.Call (.Name x p) (e::es) [] pos) (adI sp [] E0 tA):=by
 obtain⟨f,fd,len,run,hb,hm,kp⟩:=D.ex
 refine⟨fun pins s σ H Q I h=>?_⟩
 refine wpAny_Call_Name_kw (aaM I hg hm ?_ hdb)
 refine PySem.W.callWith_K (h₀:=X.base) I.ok.mod.kin kp (thn (ha.h pos pins s σ H _ I h) fun us s1 ⟨vs,H1,I1,r,q⟩=>⟨I1.kIn,?_⟩) he hpl
 have q:sp (vs++[]) H1 Q E0:=q
 rw[List.append_nil] at q
 have hl:us.length=ps.length:=by rw[←r.length];exact len _ _ _ _ q
 have hbd:=hb s1 us I1.kIn (by rw[List.append_nil];exact hl)
 rw[List.append_nil] at hbd
 refine wpAny_call (codeAny_mono (run X.A X.stack s1 H1 ⟨us,[]⟩ us vs Q (hr.mono hk) I1.env0 hbd r q) fun rr s' hq=>?_)
 cases rr with
 |error e=>exact False.elim hq
 |ok fl=>
  cases fl with
  |ret u=>exact I1.after hq
  |next=>exact False.elim hq
  |brk=>exact False.elim hq
  |cont=>exact False.elim hq
end
section
variable{X:Cx}{f:Addr}{k k':Nat}{ps:List Str}{sp:Sp}{x y e:Expr}{es:List Expr}{tA:TA}{tv:TE}{p pos:Pos}{t u:TX}
end
section
variable{M:Model}{A:Around}{E:Value->Shared->Prop}{s:Shared}{f:Obj->Prop}{B:Heap}{env:Env}{outer:List Env}{L e:Addr}{fl:Value}{Q:Unit->Shared->Prop}
end
section
variable{P:Program}{w:World}{K:PySem.W.Frag}{mg:Str->Option Value}{base:Heap}{N:List Str}{qual:Str}{scope:Scope}{f:Addr}{cd:Value}{A:Around}{outer:List Env}{s0:Shared}{H0:Hp}{E:XK}
end
section
variable{X:Cx}{elt iter tg:Expr}{xs:List Str}{pos:Pos}{ifs:List Expr}{scope:Scope}{cl:List (Str×Addr)}{N':List Str}{js:List Nat}{tt:TT}{g:TG}{wi:TI}
end
section
variable{P:Program}{w:World}{K:PySem.W.Frag}{mg:Str->Option Value}{base:Heap}{N:List Str}{qual:Str}{scope0:Scope}{f:Addr}{cd:Value}{A:Around}{outer:List Env}{s0:Shared}{H0:Hp}{E:XK}
variable{elt iter tg:Expr}{pos:Pos}{ifs:List Expr}{scope:Scope}{js:List Nat}{tt:TT}{te:TX}{g:TG}{wi:TI}
end
section
variable{js:List Nat}{σ:St}{tt:TT}{te:TX}{E:XK}{Q:VK}{H1:Hp}
end
section
variable{P:Program}{w:World}{K:PySem.W.Frag}{mg:Str->Option Value}{base:Heap}{m qual:Str}{st:Stmt}{ps N:List Str}{k:Nat}{sp:Sp}{C:Addr}
end
section
variable{X:Cx}{pins:List (Addr×Obj)}{σ:St}{H:Hp}{s:Shared}
end
section
variable{X:Cx}{E:XK}{x:Str}{C a:Addr}{e:Expr}{es:List Expr}{t:TA}{np cpos pos p2:Pos}{j k k':Nat}{ps:List Str}{sp:Sp}
end
theorem RoomQ.units{k:Nat}{A:Around}(r:RoomQ k A):A.units+64<cLine:=by have:=r.un;omega
def HQ(X:Cx)(H:Hp):Prop:=∃a C d,X.A.handled=some (.ref a)/\H a=some (xo a C d true)
section
variable{prog:Program}{w:World}{A:Around}{E:Value->Shared->Prop}{s:Shared}
theorem adV{it a:Addr}{x left step:Int}{oa:Obj}{va:Array Value}{Q:Option Value->Shared->Prop}(hh:A.handled=some (.ref a))(ho:s.heap.get? a=some oa)(hd:oa.data=.fields va)(h2:va[2]? =some .none)
  (ri:IsRangeIter s.heap it x left step) (hl:left<=0) (k:∀h',Heap.ExtBut it s.heap h'->Q none {s with heap:=h'}):wpAny (model prog w) A (pyNext (.ref it)) Q E s:=by
 have ty:s.TypeIs (.ref it) "range_iterator":=⟨_,ri,rfl⟩
 unfold pyNext
 refine wpAny_bind (wpAny_attempt (wpAny_callSpecial?_slot (name:=Str.ofString "__next__") ty F.slot_range_iterator_next (wpAny_call_entry F.slot_range_iterator_next ty F.entry_range_iterator_next ?go (F.args_range_iterator_next_1 _))))
 show wpAny _ _ (field (.ref it) 0 >>=_) _ _ s
 refine wpAny_bind (wpAny_field ri rfl (x:=rawInt x) rfl (show wpAny _ _ (field (.ref it) 1 >>=_) _ _ s from wpAny_bind (wpAny_field ri rfl (x:=rawInt left) rfl (show wpAny _ _ (field (.ref it) 2 >>=_) _ _ s from wpAny_bind (wpAny_field ri rfl (x:=rawInt step) rfl ?_)))))
 show wpAny _ _ (if left<=0 then _ else _) _ _ s
 rw[if_pos hl]
 refine wpAny_bind (wpAny_rule (wpAny_bind ?_))
 show wpAny _ _ (newExc (.type "StopIteration") [] >>=_) _ _ _
 refine wpAny_bind ?_
 simp only[newExc,newTuple]
 refine wpAny_bind (wpAny_newObj_type (wpAny_bind (m:=firstArgMember _ _) (wpAny_of_eq (a:=Value.none) (by first | rfl | (simp only[firstArgMember];rfl)) (wpAny_newObj_type ?_ (by size_fits)))) (by size_fits))
 have la:=Heap.lt_size ho
 have sz:=Heap.size_push s.heap {cls:=.type "tuple",dict:=none,data:=.seq ([]:List Value).toArray}
 generalize hh1:s.heap.push {cls:=.type "tuple",dict:=none,data:=.seq ([]:List Value).toArray}=h1 at sz ⊢
 have o1:h1.get? a=some oa:=by rw[←hh1];exact Heap.get?_push_of_some _ ho
 have x1:Heap.ExtBut it s.heap h1:=by rw[←hh1];exact (Heap.ExtBut.refl it s.heap).push _
 unfold raiseNew
 refine wpAny_bind (wpAny_handled ?_)
 first | rw[show A.in1.handled=some (.ref a) from hh] | rw[hh]
 dsimp only
 have ne:a≠h1.objs.size:=Nat.ne_of_lt (by rw[sz];exact Nat.lt_succ_of_lt la)
 rw[if_pos (by simp[ne])]
 refine wpAny_bind (wpAny_holding (aeX (oa:=oa) (va:=va) (Heap.get?_push_of_some _ o1) hd h2 ?_))
 refine wpAny_bind (wpAny_setField (Heap.get?_push_size _ rfl) rfl (by rw[Array.size_append];exact Nat.lt_of_lt_of_le (show 2<6 by decide) (Nat.le_add_right _ _)) (wpAny_throw ?_))
 refine wpAny_bind (wpAny_isInstance (T:="StopIteration") (b:=true) ⟨_,Heap.get?_update_self _ (Heap.get?_push_size _ rfl) rfl,rfl⟩ isSubtype_stop ?_)
 rw[if_pos rfl]
 exact wpAny_pure (k _ fun b o hb e=>(Heap.get?_update_other _ _ (Ne.symm (Nat.ne_of_lt (Heap.lt_size (x1 b o hb e))))).trans (Heap.get?_push_of_some _ (x1 b o hb e)))
end
structure TurnQ(P:Program)(w:World)(tg:Expr)(J:It)(fp:List Addr)(it:Addr)(tn:Nat->Heap->Prop):Prop where
 obj:∀i h,tn i h->∀b∈fp,∃o,h.get? b=some o/\∀v,o.data≠ .cell v
 keep:∀i h h',tn i h->(∀b∈fp,∀o,h.get? b=some o->h'.get? b=some o)->tn i h'
 item:∀(X:Cx),X.prog=P->X.w=w->∀(i:Nat) (pins:List (Addr×Obj)) (s:Shared) (σ:St) (H:Hp) (E:Value->Shared->Prop),Inv X pins σ H s->(∀b∈fp,abA X pins H b)->tn i s.heap->J.go i H->
  wpAny (model P w) X.A (pyNext (.ref it)) (fun r s1=>∃u,r=some u/\
   wpAny (model P w) X.A (letOwnedTupleGo tg (.ref it) u) (fun _ s2=>∃x H',Inv X pins σ H' s2/\RelV x u/\J.yld i H x H'/\tn (i+1) s2.heap/\∀b∈fp,H' b=none) E s1) E s
 done:∀(X:Cx),X.prog=P->X.w=w->∀(i:Nat) (pins:List (Addr×Obj)) (s:Shared) (σ:St) (H:Hp) (E:Value->Shared->Prop),Inv X pins σ H s->(∀b∈fp,abA X pins H b)->tn i s.heap->J.stop i H->HQ X H->
  wpAny (model P w) X.A (pyNext (.ref it)) (fun r s1=>r=none/\Inv X pins σ H s1) E s
 self:∀(A:Around) (i:Nat) (s:Shared) (Q:Value->Shared->Prop) (E:Value->Shared->Prop),tn i s.heap->Q (.ref it) s->wpAny (model P w) A (pyIter (.ref it)) Q E s
theorem aiO{P:Program}{w:World}{tg:Expr}(it:Addr)(n:Nat):TurnQ P w tg (Itr 0 n) [it] it (fun i h=>IsRangeIter h it ((0:Int)+(i:Nat)*1) ((n:Int)-(i:Nat)) 1) where
 obj:=fun i h st b hb=>by
  obtain rfl:b=it:=by simpa using hb
  exact⟨_,st,fun v z=>by
   have z':Data.fields _=Data.cell v:=z
   cases z'⟩
 keep:=fun i h h' st k=>k it (by simp) _ st
 item:=by
  intro X hP hw i pins s σ H E I hf hst hg
  subst hP hw
  obtain⟨f0,f1,f2,f3,f4,f5⟩:=hf it (by simp)
  refine wpAny_pyNext_range_item hst (by have:i<n:=hg;omega) fun h' st' sb=>?_
  have I1:Inv X pins σ H {s with heap:=h',toks:=s.toks+1}:=I.turned (fun b o hb e=>(sb.2 b hb).trans e) f0 f1 f3 f4 f5
  have st2:IsRangeIter h' it ((0:Int)+((i+1:Nat):Int)*1) ((n:Int)-((i+1:Nat):Int)) 1:=by
   have e1:(0:Int)+((i+1:Nat):Int)*1=0+(i:Int)*1+1:=by omega
   have e2:(n:Int)-((i+1:Nat):Int)=(n:Int)-(i:Int)-1:=by omega
   rw[e1,e2]
   exact st'
  exact⟨_,rfl,agB (s:={s with heap:=h',toks:=s.toks+1}) (n:="range_iterator") st2 rfl rfl (by decide) ⟨.int (0+(i:Int)),H,I1,⟨s.toks,by rw[Int.mul_one]⟩,⟨rfl,rfl⟩,st2,fun b hb=>(hf b hb).1⟩⟩
 done:=by
  intro X hP hw i pins s σ H E I hf st hg ⟨a,C,d,hh,ha⟩
  subst hP hw
  obtain⟨f0,f1,f2,f3,f4,f5⟩:=hf it (by simp)
  obtain⟨oa,hoa,_,_,va,hda,hva⟩:=(I.hok a _ ha).1
  exact adV hh hoa hda (hva rfl) st (by have:n<=i:=hg;omega) fun h' eb=>⟨rfl,I.turned (t':=s.toks) (fun b o hb e=>eb b o hb e) f0 f1 f3 f4 f5⟩
 self:=fun _ _ _ _ _ st h=>wpAny_pyIter_rangeiter st h
section
variable{X:Cx}{elt iter:Expr}{x:Str}{px pos:Pos}{ifs:List Expr}{scope:Scope}{cl:List (Str×Addr)}{N':List Str}{js:List Nat}{tt:TT}{te:TE}
theorem acR{pins:List (Addr×Obj)}{σ:St}{H:Hp}{s:Shared}{Q:VK}{RR:Value->Addr->Result->Shared->Prop}{J:It}{fp:List Addr}{it:Addr}{tn:Nat->Heap->Prop}
  (hcl:Clos X scope cl) (hx:scope.names.lookup x=some .local) (hnd:(x::N').Nodup) (hN:js.map (fun j=>X.N[j]?)=N'.map some)
  (hk:N'.all (fun y=>(X.env.kindOf y==some .cell)||(X.env.kindOf y==some .free))=true) (hf:N'.all (fun y=>scope.names.lookup y==some .free)=true)
  (ht:∀(C:Addr) (ex:List Addr) (pins:List (Addr×Obj)) (s:Shared) (H:Hp),PF (aaI X (x::N') scope cl C ex pins s H) ifs tt)
  (he:∀(C:Addr) (ex:List Addr) (pins:List (Addr×Obj)) (s:Shared) (H:Hp),PE (aaI X (x::N') scope cl C ex pins s H) elt te)
  (I:Inv X pins σ H s) (T:TurnQ X.prog X.w (.Name x px) J fp it tn) (st:tn 0 s.heap) (hfp:∀b∈fp,abA X pins H b)
  (q:∀D,H D=none->∃W:Nat->Nat->Hp->Prop,(∃m,W 0 m (upd H D (.lst [])))/\∀i m H2,W i m H2->
   (J.stop i H2/\HQ X H2/\Q (.ref D) H2)∨(J.go i H2/\∀v H3,J.yld i H2 v H3->tt (some v::aaP js σ) H3 fun b H4=>if b=true then
    te (some v::aaP js σ) H4 fun y H5=>∃ys,H5 D=some (.lst ys)/\ys.length<sizeLine/\∃m',m'<m/\W (i+1) m' (upd H5 D (.lst (ys++[y])))
    else ∃m',m'<m/\W (i+1) m' H4))
  (hRR:∀(D C:Addr) (s':Shared) (H':Hp) (m:Str->Option Value),Inv X pins σ H' s'->H' C=none->C≠X.env.locals->X.s₀.heap.objs.size<=C->(∀y c,X.env.cells.lookup y=some c->c≠C)->(∀p∈X.pn++pins,p.1≠C)->s'.heap.Ns C m->Q (.ref D) H'->RR (.ref D) C (.ok .next) s'):
  wpAny (model X.prog X.w) X.A (newList []) (fun acc s₃=>wpAny (model X.prog X.w) X.A (newFunctionEnv scope X.env.globals cl [] X.env.qual none .none (some X.env)) (fun cenv s₄=>
   codeAny (model X.prog X.w) X.A (.compStart (.ListComp elt [⟨.Name x px,iter,ifs,0⟩] scope pos) 0 (.ref it) acc {cenv with scope:=relabel scope X.env}) (RR acc cenv.locals) s₄) X.xe s₃) X.xe s:=by
 refine wpAny_newObj_type ?_
 have hD:H s.heap.objs.size=none:=I.hok.fresh (Nat.le_refl _)
 have I3:Inv X pins σ (upd H s.heap.objs.size (.lst [])) {s with heap:=s.heap.push {cls:=.type "list",dict:=none,data:=.seq ([]:List Value).toArray} }:=I.lnew (its:=[]) (t':=s.toks) .nil (Nat.zero_le _)
 have hfp3:∀b∈fp,abA X pins (upd H s.heap.objs.size (.lst [])) b/\b<(s.heap.push {cls:=.type "list",dict:=none,data:=.seq ([]:List Value).toArray}).objs.size:=fun b hb=>by
  obtain⟨o,ho,_⟩:=T.obj 0 _ st b hb
  have hlt:=Heap.lt_size ho
  obtain⟨f0,f1⟩:=hfp b hb
  exact⟨⟨by rw[aaD (Nat.ne_of_lt hlt)];exact f0,f1⟩,by rw[Heap.size_push];exact Nat.lt_succ_of_lt hlt⟩
 have st3:tn 0 (s.heap.push {cls:=.type "list",dict:=none,data:=.seq ([]:List Value).toArray}):=T.keep _ _ _ st fun b _ o e=>Heap.get?_push_of_some _ e
 obtain⟨W,⟨m0,w0⟩,turn⟩:=q s.heap.objs.size hD
 generalize hs3:({s with heap:=s.heap.push {cls:=.type "list",dict:=none,data:=.seq ([]:List Value).toArray} }:Shared)=s3 at I3 ⊢
 have hh3:s.heap.push {cls:=.type "list",dict:=none,data:=.seq ([]:List Value).toArray}=s3.heap:=by rw[←hs3]
 rw[hh3] at hfp3 st3
 generalize s.heap.objs.size=D at I3 hfp3 w0 turn hD ⊢
 generalize upd H D (.lst [])=H3 at I3 hfp3 w0
 refine wpAny_newFunctionEnv hcl.nocell (by intro y hy;simp at hy) (fun h₁ hns₁ hsb₁=>?_) hcl.kind
 have hkeep:∀b o,s3.heap.get? b=some o->h₁.get? b=some o:=fun b o e=>hsb₁.extBut b o (Nat.ne_of_lt (Heap.lt_size e)) (Heap.get?_push_of_some _ e)
 have J4:Inv (aaI X (x::N') scope cl s3.heap.objs.size fp pins s3 H3) [] (none::aaP js σ) H3 {s3 with heap:=h₁,toks:=s3.toks+([]:List (Str×Value)).length}:=
  ac5 hcl hN hk hf I3 hfp3 rfl rfl rfl hkeep hns₁
 have st4:tn 0 h₁:=T.keep _ _ _ st3 fun b _ o e=>hkeep b o e
 have cell':∀{s':Shared} {σ':St} {H':Hp},Inv (aaI X (x::N') scope cl s3.heap.objs.size fp pins s3 H3) [] σ' H' s'->Q (.ref D) H'->RR (.ref D) s3.heap.objs.size (.ok .next) s':=fun {s' σ' H'} J hq=>by
  obtain⟨m,hn,_⟩:=J.loc
  refine hRR D _ s' H' m (aeE I3 (fun b hb=>(hfp3 b hb).1) J) J.free (Nat.ne_of_gt I3.lt) I3.sz (fun y c e z=>?_) (fun p hp z=>?_) hn hq
  ·obtain⟨v,k⟩:=I3.cell y c e
   exact absurd k.lt (by rw[z];exact Nat.lt_irrefl _)
  ·exact absurd (Heap.lt_size (I3.pin p hp).1) (by rw[z];exact Nat.lt_irrefl _)
 have fpX:∀{H':Hp},(∀b∈fp,H' b=none)->∀b∈fp,abA (aaI X (x::N') scope cl s3.heap.objs.size fp pins s3 H3) [] H' b:=fun {H'} hn b hb=>by
  obtain⟨⟨f0,f1,f2,f3,f4,f5⟩,flt⟩:=hfp3 b hb
  refine⟨hn b hb,Nat.ne_of_lt flt,fun z=>?_,.inl hb,fun y c e=>f4 y c (hcl.sub y c e),fun p hp=>?_⟩
  ·rcases List.mem_cons.mp (I3.stkSub b z) with z | z
   ·exact f1 z
   ·exact f2 z
  ·have hp:p∈(X.pn++pins)++[]:=hp
   rw[List.append_nil] at hp
   exact f5 p hp
 have loop:∀s₄:Shared,s₄={s3 with heap:=h₁,toks:=s3.toks+([]:List (Str×Value)).length}->
   codeAny (model X.prog X.w) X.A (.compLoop (.ListComp elt [⟨.Name x px,iter,ifs,0⟩] scope pos) 0 (.ref it) (.ref D) (compEnvC scope cl s3.heap.objs.size X.env)) (RR (.ref D) s3.heap.objs.size) s₄:=by
  rintro s₄ rfl
  refine ac7 rfl (fun n s'=>∃i σ0 H',Inv (aaI X (x::N') scope cl s3.heap.objs.size fp pins s3 H3) [] (σ0::aaP js σ) H' s'/\tn i s'.heap/\(∀b∈fp,H' b=none)/\W i n H') ?_ m0 ⟨0,none,H3,J4,st4,fun b hb=>(hfp3 b hb).1.1,w0⟩
  rintro n s5 ⟨i,σ0,H5,J5,st5,fr5,w5⟩
  rcases turn i n H5 w5 with ⟨stop,hq5,qn⟩ | ⟨go,step⟩
  ·refine wpAny_mono (T.done (aaI X (x::N') scope cl s3.heap.objs.size fp pins s3 H3) rfl rfl i [] s5 _ H5 (fun _ _=>False) J5 (fpX fr5) st5 stop hq5) (fun r s6 ⟨hr,J6⟩=>?_) fun _ _ z=>z.elim
   subst hr
   exact cell' J6 qn
  ·refine wpAny_mono (T.item (aaI X (x::N') scope cl s3.heap.objs.size fp pins s3 H3) rfl rfl i [] s5 _ H5 (fun _ _=>False) J5 (fpX fr5) st5 go) (fun r s6 ⟨u,hr,h6⟩=>?_) fun _ _ z=>z.elim
   subst hr
   refine wpAny_mono h6 (fun _ s6' h6'=>?_) fun _ _ z=>z.elim
   obtain⟨v,H6,J6,r6,y6,st6,fr6⟩:=h6'
   clear h6
   have J6':=J6.pinned (fpX fr6) (T.obj _ _ st6)
   show wpAny _ _ (assign (.Name x px) _ u) _ _ _
   refine wpAny_assign_Name (aa9 (i:=0) J6' hnd rfl (.inl (lookup_relabel_local hx)) r6 (fun s7 J7=>?_) (.inr (lookup_relabel_local hx)))
   have J7:Inv (aaI X (x::N') scope cl s3.heap.objs.size fp pins s3 H3) ([]++abC fp s6'.heap) (some v::aaP js σ) H6 s7:=J7
   have again:∀{σ8:St} {H8:Hp} {s8:Shared},Inv (aaI X (x::N') scope cl s3.heap.objs.size fp pins s3 H3) ([]++abC fp s6'.heap) σ8 H8 s8->tn (i+1) s8.heap/\∀b∈fp,H8 b=none:=fun {σ8 H8 s8} J8=>by
    refine⟨T.keep _ _ _ st6 fun b hb o e=>(J8.pin (b,o) (List.mem_append_right _ (List.mem_append_right _ (aaQ hb e)))).1,fun b hb=>?_⟩
    obtain⟨o,e,d⟩:=T.obj _ _ st6 b hb
    exact (J8.pin (b,o) (List.mem_append_right _ (List.mem_append_right _ (aaQ hb e)))).2.1
   refine wpAny_mono (ht _ _ _ _ _ _ s7 _ H6 _ J7 (step v H6 y6)) (fun ok s8 ⟨H8,J8,q8⟩=>?_) fun _ _ z=>z.elim
   cases ok with
   |false=>
    obtain⟨m',hm,w8⟩:=(show ∃m',m'<n/\W (i+1) m' H8 from q8)
    obtain⟨a1,a2⟩:=again J8
    exact⟨m',hm,i+1,some v,H8,J8.unpinned,a1,a2,w8⟩
   |true=>
    refine wpAny_mono (he _ _ _ _ _ _ s8 _ H8 _ J8 q8) (fun y s9 ⟨z,H9,J9,r9,ys,hys,hlen,m',hm,w9⟩=>?_) fun _ _ z=>z.elim
    refine wpAny_mono (adP (X:=aaI X (x::N') scope cl s3.heap.objs.size fp pins s3 H3) _ s9 _ H9 (.ref D) [z] (.ref D) [y] (fun _ H10=>H10=upd H9 D (.lst (ys++[z]))) J9 rfl (.cons r9 .nil) ⟨D,ys,z,rfl,rfl,hys,hlen,rfl⟩) (fun _ s10 ⟨_,H10,J10,_,e10⟩=>?_) fun _ _ z=>z.elim
    subst e10
    obtain⟨a1,a2⟩:=again J10
    exact⟨m',hm,i+1,some v,_,J10.unpinned,a1,a2,w9⟩
 exact codeAny_compStart_list (loop _ rfl) (T.self _ 0 _ _ _ st4 (loop _ rfl))
end
def ae0(X:Cx)(J:It)(js:List Nat)(σ:St)(tt:TT)(te:TE)(Q:VK)(H1:Hp):Prop:=∀D,H1 D=none->∃W:Nat->Nat->Hp->Prop,(∃m,W 0 m (upd H1 D (.lst [])))/\∀i m H2,W i m H2->
 (J.stop i H2/\HQ X H2/\Q (.ref D) H2)∨(J.go i H2/\∀v H3,J.yld i H2 v H3->tt (some v::aaP js σ) H3 fun b H4=>if b=true then
  te (some v::aaP js σ) H4 fun y H5=>∃ys,H5 D=some (.lst ys)/\ys.length<sizeLine/\∃m',m'<m/\W (i+1) m' (upd H5 D (.lst (ys++[y])))
  else ∃m',m'<m/\W (i+1) m' H4)
def agY(X:Cx)(tA:TA)(js:List Nat)(tt:TT)(te:TE):TE:=fun σ H Q=>tA σ H fun vs H1=>∃j:Int,vs=[.int j]/\ -(2^62)<=j/\j<2^62/\ae0 X (Itr 0 j.toNat) js σ tt te Q H1
section
variable{X:Cx}{elt a1:Expr}{x:Str}{px pos p rpos:Pos}{ifs:List Expr}{scope:Scope}{js:List Nat}{tt:TT}{te:TE}{tA:TA}
theorem ad0{pins:List (Addr×Obj)}{σ:St}{H:Hp}{s:Shared}{R:Value->Shared->Prop}{E:Value->Shared->Prop}{hi:Int}{t u v:Tok}{tk:Nat}(I:Inv X pins σ H s)(h3: -(2^62)<=hi)(h4:hi<2^62)
  (q:∀it s2,Inv X pins σ H s2->IsRangeIter s2.heap it ((0:Int)+((0:Nat):Int)*1) (((hi.toNat:Nat):Int)-((0:Nat):Int)) 1->abA X pins H it->R (.ref it) s2):
  wpAny (model X.prog X.w) X.A (pyIter (.ref s.heap.objs.size)) R E {s with heap:=s.heap.push {cls:=.type "range",data:=.fields #[.int 0 t,.int hi u,.int 1 v]},toks:=tk}:=by
 refine wpAny_pyIter_range (IsRange.new ..) (small_one (by omega) (by omega) h3 h4) ?_
 have I1:Inv X pins σ H {s with heap:=s.heap.push {cls:=.type "range",data:=.fields #[.int 0 t,.int hi u,.int 1 v]},toks:=tk}:=I.kept fun b o e=>Heap.get?_push_of_some _ e
 refine q _ _ (I1.kept (t':=tk) fun b o e=>Heap.get?_push_of_some _ e) ?_ (I1.fpOk (Nat.le_refl _) (I1.hok.fresh (Nat.le_refl _)))
 have e1:(0:Int)+((0:Nat):Int)*1=0:=by simp
 have e2:((hi.toNat:Nat):Int)-((0:Nat):Int)=Builtin.Range.rangeSize 0 hi 1:=by rw[rangeSize_one];split<;>omega
 rw[e1,e2]
 exact Heap.get?_push_size _ rfl
theorem ahM(N':List Str)(js:List Nat)(hm:X.mg "range"=none)(ha:As X [a1] tA)
  (ht:∀(cl:List (Str×Addr)) (C:Addr) (ex:List Addr) (pins:List (Addr×Obj)) (s:Shared) (H:Hp),Fs (aaI X (x::N') scope cl C ex pins s H) ifs tt)
  (he:∀(cl:List (Str×Addr)) (C:Addr) (ex:List Addr) (pins:List (Addr×Obj)) (s:Shared) (H:Hp),E (aaI X (x::N') scope cl C ex pins s H) elt te)
  (hg:Gl X "range":=by rfl) (hsa:starEach [a1] X.env=[(false,eval a1 X.env)]:=by rfl)
  (hcl:∃cl,Clos X scope cl:=by exact afT rfl rfl rfl rfl) (hx:scope.names.lookup x=some .local:=by rfl) (hnd:(x::N').Nodup:=by decide +kernel) (hN:js.map (fun j=>X.N[j]?)=N'.map some:=by rfl)
  (hk:N'.all (fun y=>(X.env.kindOf y==some .cell)||(X.env.kindOf y==some .free))=true:=by rfl) (hf:N'.all (fun y=>scope.names.lookup y==some .free)=true:=by rfl)
  (hs:∀x,foldedSetIterable (.Call (.Name "range" p) [a1] [] rpos) X.env x=pure x:=by intro _;rfl):E X (.ListComp elt [⟨.Name x px,.Call (.Name "range" p) [a1] [] rpos,ifs,0⟩] scope pos) (agY X tA js tt te):=by
 obtain⟨cl,hcl⟩:=hcl
 refine⟨fun pins s σ H Q I h=>?_⟩
 rw[eval_ListComp]
 refine wpAny_comprehension_free (use:=none) rfl hs hcl.is hcl.kind hcl.names ?_
 refine Call_ (abP I hg hm boot_range (PyProof.Rows.callWith_type1 (thn (ha.h rpos pins s σ H _ I h) fun us s1 ⟨vs,H1,I1,r1,q1⟩=>?_) hsa rfl))
 obtain⟨j,e,b1,b2,q⟩:=q1
 subst e
 cases r1 with
 |cons r rr=>
  cases rr
  obtain⟨t,rfl⟩:=r
  refine call_range_1 (ad0 I1 b1 b2 fun it s2 I2 st fpo=>?_)
  refine acR (RR:=fun acc C=>compPost (model X.prog X.w) X.A X.xe none (EP X pins σ Q) acc C) (fp:=[it]) hcl hx hnd hN hk hf (fun C ex pins s H=>(ht cl C ex pins s H).h) (fun C ex pins s H=>(he cl C ex pins s H).h) I2 (aiO it j.toNat) st (fun b hb=>by
   obtain rfl:b=it:=by simpa using hb
   exact fpo) q ?_
  intro D C s' H' m I' hC0 hCL hCs hCc hCp hn hq
  refine⟨m,hn,fun h' sb=>⟨.ref D,H',?_,rfl,hq⟩⟩
  exact I'.turned (t':=s'.toks) (fun b o hb e=>(sb.2 b hb).trans e) hC0 hCL (.inr hCs) hCc hCp
end
theorem ai6{X:Cx}{js:List Nat}{σ:St}{te:TE}{Q:VK}{H1:Hp}{n:Nat}(f:Nat->V)(hn:n<=sizeLine)(hq:HQ X H1)
  (hs:∀(i:Nat) (H2:Hp) (F:V->Hp->Prop),i<n->Same H1 H2->(∀H5,Same H2 H5->F (f i) H5)->te (some (.int (0+i))::aaP js σ) H2 F)
  (hd:∀(D:Addr) (H2:Hp),H1 D=none->Same H1 H2->H2 D=some (.lst ((List.range n).map f))->Q (.ref D) H2):ae0 X (Itr 0 n) js σ agT te Q H1:=by
 intro D hD
 refine⟨fun i m H2=>m=n-i/\i<=n/\Same H1 H2/\H2 D=some (.lst ((List.range i).map f)),⟨n,by simp,Nat.zero_le _,aaC hD _,aaA⟩,?_⟩
 rintro i m H2 ⟨rfl,hi,s2,h2⟩
 by_cases hlt:i<n
 ·refine .inr ⟨hlt,fun v H3 y=>?_⟩
  obtain⟨e,ev⟩:=y
  subst e ev
  refine hs i _ _ hlt s2 fun H5 s5=>⟨_,s5 _ _ h2,by rw[List.length_map,List.length_range];omega,n-(i+1),by omega,rfl,hlt,aeH hD (s2.trans s5),?_⟩
  rw[aaA,List.range_succ,List.map_append]
  rfl
 ·obtain rfl:i=n:=by omega
  obtain⟨a,C,d,hh,ha⟩:=hq
  exact .inl ⟨Nat.le_refl _,⟨a,C,d,hh,s2 _ _ ha⟩,hd D H2 hD s2 h2⟩
section
variable{X:Cx}{pins:List (Addr×Obj)}{σ:St}{H:Hp}{s:Shared}
theorem Inv.lostOne{i:Nat}{n:Str}{h':Heap}{m:Str->Option Value}{v0:Option Value}{t:Nat}(I:Inv X pins σ H s)(hN:X.N.Nodup)(hi:X.N[i]? =some n)
  (hl:∀(j:Nat) (y:Str) (v':V),X.N[j]? =some y->σ[j]? =some (some v')->Vis X.env.scope y->∃u,RelV v' u/\aiQ X.env s.heap m y u)
  (hn:h'.Ns X.env.locals (fun x=>if x=n then v0 else m x)) (hs:Heap.SameBut X.env.locals s.heap h'):Inv X pins (σ.set i none) H {s with heap:=h',toks:=t}:=by
 have nl:∀b o,X.s₀.heap.get? b=some o->b≠X.env.locals:=fun b o e=>Nat.ne_of_lt (Nat.lt_of_lt_of_le (Heap.lt_size e) I.ok.above)
 refine⟨I.ok,I.os,I.bare,⟨fun b o e n hb hx=>(hs.2 b (nl b o e)).trans (I.base.keep b o e n hb hx),fun b o e n hb hx=>?_,I.base.free,fun b o e hx=>?_,I.base.tups,I.base.frzs,I.base.tbls⟩,⟨_,hn,fun j y v' e1 e2 e3=>?_⟩,fun y c e=>?_,I.free,I.freeC,fun p hp=>?_,fun b ob e=>?_,by rw[List.length_set];exact I.len⟩
 ·obtain⟨sl,e1⟩:=I.base.slot b o e n hb hx
  exact⟨sl,(hs.2 b (nl b o e)).trans e1⟩
 ·obtain⟨o',e1⟩:=I.base.there b o e hx
  exact⟨o',(hs.2 b (nl b o e)).trans e1⟩
 ·by_cases hj:j=i
  ·subst hj
   rw[List.getElem?_set_self (by rw[I.len];exact (List.getElem?_eq_some_iff.mp hi).1)] at e2
   cases e2
  ·rw[List.getElem?_set_ne (Ne.symm hj)] at e2
   have ny:y≠n:=fun z=>hj (abQ hN (z▸e1) hi)
   obtain⟨u,r,k⟩:=hl j y v' e1 e2 e3
   refine⟨u,r,?_⟩
   rcases k with ⟨k1,k2⟩ | ⟨k1,c,k2,k3⟩
   ·exact .inl ⟨k1,by show (if y=n then v0 else m y)=some u;rw[if_neg ny];exact k2⟩
   ·exact .inr ⟨k1,c,k2,k3.sameBut hs (I.cne y c k2)⟩
 ·obtain⟨w',z⟩:=I.cell y c e
  exact⟨w',z.sameBut hs (I.cne y c e)⟩
 ·obtain⟨e,n,ne,nf,d⟩:=I.pin p hp
  exact⟨(hs.2 p.1 ne).trans e,n,ne,nf,d⟩
 ·refine (I.hok b ob e).stay (fun c w' hc q=>(hs.2 c ?_).trans q) (fun _ q=>q) fun _ _ q=>q
  rintro rfl
  rcases hc with rfl | hc
  ·rw[I.free] at e;cases e
  ·rw[I.free] at hc;cases hc
end
def afC(ok:Addr->Prop)(i:Nat)(tb:TB)(th:Addr->TS):TS:=fun D σ H=>∃E:XK,tb D σ H E/\∀C d b H',E (cv C b) d H'->ok C/\∀a,H' a=none->th a {nx:=fun σ' H2=>D.nx (σ'.set i none) H2,rt:=D.rt} (σ.set i (some (.ref a))) (upd H' a (xo a C d b))
section
variable{X:Cx}{body suite:List Stmt}{b0:Stmt}{tb:TB}{th:Addr->TS}{cx n:Str}{np hpos pos:Pos}{CF:Addr}
theorem afL(i:Nat)(hm:X.mg cx=some (.ref CF))(hB:PySem.W.subIn X.K (.ref CF) (.type "BaseException")=some true)(hb:Pb X body tb)(hs:∀a,Ss (X.hnd a) (b0::suite) (th a))(hN:X.N.Nodup)
  (hi:X.N[i]? =some n:=by rfl) (hl:X.env.kindOf n=some .local:=by rfl) (hst:X.stack=X.env::X.outer:=by rfl) (hfr:X.env.frame=some X.env.locals:=by rfl) (hg:Gl X cx:=by rfl) (hdb:(cx==("__debug__":Str))=false:=by decide):
  S X (.Try body [.ExceptHandler (some (.Name cx np)) (some n) (b0::suite) hpos] [] [] pos) (afC (fun C=>PySem.W.kitCls X.K (.ref C) (.ref CF)=some true) i tb th):=by
 refine⟨fun pins s σ H D I ⟨E,hw,hh⟩=>?_⟩
 refine wpAny_Try_except (wpAny_mono (hb.h pins s σ H D E I hw) (fun f s1 q=>?_) fun e s1 hx=>?_)
 ·cases f with
  |next=>exact wpAny_execs_nil q
  |ret v=>exact q
  |brk=>exact q
  |cont=>exact q
 obtain⟨s0,H0,I0,a,C,d,bb,H',rfl,os,bare,un,hok,fly,qE⟩:=hx
 obtain⟨hC,hh⟩:=hh C d bb H' qE
 have I1:Inv X pins σ H' s1:=I0.call' os un hok bare (fun _ z=>nomatch z)
 obtain⟨T,hT,fl⟩:=fly.flying I1.stack
 have hid:∀b∈frs X.stack++[a,T],b∈frs X.stack∨(H' b=none/\s0.heap.get? b=none):=fun b hb=>by
  rcases List.mem_append.mp hb with z | z
  ·exact .inl z
  ·rcases List.mem_cons.mp z with rfl | z
   ·exact .inr ⟨fly.1,fly.2.1⟩
   ·obtain rfl:b=T:=by simpa using z
    exact .inr hT
 have frames:X.A.frames=some (X.env::X.outer):=by rw[I.ok.frames,hst]
 have fl':=fl
 rw[hst] at fl'
 refine ae8 (agA C d bb) frames hfr (hst▸fl) fun h4 held4 sm4=>?_
 refine acJ none held4 fun h5 fl5 sm5=>?_
 obtain⟨u5,hok5,fly5⟩:=adD (fs:=frs X.stack) un hok I1.stkFree (ahJ I1.stack) (by rw[hst] at hid ⊢;exact hid) fl5 (sm4.trans sm5) fly.2.1 fly.1
 have I5:Inv X pins σ H' {s1 with heap:=h5}:=I0.call' os u5 hok5 bare (fun _ z=>nomatch z)
 refine wpAny_handleBy_cons (codeAny_handlers_test ?_) (by intro q;cases q)
 have J5:=I5.hnd a
 refine aaM (X:=X.hnd a) J5 hg hm ?_ hdb
 obtain⟨_,_,oe,vs5,_,_,_,⟨he5,_,_,hc5,_⟩,_⟩:=fly5
 refine acY J5.kIn hC hB he5 hc5 ?_
 refine codeAny_handlers_suite_as ?_
 refine acJ none fl5 fun h6 fl6 sm6=>?_
 obtain⟨u6,hok6,fly6⟩:=adD (fs:=frs X.stack) un hok I1.stkFree (ahJ I1.stack) (by rw[hst] at hid ⊢;exact hid) fl6 ((sm4.trans sm5).trans sm6) fly.2.1 fly.1
 obtain⟨u7,hok7⟩:=afF u6 hok6 fly6
 have I7:Inv X pins σ (upd H' a (xo a C d bb)) {s1 with heap:=h6}:=I0.call' os u7 hok7 bare (fun _ z=>nomatch z)
 refine aa9 (X:=X.hnd a) (I7.hnd a) hN hi (.inl hl) (show RelV (.ref a) (.ref a) from rfl) (fun s8 I8=>?_) (.inr hl)
 refine wpAny_mono ((hs a).h pins s8 _ _ _ I8 (hh a fly.1)) (fun f s9 q=>?_) fun _ _ z=>False.elim z
 cases f with
 |next=>
  obtain⟨σ',H3,I9,q⟩:=q
  have I9':Inv X pins σ' H3 s9:=I9.unhnd I.ok
  obtain⟨m9,hn9,hl9⟩:=I9'.loc
  refine wpAny_nameGoes_keeps hl hn9 (by rw[I.ok.kind];rfl) fun h' v' hn' hs'=>?_
  exact⟨_,H3,I9'.lostOne hN hi hl9 hn' hs',q⟩
 |brk=>obtain⟨_,_,_,q⟩:=q;exact False.elim q
 |cont=>obtain⟨_,_,_,q⟩:=q;exact False.elim q
 |ret u=>
  obtain⟨v,σ',H3,I9,r,q⟩:=q
  have I9':Inv X pins σ' H3 s9:=I9.unhnd I.ok
  obtain⟨m9,hn9,_⟩:=I9'.loc
  refine wpAny_nameGoes hl hn9 (by rw[I.ok.kind];rfl) fun h' m' hn' hs'=>?_
  exact⟨v,_,H3,I9'.lost hn' hs',r,q⟩
end
section
variable{X:Cx}{E:XK}{x:Str}{C:Addr}{np cpos pos:Pos}
theorem ag0(hM:aeQ X E)(c:Xc X.K X.mg x C)(hex:X.ex=[]:=by rfl)(hc:X.calm=true:=by rfl)(hg:Gl X x:=by rfl)(hdb:(x==("__debug__":Str))=false:=by decide):
  S X (.Raise (some (.Call (.Name x np) [] [] cpos)) none pos) (ac4 C E ag9):=by
 refine⟨fun pins s σ H D I h=>?_⟩
 obtain⟨tl,N,_,_,_,_,_,_,_,_,_,_,_,_,_,_,mN,hC,hN,no,T⟩:=(c.own I.ok.mod X.prog).obj
 have pl:(backTo cpos (starEach [] X.env)).any (·.1)=false:=rfl
 refine' wpAny_Raise_call_subT (N:=N) (bm:=tl) (mN:=mN) PySem.F.excBase_ValueError (T.hasType (by decide)) (I.ok.hd hc) pl no (aaM I hg c.m ⟨rfl,?main⟩ hdb)
 case main=>
  obtain⟨hz,q⟩:=h
  refine PySem.evalArgs_none ⟨rfl,hz,I.bk _ _ hC,hN.keeps I.bk,T.keeps I.bk,fun h' a mk=>?_⟩
  obtain⟨t0,there,_,_⟩:=mk.there
  obtain⟨Ha,ga⟩:=I.newX hex mk.new
  exact hM pins σ H {s with heap:=h'} a C none true _ _ (I.kept (t':=s.toks) mk.keeps) Ha ga there rfl rfl ⟨rfl,rfl,_,rfl,fun _=>rfl⟩ q
end
end L2
namespace K19
open PySem PySem.Spec PyProof.Rows L2
def top(i:Nat):Stmt:=PySem.Challenge.pw_fivefields_k19_refusals_apart.main.body.getD i (.Pass ⟨0,0,0,0⟩)
abbrev aaL:Stmt:=acN (top 4) 0
abbrev aaO:Stmt:=acN (top 5) 0
abbrev aaN:Stmt:=acN (top 8) 0
abbrev aaU:Stmt:=top 11
abbrev aa4:Stmt:=top 12
abbrev aa6:Stmt:=top 13
abbrev aaY:Stmt:=top 14
abbrev abE:Stmt:=top 15
abbrev acD:Stmt:=top 16
theorem acA{H H1:Hp}{e dx:Addr}{o u1 u2:HO}(s:Same H H1)(he:H1 e=none)(hd:upd H1 e u1 dx=none)(ne:dx≠e):Same H (rem (upd (upd (upd H1 e u1) dx o) e u2) e)/\rem (upd (upd (upd H1 e u1) dx o) e u2) e dx=some o:=by
 have n1:H1 dx=none:=by rw[aaD ne] at hd;exact hd
 refine⟨fun b v hb=>?_,by rw[abS ne,aaD ne,aaA]⟩
 have hb1:=s b v hb
 rw[abS (aaF hb1 he),aaD (aaF hb1 he),aaD (aaF hb1 n1),aaD (aaF hb1 he)]
 exact hb1
def DX(way:Nat)(num:Int)(l:List Nat)(d:Option Addr)(H:Hp):Prop:=match way with
 |2=>∃dx,d=some dx/\H dx=some (.xd [(("at":Str),.int num)])
 |3=>∃dx,d=some dx/\H dx=some (.xd [(("place":Str),.int num)])
 |6=>∃dx,d=some dx/\H dx=some (.xd [(("name":Str),.str (Tx l))])
 |_=>d=none
theorem DX.keep{way:Nat}{num:Int}{l:List Nat}{d:Option Addr}{H H':Hp}(s:Same H H')(h:DX way num l d H):DX way num l d H':=by
 unfold DX at h ⊢
 split at h
 ·obtain⟨dx,e,z⟩:=h;exact⟨dx,e,s _ _ z⟩
 ·obtain⟨dx,e,z⟩:=h;exact⟨dx,e,s _ _ z⟩
 ·obtain⟨dx,e,z⟩:=h;exact⟨dx,e,s _ _ z⟩
 ·exact h
theorem afH(way:Nat):((List.range 8).map fun j=>decide (j=way))=(List.range 8).map fun j:Nat=>decide (V.int (0+(j:Int))=V.int (way:Int)):=by
 refine List.map_congr_left fun j _=>decide_eq_decide.mpr ⟨fun e=>by rw[e,Int.zero_add],fun e=>?_⟩
 have e:=V.int.inj e
 omega
def aaX(K:PySem.W.Frag)(C:Addr):Sp:=fun vs H Q _=>∃(a:Addr) (v:V),vs=[.ref a,v]/\H a=some (xn a C none)/\XS K C "at"/\∀dx H',H dx=none->dx≠a->H'=upd (upd H dx (.xd [(("at":Str),v)])) a (xn a C (some dx))->Q .non H'
def aa7(K:PySem.W.Frag)(C:Addr):Sp:=fun vs H Q _=>∃(a:Addr) (v:V),vs=[.ref a,v]/\H a=some (xn a C none)/\XS K C "place"/\∀dx H',H dx=none->dx≠a->H'=upd (upd H dx (.xd [(("place":Str),v)])) a (xn a C (some dx))->Q .non H'
def aaZ(K:PySem.W.Frag)(C:Addr):Sp:=fun vs H Q _=>∃(a:Addr) (v:V),vs=[.ref a,v]/\H a=some (xn a C none)/\XS K C "name"/\∀dx H',H dx=none->dx≠a->H'=upd (upd H dx (.xd [(("name":Str),v)])) a (xn a C (some dx))->Q .non H'
def abJ(K:PySem.W.Frag):Sp:=fun vs H Q _=>∃(a:Addr) (k:Int),vs=[.ref a,.int k]/\(∃ns:List Int,SqL K H a (ns.map V.int))/\0<=k/\∀c:Int,Q (.int c) H
def ab4(K:PySem.W.Frag):Sp:=fun vs H Q _=>∃(v:V) (k:Kd),vs=[v]/\af7 K H v k/\Q (.bl k.wh) H
def abZ(K:PySem.W.Frag)(C_NoDay:Addr)(C_NoMoment:Addr)(C_NoField:Addr)(C_NoRow:Addr)(C_NoBook:Addr)(C_NoClock:Addr)(C_NoName:Addr)(C_NoWord:Addr):Sp:=fun vs H Q _=>∃(a C:Addr) (d:Option Addr) (b0:Bool) (way:Nat),vs=[.ref a]/\H a=some (xo a C d b0)/\way<8/\([C_NoDay,C_NoMoment,C_NoField,C_NoRow,C_NoBook,C_NoClock,C_NoName,C_NoWord]:List Addr)[way]? =some C/\∀(p:Addr) (H':Hp),Same H H'->H' p=some (.lst (((List.range 8).map fun j=>decide (j=way)).map V.bl))->Q (.ref p) H'
def abL(K:PySem.W.Frag)(C_NoDay:Addr)(C_NoMoment:Addr)(C_NoField:Addr)(C_NoRow:Addr)(C_NoBook:Addr)(C_NoClock:Addr)(C_NoName:Addr)(C_NoWord:Addr):Sp:=fun vs H Q E=>∃(way:Nat) (num:Int) (l:List Nat),vs=[.int way,.int num,.str (Tx l)]/\way<8/\∀(C:Addr) (d:Option Addr) (H':Hp),Same H H'->([C_NoDay,C_NoMoment,C_NoField,C_NoRow,C_NoBook,C_NoClock,C_NoName,C_NoWord]:List Addr)[way]? =some C->DX way num l d H'->E (.ref C) d H'
def acK(K:PySem.W.Frag)(C_NoDay:Addr)(C_NoMoment:Addr)(C_NoField:Addr)(C_NoRow:Addr)(C_NoBook:Addr)(C_NoClock:Addr)(C_NoName:Addr)(C_NoWord:Addr):Sp:=fun vs H Q _=>∃(a C:Addr) (d:Option Addr) (b0:Bool) (way:Nat) (num:Int) (l:List Nat),vs=[.ref a,.int way,.int num,.str (Tx l)]/\H a=some (xo a C d b0)/\way<8/\([C_NoDay,C_NoMoment,C_NoField,C_NoRow,C_NoBook,C_NoClock,C_NoName,C_NoWord]:List Addr)[way]? =some C/\DX way num l d H/\Q (.bl true) H
def sp_law(K:PySem.W.Frag):Sp:=fun vs H Q _=>∃(a:Addr) (ns:List Int),vs=[.ref a]/\SqL K H a (ns.map V.int)/\ns.length<=63/\∀H',Q (.bl true) H'
theorem aaW:FnScope ["self","at"] ["self","at"] (aaB aaL):=⟨rfl,rfl,rfl,by decide +kernel,rfl,by decide +kernel,by decide +kernel⟩
theorem aa5:FnScope ["self","place"] ["self","place"] (aaB aaO):=⟨rfl,rfl,rfl,by decide +kernel,rfl,by decide +kernel,by decide +kernel⟩
theorem aa1:FnScope ["self","name"] ["self","name"] (aaB aaN):=⟨rfl,rfl,rfl,by decide +kernel,rfl,by decide +kernel,by decide +kernel⟩
theorem abK:FnScope ["_law_script","_law_k"] ["_law_script","_law_k"] (aaB aaU):=⟨rfl,rfl,rfl,by decide +kernel,rfl,by decide +kernel,by decide +kernel⟩
theorem ab2:FnScope ["_law_found"] ["_law_found"] (aaB aa4):=⟨rfl,rfl,rfl,by decide +kernel,rfl,by decide +kernel,by decide +kernel⟩
theorem sc__law_sorts:FnScope ["_law_e","_law_some"] ["_law_e"] (aaB aa6):=⟨rfl,rfl,rfl,by decide +kernel,rfl,by decide +kernel,by decide +kernel⟩
theorem abR:FnScope ["_law_way","_law_number","_law_name"] ["_law_way","_law_number","_law_name"] (aaB aaY):=⟨rfl,rfl,rfl,by decide +kernel,rfl,by decide +kernel,by decide +kernel⟩
theorem acP:FnScope ["_law_e","_law_way","_law_number","_law_name"] ["_law_e","_law_way","_law_number","_law_name"] (aaB abE):=⟨rfl,rfl,rfl,by decide +kernel,rfl,by decide +kernel,by decide +kernel⟩
theorem sc_law:FnScope ["_law_script","_law_k","_law_cell","_law_way","_law_number","_law_name","_law_caught","_law_e"] ["_law_script"] (aaB acD):=⟨rfl,rfl,rfl,by decide +kernel,rfl,by decide +kernel,by decide +kernel⟩
structure Fs(K:PySem.W.Frag)(mg:Str->Option Value)(C_NoField C_NoRow C_NoName C_NoDay C_NoMoment C_NoBook C_NoClock C_NoWord C_FieldError:Addr):Prop where
 m_NoField:mg "NoField"=some (.ref C_NoField)
 m_NoRow:mg "NoRow"=some (.ref C_NoRow)
 m_NoName:mg "NoName"=some (.ref C_NoName)
 m_NoDay:mg "NoDay"=some (.ref C_NoDay)
 m_NoMoment:mg "NoMoment"=some (.ref C_NoMoment)
 m_NoBook:mg "NoBook"=some (.ref C_NoBook)
 m_NoClock:mg "NoClock"=some (.ref C_NoClock)
 m_NoWord:mg "NoWord"=some (.ref C_NoWord)
 m_FieldError:mg "FieldError"=some (.ref C_FieldError)
 xf_NoDay:XF K C_NoDay
 xf_NoMoment:XF K C_NoMoment
 xf_NoField:XF K C_NoField
 xf_NoRow:XF K C_NoRow
 xf_NoBook:XF K C_NoBook
 xf_NoClock:XF K C_NoClock
 xf_NoName:XF K C_NoName
 xf_NoWord:XF K C_NoWord
 ki_0_0:PySem.W.kitOne K (.ref C_NoDay) (.ref C_NoDay)=some true
 ki_0_1:PySem.W.kitOne K (.ref C_NoDay) (.ref C_NoMoment)=some false
 ki_0_2:PySem.W.kitOne K (.ref C_NoDay) (.ref C_NoField)=some false
 ki_0_3:PySem.W.kitOne K (.ref C_NoDay) (.ref C_NoRow)=some false
 ki_0_4:PySem.W.kitOne K (.ref C_NoDay) (.ref C_NoBook)=some false
 ki_0_5:PySem.W.kitOne K (.ref C_NoDay) (.ref C_NoClock)=some false
 ki_0_6:PySem.W.kitOne K (.ref C_NoDay) (.ref C_NoName)=some false
 ki_0_7:PySem.W.kitOne K (.ref C_NoDay) (.ref C_NoWord)=some false
 ki_1_0:PySem.W.kitOne K (.ref C_NoMoment) (.ref C_NoDay)=some false
 ki_1_1:PySem.W.kitOne K (.ref C_NoMoment) (.ref C_NoMoment)=some true
 ki_1_2:PySem.W.kitOne K (.ref C_NoMoment) (.ref C_NoField)=some false
 ki_1_3:PySem.W.kitOne K (.ref C_NoMoment) (.ref C_NoRow)=some false
 ki_1_4:PySem.W.kitOne K (.ref C_NoMoment) (.ref C_NoBook)=some false
 ki_1_5:PySem.W.kitOne K (.ref C_NoMoment) (.ref C_NoClock)=some false
 ki_1_6:PySem.W.kitOne K (.ref C_NoMoment) (.ref C_NoName)=some false
 ki_1_7:PySem.W.kitOne K (.ref C_NoMoment) (.ref C_NoWord)=some false
 ki_2_0:PySem.W.kitOne K (.ref C_NoField) (.ref C_NoDay)=some false
 ki_2_1:PySem.W.kitOne K (.ref C_NoField) (.ref C_NoMoment)=some false
 ki_2_2:PySem.W.kitOne K (.ref C_NoField) (.ref C_NoField)=some true
 ki_2_3:PySem.W.kitOne K (.ref C_NoField) (.ref C_NoRow)=some false
 ki_2_4:PySem.W.kitOne K (.ref C_NoField) (.ref C_NoBook)=some false
 ki_2_5:PySem.W.kitOne K (.ref C_NoField) (.ref C_NoClock)=some false
 ki_2_6:PySem.W.kitOne K (.ref C_NoField) (.ref C_NoName)=some false
 ki_2_7:PySem.W.kitOne K (.ref C_NoField) (.ref C_NoWord)=some false
 ki_3_0:PySem.W.kitOne K (.ref C_NoRow) (.ref C_NoDay)=some false
 ki_3_1:PySem.W.kitOne K (.ref C_NoRow) (.ref C_NoMoment)=some false
 ki_3_2:PySem.W.kitOne K (.ref C_NoRow) (.ref C_NoField)=some false
 ki_3_3:PySem.W.kitOne K (.ref C_NoRow) (.ref C_NoRow)=some true
 ki_3_4:PySem.W.kitOne K (.ref C_NoRow) (.ref C_NoBook)=some false
 ki_3_5:PySem.W.kitOne K (.ref C_NoRow) (.ref C_NoClock)=some false
 ki_3_6:PySem.W.kitOne K (.ref C_NoRow) (.ref C_NoName)=some false
 ki_3_7:PySem.W.kitOne K (.ref C_NoRow) (.ref C_NoWord)=some false
 ki_4_0:PySem.W.kitOne K (.ref C_NoBook) (.ref C_NoDay)=some false
 ki_4_1:PySem.W.kitOne K (.ref C_NoBook) (.ref C_NoMoment)=some false
 ki_4_2:PySem.W.kitOne K (.ref C_NoBook) (.ref C_NoField)=some false
 ki_4_3:PySem.W.kitOne K (.ref C_NoBook) (.ref C_NoRow)=some false
 ki_4_4:PySem.W.kitOne K (.ref C_NoBook) (.ref C_NoBook)=some true
 ki_4_5:PySem.W.kitOne K (.ref C_NoBook) (.ref C_NoClock)=some false
 ki_4_6:PySem.W.kitOne K (.ref C_NoBook) (.ref C_NoName)=some false
 ki_4_7:PySem.W.kitOne K (.ref C_NoBook) (.ref C_NoWord)=some false
 ki_5_0:PySem.W.kitOne K (.ref C_NoClock) (.ref C_NoDay)=some false
 ki_5_1:PySem.W.kitOne K (.ref C_NoClock) (.ref C_NoMoment)=some false
 ki_5_2:PySem.W.kitOne K (.ref C_NoClock) (.ref C_NoField)=some false
 ki_5_3:PySem.W.kitOne K (.ref C_NoClock) (.ref C_NoRow)=some false
 ki_5_4:PySem.W.kitOne K (.ref C_NoClock) (.ref C_NoBook)=some false
 ki_5_5:PySem.W.kitOne K (.ref C_NoClock) (.ref C_NoClock)=some true
 ki_5_6:PySem.W.kitOne K (.ref C_NoClock) (.ref C_NoName)=some false
 ki_5_7:PySem.W.kitOne K (.ref C_NoClock) (.ref C_NoWord)=some false
 ki_6_0:PySem.W.kitOne K (.ref C_NoName) (.ref C_NoDay)=some false
 ki_6_1:PySem.W.kitOne K (.ref C_NoName) (.ref C_NoMoment)=some false
 ki_6_2:PySem.W.kitOne K (.ref C_NoName) (.ref C_NoField)=some false
 ki_6_3:PySem.W.kitOne K (.ref C_NoName) (.ref C_NoRow)=some false
 ki_6_4:PySem.W.kitOne K (.ref C_NoName) (.ref C_NoBook)=some false
 ki_6_5:PySem.W.kitOne K (.ref C_NoName) (.ref C_NoClock)=some false
 ki_6_6:PySem.W.kitOne K (.ref C_NoName) (.ref C_NoName)=some true
 ki_6_7:PySem.W.kitOne K (.ref C_NoName) (.ref C_NoWord)=some false
 ki_7_0:PySem.W.kitOne K (.ref C_NoWord) (.ref C_NoDay)=some false
 ki_7_1:PySem.W.kitOne K (.ref C_NoWord) (.ref C_NoMoment)=some false
 ki_7_2:PySem.W.kitOne K (.ref C_NoWord) (.ref C_NoField)=some false
 ki_7_3:PySem.W.kitOne K (.ref C_NoWord) (.ref C_NoRow)=some false
 ki_7_4:PySem.W.kitOne K (.ref C_NoWord) (.ref C_NoBook)=some false
 ki_7_5:PySem.W.kitOne K (.ref C_NoWord) (.ref C_NoClock)=some false
 ki_7_6:PySem.W.kitOne K (.ref C_NoWord) (.ref C_NoName)=some false
 ki_7_7:PySem.W.kitOne K (.ref C_NoWord) (.ref C_NoWord)=some true
 xc_NoDay:Xc K mg "NoDay" C_NoDay
 xc_NoMoment:Xc K mg "NoMoment" C_NoMoment
 xc_NoBook:Xc K mg "NoBook" C_NoBook
 xc_NoClock:Xc K mg "NoClock" C_NoClock
 xc_NoWord:Xc K mg "NoWord" C_NoWord
 xs_NoField:XS K C_NoField "at"
 xj_NoField:abX K C_NoField=true
 xs_NoRow:XS K C_NoRow "place"
 xj_NoRow:abX K C_NoRow=true
 xs_NoName:XS K C_NoName "name"
 xj_NoName:abX K C_NoName=true
 xb_FieldError:PySem.W.subIn K (.ref C_FieldError) (.type "BaseException")=some true
 xk_NoDay_FieldError:PySem.W.kitCls K (.ref C_NoDay) (.ref C_FieldError)=some true
 xk_NoMoment_FieldError:PySem.W.kitCls K (.ref C_NoMoment) (.ref C_FieldError)=some true
 xk_NoField_FieldError:PySem.W.kitCls K (.ref C_NoField) (.ref C_FieldError)=some true
 xk_NoRow_FieldError:PySem.W.kitCls K (.ref C_NoRow) (.ref C_FieldError)=some true
 xk_NoBook_FieldError:PySem.W.kitCls K (.ref C_NoBook) (.ref C_FieldError)=some true
 xk_NoClock_FieldError:PySem.W.kitCls K (.ref C_NoClock) (.ref C_FieldError)=some true
 xk_NoName_FieldError:PySem.W.kitCls K (.ref C_NoName) (.ref C_FieldError)=some true
 xk_NoWord_FieldError:PySem.W.kitCls K (.ref C_NoWord) (.ref C_FieldError)=some true
 xv_NoDay:PySem.W.kitOne K (.ref C_NoDay) (.type "ValueError")=some true
 xv_NoMoment:PySem.W.kitOne K (.ref C_NoMoment) (.type "ValueError")=some true
 xv_NoField:PySem.W.kitOne K (.ref C_NoField) (.type "ValueError")=some true
 xv_NoRow:PySem.W.kitOne K (.ref C_NoRow) (.type "ValueError")=some true
 xv_NoBook:PySem.W.kitOne K (.ref C_NoBook) (.type "ValueError")=some true
 xv_NoClock:PySem.W.kitOne K (.ref C_NoClock) (.type "ValueError")=some true
 xv_NoName:PySem.W.kitOne K (.ref C_NoName) (.type "ValueError")=some true
 xv_NoWord:PySem.W.kitOne K (.ref C_NoWord) (.type "ValueError")=some true
 z_len:mg "len"=none
 z_int:mg "int"=none
 z_isinstance:mg "isinstance"=none
 z_bool:mg "bool"=none
 z_str:mg "str"=none
 z_range:mg "range"=none
 z_min:mg "min"=none
 z_max:mg "max"=none
 z_ValueError:mg "ValueError"=none
 F_NoField___init__:FnM K C_NoField "__init__" "NoField.__init__" aaL ["self","at"]
 F_NoRow___init__:FnM K C_NoRow "__init__" "NoRow.__init__" aaO ["self","place"]
 F_NoName___init__:FnM K C_NoName "__init__" "NoName.__init__" aaN ["self","name"]
 F__law_cell_at:Fn K mg "_law_cell_at" aaU ["_law_script","_law_k"]
 F__law_whole:Fn K mg "_law_whole" aa4 ["_law_found"]
 F__law_sorts:Fn K mg "_law_sorts" aa6 ["_law_e"]
 F__law_thrown:Fn K mg "_law_thrown" aaY ["_law_way","_law_number","_law_name"]
 F__law_kept:Fn K mg "_law_kept" abE ["_law_e","_law_way","_law_number","_law_name"]
section
set_option maxHeartbeats 4000000
variable{P:Program}{w:World}{K:PySem.W.Frag}{mg:Str->Option Value}{base:Heap}{C_NoField C_NoRow C_NoName C_NoDay C_NoMoment C_NoBook C_NoClock C_NoWord C_FieldError:Addr}(ZZ:Fs K mg C_NoField C_NoRow C_NoName C_NoDay C_NoMoment C_NoBook C_NoClock C_NoWord C_FieldError)
include ZZ
theorem aaV:DfM P w K mg base C_NoField "__init__" 1 ["self","at"] (aaX K C_NoField):=by
 refine ZZ.F_NoField___init__.dfs aaW (fun vs H Q E h=>?_) (fun f cdv A outer s H vs Q E hr h=>?_)
 ·obtain⟨a,v,rfl,ha,hx,q⟩:=h
  rfl
 obtain⟨a,v,rfl,ha,hx,q⟩:=h
 refine⟨_,(ss1 (ahQ (v_ 0) (v_ 1))),?_⟩
 exact⟨_,rfl,_,rfl,a,C_NoField,rfl,ha,hx,fun dx h1 h2=>q dx _ h1 h2 rfl⟩
theorem aa8:DfM P w K mg base C_NoRow "__init__" 1 ["self","place"] (aa7 K C_NoRow):=by
 refine ZZ.F_NoRow___init__.dfs aa5 (fun vs H Q E h=>?_) (fun f cdv A outer s H vs Q E hr h=>?_)
 ·obtain⟨a,v,rfl,ha,hx,q⟩:=h
  rfl
 obtain⟨a,v,rfl,ha,hx,q⟩:=h
 refine⟨_,(ss1 (ahQ (v_ 0) (v_ 1))),?_⟩
 exact⟨_,rfl,_,rfl,a,C_NoRow,rfl,ha,hx,fun dx h1 h2=>q dx _ h1 h2 rfl⟩
theorem aa2:DfM P w K mg base C_NoName "__init__" 1 ["self","name"] (aaZ K C_NoName):=by
 refine ZZ.F_NoName___init__.dfs aa1 (fun vs H Q E h=>?_) (fun f cdv A outer s H vs Q E hr h=>?_)
 ·obtain⟨a,v,rfl,ha,hx,q⟩:=h
  rfl
 obtain⟨a,v,rfl,ha,hx,q⟩:=h
 refine⟨_,(ss1 (ahQ (v_ 0) (v_ 1))),?_⟩
 exact⟨_,rfl,_,rfl,a,C_NoName,rfl,ha,hx,fun dx h1 h2=>q dx _ h1 h2 rfl⟩
theorem abI:Df P w K mg base "_law_cell_at" 1 ["_law_script","_law_k"] (abJ K):=by
 refine ZZ.F__law_cell_at.dfs abK (fun vs H Q E h=>?_) (fun f cdv A outer s H vs Q E hr h=>?_)
 ·obtain⟨a,k,rfl,⟨ns,hS⟩,h0,q⟩:=h
  rfl
 obtain⟨a,k,rfl,⟨ns,hS⟩,h0,q⟩:=h
 refine⟨_,(ssC (sIf (tCm oLt (v_ 1) (eCB aiA ZZ.z_len PySem.boot_len (aC (v_ 0) aN))) (ss1 (ab1 (eIx xL (v_ 0) (v_ 1)))) ssN)
   (ss1 (ab1 eI))),?_⟩
 refine⟨_,rfl,_,rfl,a,_,rfl,.inl hS,_,_,rfl,rfl,_,rfl,?_⟩
 refine ifD (fun c=>?_) (fun c=>?_)
 ·rw[List.length_map] at c
  have hk:k.toNat<ns.length:=by omega
  have ek:k=((k.toNat:Nat):Int):=by omega
  have e:atI (ns.map V.int) k=some (.int ns[k.toNat]):=by
   have z:atI (ns.map V.int) ((k.toNat:Nat):Int)=some (.int ns[k.toNat]):=afD (by rw[List.getElem?_map,List.getElem?_eq_getElem hk];rfl)
   rw[←ek] at z
   exact z
  refine⟨_,rfl,_,rfl,a,_,_,_,rfl,rfl,hS,e,?_⟩
  exact q _
 ·exact q 0
theorem aaT:DfQ P w K mg base "_law_whole" 1 ["_law_found"] (ab4 K):=by
 refine ZZ.F__law_whole.dfsQ ab2 (fun vs H Q E h=>?_) (fun f cdv A outer s H vs Q hr h=>?_)
 ·obtain⟨v,k,rfl,hk,q⟩:=h
  rfl
 obtain⟨v,k,rfl,hk,q⟩:=h
 refine⟨_,(ss1 (ab1 (aeG (eCB cIs ZZ.z_isinstance PyProof.Rows.boot_isinstance (aC (v_ 0) (aC (eTy ZZ.z_int PyProof.Rows.boot_int) aN))) (aeK (eNot (eCB cIs ZZ.z_isinstance PyProof.Rows.boot_isinstance (aC (v_ 0) (aC (eTy ZZ.z_bool PyProof.Rows.boot_bool) aN)))))))),?_⟩
 refine⟨_,rfl,v,.int,k,rfl,(by decide),hk,_,rfl,?_⟩
 cases k with
 |int=>exact ad8 ⟨_,rfl,v,.bool,.int,rfl,(by decide),hk,_,rfl,q⟩
 |bool=>exact ad8 ⟨_,rfl,v,.bool,.bool,rfl,(by decide),hk,_,rfl,q⟩
 |str=>exact aeA q
 |non=>exact aeA q
 |list=>exact aeA q
 |tuple=>exact aeA q
 |dict=>exact aeA q
theorem abO:DfQ P w K mg base "_law_sorts" 1 ["_law_e"] (abZ K C_NoDay C_NoMoment C_NoField C_NoRow C_NoBook C_NoClock C_NoName C_NoWord):=by
 refine ZZ.F__law_sorts.dfsQ sc__law_sorts (fun vs H Q E h=>?_) (fun f cdv A outer s H vs Q hr h=>?_)
 ·obtain⟨a,C,d,b0,way,rfl,ha,hw,hC,q⟩:=h
  rfl
 obtain⟨a,C,d,b0,way,rfl,ha,hw,hC,q⟩:=h
 refine⟨_,(ssC (acU 1 (aiM (aC (eCB cXi ZZ.z_isinstance PyProof.Rows.boot_isinstance (aC (v_ 0) (aC (eGl (v:=.ref C_NoDay) ZZ.m_NoDay rfl) aN))) (aC (eCB cXi ZZ.z_isinstance PyProof.Rows.boot_isinstance (aC (v_ 0) (aC (eGl (v:=.ref C_NoMoment) ZZ.m_NoMoment rfl) aN))) (aC (eCB cXi ZZ.z_isinstance PyProof.Rows.boot_isinstance (aC (v_ 0) (aC (eGl (v:=.ref C_NoField) ZZ.m_NoField rfl) aN))) (aC (eCB cXi ZZ.z_isinstance PyProof.Rows.boot_isinstance (aC (v_ 0) (aC (eGl (v:=.ref C_NoRow) ZZ.m_NoRow rfl) aN))) aN))))) sc__law_sorts.nd)
   (ss1 (ab1 (eOp oCat (v_ 1) (aiM (aC (eCB cXi ZZ.z_isinstance PyProof.Rows.boot_isinstance (aC (v_ 0) (aC (eGl (v:=.ref C_NoBook) ZZ.m_NoBook rfl) aN))) (aC (eCB cXi ZZ.z_isinstance PyProof.Rows.boot_isinstance (aC (v_ 0) (aC (eGl (v:=.ref C_NoClock) ZZ.m_NoClock rfl) aN))) (aC (eCB cXi ZZ.z_isinstance PyProof.Rows.boot_isinstance (aC (v_ 0) (aC (eGl (v:=.ref C_NoName) ZZ.m_NoName rfl) aN))) (aC (eCB cXi ZZ.z_isinstance PyProof.Rows.boot_isinstance (aC (v_ 0) (aC (eGl (v:=.ref C_NoWord) ZZ.m_NoWord rfl) aN))) aN))))))))),?_⟩
 match way,hw,hC with
 |0,_,hC=>
  obtain rfl:=Option.some.inj hC
  refine⟨_,rfl,a,_,_,d,b0,true,rfl,ha,ZZ.xf_NoDay,ZZ.ki_0_0,_,rfl,a,_,_,d,b0,false,rfl,ha,ZZ.xf_NoDay,ZZ.ki_0_1,_,rfl,a,_,_,d,b0,false,rfl,ha,ZZ.xf_NoDay,ZZ.ki_0_2,_,rfl,a,_,_,d,b0,false,rfl,ha,ZZ.xf_NoDay,ZZ.ki_0_3,(by show 4<=sizeLine;decide),fun p0 h0=>?_⟩
  have s0:=aaC h0 (.lst [.bl true,.bl false,.bl false,.bl false])
  have hz:=s0 _ _ ha
  exact⟨_,rfl,_,rfl,a,_,_,d,b0,false,rfl,hz,ZZ.xf_NoDay,ZZ.ki_0_4,_,rfl,a,_,_,d,b0,false,rfl,hz,ZZ.xf_NoDay,ZZ.ki_0_5,_,rfl,a,_,_,d,b0,false,rfl,hz,ZZ.xf_NoDay,ZZ.ki_0_6,_,rfl,a,_,_,d,b0,false,rfl,hz,ZZ.xf_NoDay,ZZ.ki_0_7,(by show 4<=sizeLine;decide),fun p1 h1=>⟨p0,p1,_,_,rfl,rfl,(aaC h1 _) _ _ aaA,aaA,(by show 4+4<=sizeLine;decide),fun p2 h2=>q p2 _ (s0.trans ((aaC h1 _).trans (aaC h2 _))) aaA⟩⟩
 |1,_,hC=>
  obtain rfl:=Option.some.inj hC
  refine⟨_,rfl,a,_,_,d,b0,false,rfl,ha,ZZ.xf_NoMoment,ZZ.ki_1_0,_,rfl,a,_,_,d,b0,true,rfl,ha,ZZ.xf_NoMoment,ZZ.ki_1_1,_,rfl,a,_,_,d,b0,false,rfl,ha,ZZ.xf_NoMoment,ZZ.ki_1_2,_,rfl,a,_,_,d,b0,false,rfl,ha,ZZ.xf_NoMoment,ZZ.ki_1_3,(by show 4<=sizeLine;decide),fun p0 h0=>?_⟩
  have s0:=aaC h0 (.lst [.bl false,.bl true,.bl false,.bl false])
  have hz:=s0 _ _ ha
  exact⟨_,rfl,_,rfl,a,_,_,d,b0,false,rfl,hz,ZZ.xf_NoMoment,ZZ.ki_1_4,_,rfl,a,_,_,d,b0,false,rfl,hz,ZZ.xf_NoMoment,ZZ.ki_1_5,_,rfl,a,_,_,d,b0,false,rfl,hz,ZZ.xf_NoMoment,ZZ.ki_1_6,_,rfl,a,_,_,d,b0,false,rfl,hz,ZZ.xf_NoMoment,ZZ.ki_1_7,(by show 4<=sizeLine;decide),fun p1 h1=>⟨p0,p1,_,_,rfl,rfl,(aaC h1 _) _ _ aaA,aaA,(by show 4+4<=sizeLine;decide),fun p2 h2=>q p2 _ (s0.trans ((aaC h1 _).trans (aaC h2 _))) aaA⟩⟩
 |2,_,hC=>
  obtain rfl:=Option.some.inj hC
  refine⟨_,rfl,a,_,_,d,b0,false,rfl,ha,ZZ.xf_NoField,ZZ.ki_2_0,_,rfl,a,_,_,d,b0,false,rfl,ha,ZZ.xf_NoField,ZZ.ki_2_1,_,rfl,a,_,_,d,b0,true,rfl,ha,ZZ.xf_NoField,ZZ.ki_2_2,_,rfl,a,_,_,d,b0,false,rfl,ha,ZZ.xf_NoField,ZZ.ki_2_3,(by show 4<=sizeLine;decide),fun p0 h0=>?_⟩
  have s0:=aaC h0 (.lst [.bl false,.bl false,.bl true,.bl false])
  have hz:=s0 _ _ ha
  exact⟨_,rfl,_,rfl,a,_,_,d,b0,false,rfl,hz,ZZ.xf_NoField,ZZ.ki_2_4,_,rfl,a,_,_,d,b0,false,rfl,hz,ZZ.xf_NoField,ZZ.ki_2_5,_,rfl,a,_,_,d,b0,false,rfl,hz,ZZ.xf_NoField,ZZ.ki_2_6,_,rfl,a,_,_,d,b0,false,rfl,hz,ZZ.xf_NoField,ZZ.ki_2_7,(by show 4<=sizeLine;decide),fun p1 h1=>⟨p0,p1,_,_,rfl,rfl,(aaC h1 _) _ _ aaA,aaA,(by show 4+4<=sizeLine;decide),fun p2 h2=>q p2 _ (s0.trans ((aaC h1 _).trans (aaC h2 _))) aaA⟩⟩
 |3,_,hC=>
  obtain rfl:=Option.some.inj hC
  refine⟨_,rfl,a,_,_,d,b0,false,rfl,ha,ZZ.xf_NoRow,ZZ.ki_3_0,_,rfl,a,_,_,d,b0,false,rfl,ha,ZZ.xf_NoRow,ZZ.ki_3_1,_,rfl,a,_,_,d,b0,false,rfl,ha,ZZ.xf_NoRow,ZZ.ki_3_2,_,rfl,a,_,_,d,b0,true,rfl,ha,ZZ.xf_NoRow,ZZ.ki_3_3,(by show 4<=sizeLine;decide),fun p0 h0=>?_⟩
  have s0:=aaC h0 (.lst [.bl false,.bl false,.bl false,.bl true])
  have hz:=s0 _ _ ha
  exact⟨_,rfl,_,rfl,a,_,_,d,b0,false,rfl,hz,ZZ.xf_NoRow,ZZ.ki_3_4,_,rfl,a,_,_,d,b0,false,rfl,hz,ZZ.xf_NoRow,ZZ.ki_3_5,_,rfl,a,_,_,d,b0,false,rfl,hz,ZZ.xf_NoRow,ZZ.ki_3_6,_,rfl,a,_,_,d,b0,false,rfl,hz,ZZ.xf_NoRow,ZZ.ki_3_7,(by show 4<=sizeLine;decide),fun p1 h1=>⟨p0,p1,_,_,rfl,rfl,(aaC h1 _) _ _ aaA,aaA,(by show 4+4<=sizeLine;decide),fun p2 h2=>q p2 _ (s0.trans ((aaC h1 _).trans (aaC h2 _))) aaA⟩⟩
 |4,_,hC=>
  obtain rfl:=Option.some.inj hC
  refine⟨_,rfl,a,_,_,d,b0,false,rfl,ha,ZZ.xf_NoBook,ZZ.ki_4_0,_,rfl,a,_,_,d,b0,false,rfl,ha,ZZ.xf_NoBook,ZZ.ki_4_1,_,rfl,a,_,_,d,b0,false,rfl,ha,ZZ.xf_NoBook,ZZ.ki_4_2,_,rfl,a,_,_,d,b0,false,rfl,ha,ZZ.xf_NoBook,ZZ.ki_4_3,(by show 4<=sizeLine;decide),fun p0 h0=>?_⟩
  have s0:=aaC h0 (.lst [.bl false,.bl false,.bl false,.bl false])
  have hz:=s0 _ _ ha
  exact⟨_,rfl,_,rfl,a,_,_,d,b0,true,rfl,hz,ZZ.xf_NoBook,ZZ.ki_4_4,_,rfl,a,_,_,d,b0,false,rfl,hz,ZZ.xf_NoBook,ZZ.ki_4_5,_,rfl,a,_,_,d,b0,false,rfl,hz,ZZ.xf_NoBook,ZZ.ki_4_6,_,rfl,a,_,_,d,b0,false,rfl,hz,ZZ.xf_NoBook,ZZ.ki_4_7,(by show 4<=sizeLine;decide),fun p1 h1=>⟨p0,p1,_,_,rfl,rfl,(aaC h1 _) _ _ aaA,aaA,(by show 4+4<=sizeLine;decide),fun p2 h2=>q p2 _ (s0.trans ((aaC h1 _).trans (aaC h2 _))) aaA⟩⟩
 |5,_,hC=>
  obtain rfl:=Option.some.inj hC
  refine⟨_,rfl,a,_,_,d,b0,false,rfl,ha,ZZ.xf_NoClock,ZZ.ki_5_0,_,rfl,a,_,_,d,b0,false,rfl,ha,ZZ.xf_NoClock,ZZ.ki_5_1,_,rfl,a,_,_,d,b0,false,rfl,ha,ZZ.xf_NoClock,ZZ.ki_5_2,_,rfl,a,_,_,d,b0,false,rfl,ha,ZZ.xf_NoClock,ZZ.ki_5_3,(by show 4<=sizeLine;decide),fun p0 h0=>?_⟩
  have s0:=aaC h0 (.lst [.bl false,.bl false,.bl false,.bl false])
  have hz:=s0 _ _ ha
  exact⟨_,rfl,_,rfl,a,_,_,d,b0,false,rfl,hz,ZZ.xf_NoClock,ZZ.ki_5_4,_,rfl,a,_,_,d,b0,true,rfl,hz,ZZ.xf_NoClock,ZZ.ki_5_5,_,rfl,a,_,_,d,b0,false,rfl,hz,ZZ.xf_NoClock,ZZ.ki_5_6,_,rfl,a,_,_,d,b0,false,rfl,hz,ZZ.xf_NoClock,ZZ.ki_5_7,(by show 4<=sizeLine;decide),fun p1 h1=>⟨p0,p1,_,_,rfl,rfl,(aaC h1 _) _ _ aaA,aaA,(by show 4+4<=sizeLine;decide),fun p2 h2=>q p2 _ (s0.trans ((aaC h1 _).trans (aaC h2 _))) aaA⟩⟩
 |6,_,hC=>
  obtain rfl:=Option.some.inj hC
  refine⟨_,rfl,a,_,_,d,b0,false,rfl,ha,ZZ.xf_NoName,ZZ.ki_6_0,_,rfl,a,_,_,d,b0,false,rfl,ha,ZZ.xf_NoName,ZZ.ki_6_1,_,rfl,a,_,_,d,b0,false,rfl,ha,ZZ.xf_NoName,ZZ.ki_6_2,_,rfl,a,_,_,d,b0,false,rfl,ha,ZZ.xf_NoName,ZZ.ki_6_3,(by show 4<=sizeLine;decide),fun p0 h0=>?_⟩
  have s0:=aaC h0 (.lst [.bl false,.bl false,.bl false,.bl false])
  have hz:=s0 _ _ ha
  exact⟨_,rfl,_,rfl,a,_,_,d,b0,false,rfl,hz,ZZ.xf_NoName,ZZ.ki_6_4,_,rfl,a,_,_,d,b0,false,rfl,hz,ZZ.xf_NoName,ZZ.ki_6_5,_,rfl,a,_,_,d,b0,true,rfl,hz,ZZ.xf_NoName,ZZ.ki_6_6,_,rfl,a,_,_,d,b0,false,rfl,hz,ZZ.xf_NoName,ZZ.ki_6_7,(by show 4<=sizeLine;decide),fun p1 h1=>⟨p0,p1,_,_,rfl,rfl,(aaC h1 _) _ _ aaA,aaA,(by show 4+4<=sizeLine;decide),fun p2 h2=>q p2 _ (s0.trans ((aaC h1 _).trans (aaC h2 _))) aaA⟩⟩
 |7,_,hC=>
  obtain rfl:=Option.some.inj hC
  refine⟨_,rfl,a,_,_,d,b0,false,rfl,ha,ZZ.xf_NoWord,ZZ.ki_7_0,_,rfl,a,_,_,d,b0,false,rfl,ha,ZZ.xf_NoWord,ZZ.ki_7_1,_,rfl,a,_,_,d,b0,false,rfl,ha,ZZ.xf_NoWord,ZZ.ki_7_2,_,rfl,a,_,_,d,b0,false,rfl,ha,ZZ.xf_NoWord,ZZ.ki_7_3,(by show 4<=sizeLine;decide),fun p0 h0=>?_⟩
  have s0:=aaC h0 (.lst [.bl false,.bl false,.bl false,.bl false])
  have hz:=s0 _ _ ha
  exact⟨_,rfl,_,rfl,a,_,_,d,b0,false,rfl,hz,ZZ.xf_NoWord,ZZ.ki_7_4,_,rfl,a,_,_,d,b0,false,rfl,hz,ZZ.xf_NoWord,ZZ.ki_7_5,_,rfl,a,_,_,d,b0,false,rfl,hz,ZZ.xf_NoWord,ZZ.ki_7_6,_,rfl,a,_,_,d,b0,true,rfl,hz,ZZ.xf_NoWord,ZZ.ki_7_7,(by show 4<=sizeLine;decide),fun p1 h1=>⟨p0,p1,_,_,rfl,rfl,(aaC h1 _) _ _ aaA,aaA,(by show 4+4<=sizeLine;decide),fun p2 h2=>q p2 _ (s0.trans ((aaC h1 _).trans (aaC h2 _))) aaA⟩⟩
theorem abW:Df1 P w K mg base "_law_thrown" 3 ["_law_way","_law_number","_law_name"] (abL K C_NoDay C_NoMoment C_NoField C_NoRow C_NoBook C_NoClock C_NoName C_NoWord):=by
 refine ZZ.F__law_thrown.dfs1 abR (fun vs H Q E h=>?_) (fun f cdv A outer s H vs Q E hr h=>?_)
 ·obtain⟨way,num,l,rfl,hw,hE⟩:=h
  rfl
 obtain⟨way,num,l,rfl,hw,hE⟩:=h
 refine⟨_,(ssC (sIf (tCm oEq (v_ 0) eI) (ss1 (ag0 abF ZZ.xc_NoDay)) ssN)
   (ssC (sIf (tCm oEq (v_ 0) eI) (ss1 (ag0 abF ZZ.xc_NoMoment)) ssN)
   (ssC (sIf (tCm oEq (v_ 0) eI) (ss1 (agP abF ZZ.m_NoField ZZ.xj_NoField (aaV ZZ) hr (aC (v_ 1) aN))) ssN)
   (ssC (sIf (tCm oEq (v_ 0) eI) (ss1 (agP abF ZZ.m_NoRow ZZ.xj_NoRow (aa8 ZZ) hr (aC (v_ 1) aN))) ssN)
   (ssC (sIf (tCm oEq (v_ 0) eI) (ss1 (sRz abF ZZ.xc_NoBook (aC (v_ 2) aN))) ssN)
   (ssC (sIf (tCm oEq (v_ 0) eI) (ss1 (ag0 abF ZZ.xc_NoClock)) ssN)
   (ssC (sIf (tCm oEq (v_ 0) eI) (ss1 (agP abF ZZ.m_NoName ZZ.xj_NoName (aa2 ZZ) hr (aC (v_ 2) aN))) ssN)
   (ss1 (sRz abF ZZ.xc_NoWord (aC (eSx [110,111,32,115,117,99,104,32,114,111,119]) aN)))))))))),?_⟩
 match way,hw,hE with
 |0,_,hE=>exact⟨_,rfl,rfl,_,rfl,ifI (fun _=>⟨(by show 0<=sizeLine;decide),hE _ none _ (Same.refl _) rfl rfl⟩) (fun c=>absurd rfl c)⟩
 |1,_,hE=>exact⟨_,rfl,rfl,_,rfl,ifI (fun c=>absurd c (by decide)) (fun _=>⟨_,rfl,rfl,_,rfl,ifI (fun _=>⟨(by show 0<=sizeLine;decide),hE _ none _ (Same.refl _) rfl rfl⟩) (fun c=>absurd rfl c)⟩)⟩
 |2,_,hE=>exact⟨_,rfl,rfl,_,rfl,ifI (fun c=>absurd c (by decide)) (fun _=>⟨_,rfl,rfl,_,rfl,ifI (fun c=>absurd c (by decide)) (fun _=>⟨_,rfl,rfl,_,rfl,ifI (fun _=>⟨_,rfl,(by show 1<=sizeLine;decide),fun e he=>⟨e,_,rfl,aaA,ZZ.xs_NoField,fun dx H' n1 n2 eH=>⟨rfl,dx,(by rw[eH];exact aaA),(by rw[eH];exact (fun dx H' s h=>hE C_NoField (some dx) H' s rfl ⟨dx,rfl,h⟩) dx _ (acA (Same.refl _) he n1 n2).1 (acA (Same.refl _) he n1 n2).2)⟩⟩⟩) (fun c=>absurd rfl c)⟩)⟩)⟩
 |3,_,hE=>exact⟨_,rfl,rfl,_,rfl,ifI (fun c=>absurd c (by decide)) (fun _=>⟨_,rfl,rfl,_,rfl,ifI (fun c=>absurd c (by decide)) (fun _=>⟨_,rfl,rfl,_,rfl,ifI (fun c=>absurd c (by decide)) (fun _=>⟨_,rfl,rfl,_,rfl,ifI (fun _=>⟨_,rfl,(by show 1<=sizeLine;decide),fun e he=>⟨e,_,rfl,aaA,ZZ.xs_NoRow,fun dx H' n1 n2 eH=>⟨rfl,dx,(by rw[eH];exact aaA),(by rw[eH];exact (fun dx H' s h=>hE C_NoRow (some dx) H' s rfl ⟨dx,rfl,h⟩) dx _ (acA (Same.refl _) he n1 n2).1 (acA (Same.refl _) he n1 n2).2)⟩⟩⟩) (fun c=>absurd rfl c)⟩)⟩)⟩)⟩
 |4,_,hE=>exact⟨_,rfl,rfl,_,rfl,ifI (fun c=>absurd c (by decide)) (fun _=>⟨_,rfl,rfl,_,rfl,ifI (fun c=>absurd c (by decide)) (fun _=>⟨_,rfl,rfl,_,rfl,ifI (fun c=>absurd c (by decide)) (fun _=>⟨_,rfl,rfl,_,rfl,ifI (fun c=>absurd c (by decide)) (fun _=>⟨_,rfl,rfl,_,rfl,ifI (fun _=>⟨_,rfl,(by show 1<=sizeLine;decide),hE _ none _ (Same.refl _) rfl rfl⟩) (fun c=>absurd rfl c)⟩)⟩)⟩)⟩)⟩
 |5,_,hE=>exact⟨_,rfl,rfl,_,rfl,ifI (fun c=>absurd c (by decide)) (fun _=>⟨_,rfl,rfl,_,rfl,ifI (fun c=>absurd c (by decide)) (fun _=>⟨_,rfl,rfl,_,rfl,ifI (fun c=>absurd c (by decide)) (fun _=>⟨_,rfl,rfl,_,rfl,ifI (fun c=>absurd c (by decide)) (fun _=>⟨_,rfl,rfl,_,rfl,ifI (fun c=>absurd c (by decide)) (fun _=>⟨_,rfl,rfl,_,rfl,ifI (fun _=>⟨(by show 0<=sizeLine;decide),hE _ none _ (Same.refl _) rfl rfl⟩) (fun c=>absurd rfl c)⟩)⟩)⟩)⟩)⟩)⟩
 |6,_,hE=>exact⟨_,rfl,rfl,_,rfl,ifI (fun c=>absurd c (by decide)) (fun _=>⟨_,rfl,rfl,_,rfl,ifI (fun c=>absurd c (by decide)) (fun _=>⟨_,rfl,rfl,_,rfl,ifI (fun c=>absurd c (by decide)) (fun _=>⟨_,rfl,rfl,_,rfl,ifI (fun c=>absurd c (by decide)) (fun _=>⟨_,rfl,rfl,_,rfl,ifI (fun c=>absurd c (by decide)) (fun _=>⟨_,rfl,rfl,_,rfl,ifI (fun c=>absurd c (by decide)) (fun _=>⟨_,rfl,rfl,_,rfl,ifI (fun _=>⟨_,rfl,(by show 1<=sizeLine;decide),fun e he=>⟨e,_,rfl,aaA,ZZ.xs_NoName,fun dx H' n1 n2 eH=>⟨rfl,dx,(by rw[eH];exact aaA),(by rw[eH];exact (fun dx H' s h=>hE C_NoName (some dx) H' s rfl ⟨dx,rfl,h⟩) dx _ (acA (Same.refl _) he n1 n2).1 (acA (Same.refl _) he n1 n2).2)⟩⟩⟩) (fun c=>absurd rfl c)⟩)⟩)⟩)⟩)⟩)⟩)⟩
 |7,_,hE=>exact⟨_,rfl,rfl,_,rfl,ifI (fun c=>absurd c (by decide)) (fun _=>⟨_,rfl,rfl,_,rfl,ifI (fun c=>absurd c (by decide)) (fun _=>⟨_,rfl,rfl,_,rfl,ifI (fun c=>absurd c (by decide)) (fun _=>⟨_,rfl,rfl,_,rfl,ifI (fun c=>absurd c (by decide)) (fun _=>⟨_,rfl,rfl,_,rfl,ifI (fun c=>absurd c (by decide)) (fun _=>⟨_,rfl,rfl,_,rfl,ifI (fun c=>absurd c (by decide)) (fun _=>⟨_,rfl,rfl,_,rfl,ifI (fun c=>absurd c (by decide)) (fun _=>⟨(by show 1<=sizeLine;decide),hE _ none _ (Same.refl _) rfl rfl⟩)⟩)⟩)⟩)⟩)⟩)⟩)⟩
theorem ab5:DfQ P w K mg base "_law_kept" 2 ["_law_e","_law_way","_law_number","_law_name"] (acK K C_NoDay C_NoMoment C_NoField C_NoRow C_NoBook C_NoClock C_NoName C_NoWord):=by
 refine ZZ.F__law_kept.dfsQ acP (fun vs H Q E h=>?_) (fun f cdv A outer s H vs Q hr h=>?_)
 ·obtain⟨a,C,d,b0,way,num,l,rfl,ha,hw,hC,hd,q⟩:=h
  rfl
 obtain⟨a,C,d,b0,way,num,l,rfl,ha,hw,hC,hd,q⟩:=h
 refine⟨_,(ssC (sIf (tCm oEq (v_ 1) eI) (ss1 (ab1 (aeG (eDQ (aaT ZZ) hr (aC (adS (v_ 0)) aN)) (aeK (aeC oEq (adS (v_ 0)) (v_ 2)))))) ssN)
   (ssC (sIf (tCm oEq (v_ 1) eI) (ss1 (ab1 (aeG (eDQ (aaT ZZ) hr (aC (adS (v_ 0)) aN)) (aeK (aeC oEq (adS (v_ 0)) (v_ 2)))))) ssN)
   (ssC (sIf (tCm oEq (v_ 1) eI) (ss1 (ab1 (aeG (eCB cIs ZZ.z_isinstance PyProof.Rows.boot_isinstance (aC (adS (v_ 0)) (aC (eTy ZZ.z_str PyProof.Rows.boot_str) aN))) (aeK (aeC oEq (adS (v_ 0)) (v_ 3)))))) ssN)
   (ss1 (ab1 eB))))),?_⟩
 match way,hw,hC,hd with
 |0,_,hC,hd=>
  obtain rfl:=Option.some.inj hC
  exact⟨_,rfl,rfl,_,rfl,ifI (fun c=>absurd c (by decide)) (fun _=>⟨_,rfl,rfl,_,rfl,ifI (fun c=>absurd c (by decide)) (fun _=>⟨_,rfl,rfl,_,rfl,ifI (fun c=>absurd c (by decide)) (fun _=>q)⟩)⟩)⟩
 |1,_,hC,hd=>
  obtain rfl:=Option.some.inj hC
  exact⟨_,rfl,rfl,_,rfl,ifI (fun c=>absurd c (by decide)) (fun _=>⟨_,rfl,rfl,_,rfl,ifI (fun c=>absurd c (by decide)) (fun _=>⟨_,rfl,rfl,_,rfl,ifI (fun c=>absurd c (by decide)) (fun _=>q)⟩)⟩)⟩
 |2,_,hC,hd=>
  obtain rfl:=Option.some.inj hC
  obtain⟨dx,rfl,hx⟩:=hd
  refine⟨_,rfl,rfl,_,rfl,ifI (fun _=>⟨_,rfl,a,_,dx,b0,_,_,rfl,ha,hx,ZZ.xs_NoField,rfl,V.int num,.int,rfl,rfl,_,rfl,ad8 ⟨_,rfl,a,_,dx,b0,_,_,rfl,ha,hx,ZZ.xs_NoField,rfl,_,rfl,rfl,?_⟩⟩) (fun c=>absurd rfl c)⟩
  show Q (.bl (decide (V.int num=V.int num))) H
  rw[decide_eq_true rfl]
  exact q
 |3,_,hC,hd=>
  obtain rfl:=Option.some.inj hC
  obtain⟨dx,rfl,hx⟩:=hd
  refine⟨_,rfl,rfl,_,rfl,ifI (fun c=>absurd c (by decide)) (fun _=>⟨_,rfl,rfl,_,rfl,ifI (fun _=>⟨_,rfl,a,_,dx,b0,_,_,rfl,ha,hx,ZZ.xs_NoRow,rfl,V.int num,.int,rfl,rfl,_,rfl,ad8 ⟨_,rfl,a,_,dx,b0,_,_,rfl,ha,hx,ZZ.xs_NoRow,rfl,_,rfl,rfl,?_⟩⟩) (fun c=>absurd rfl c)⟩)⟩
  show Q (.bl (decide (V.int num=V.int num))) H
  rw[decide_eq_true rfl]
  exact q
 |4,_,hC,hd=>
  obtain rfl:=Option.some.inj hC
  exact⟨_,rfl,rfl,_,rfl,ifI (fun c=>absurd c (by decide)) (fun _=>⟨_,rfl,rfl,_,rfl,ifI (fun c=>absurd c (by decide)) (fun _=>⟨_,rfl,rfl,_,rfl,ifI (fun c=>absurd c (by decide)) (fun _=>q)⟩)⟩)⟩
 |5,_,hC,hd=>
  obtain rfl:=Option.some.inj hC
  exact⟨_,rfl,rfl,_,rfl,ifI (fun c=>absurd c (by decide)) (fun _=>⟨_,rfl,rfl,_,rfl,ifI (fun c=>absurd c (by decide)) (fun _=>⟨_,rfl,rfl,_,rfl,ifI (fun c=>absurd c (by decide)) (fun _=>q)⟩)⟩)⟩
 |6,_,hC,hd=>
  obtain rfl:=Option.some.inj hC
  obtain⟨dx,rfl,hx⟩:=hd
  refine⟨_,rfl,rfl,_,rfl,ifI (fun c=>absurd c (by decide)) (fun _=>⟨_,rfl,rfl,_,rfl,ifI (fun c=>absurd c (by decide)) (fun _=>⟨_,rfl,rfl,_,rfl,ifI (fun _=>⟨_,rfl,a,_,dx,b0,_,_,rfl,ha,hx,ZZ.xs_NoName,rfl,V.str (Tx l),.str,.str,rfl,(by decide),rfl,_,rfl,ad8 ⟨_,rfl,a,_,dx,b0,_,_,rfl,ha,hx,ZZ.xs_NoName,rfl,_,rfl,rfl,?_⟩⟩) (fun c=>absurd rfl c)⟩)⟩)⟩
  show Q (.bl (decide (V.str (Tx l)=V.str (Tx l)))) H
  rw[decide_eq_true rfl]
  exact q
 |7,_,hC,hd=>
  obtain rfl:=Option.some.inj hC
  exact⟨_,rfl,rfl,_,rfl,ifI (fun c=>absurd c (by decide)) (fun _=>⟨_,rfl,rfl,_,rfl,ifI (fun c=>absurd c (by decide)) (fun _=>⟨_,rfl,rfl,_,rfl,ifI (fun c=>absurd c (by decide)) (fun _=>q)⟩)⟩)⟩
theorem ahI{fL:Addr}{fdL:FuncData}(F:Fun K "law" "law" acD fL fdL):FnOk P w K mg base CX0 4 fL fdL ["_law_script"] (sp_law K):=by
 refine F.oks sc_law (fun vs H Q E h=>?_) (fun cdv A outer s H vs Q E hr h=>?_)
 ·obtain⟨a,ns,rfl,hS,hlen,q⟩:=h
  rfl
 obtain⟨a,ns,rfl,hS,hlen,q⟩:=h
 refine⟨_,(ssC (sFor (iR1 ZZ.z_range (aC (eCB cMax ZZ.z_max PyProof.Rows.boot_max (aC eI (aC (eCB cMin ZZ.z_min PyProof.Rows.boot_min (aC eI (aC (eCB aiA ZZ.z_len PySem.boot_len (aC (v_ 0) aN)) aN))) aN))) aN)) (gN 1 sc_law.nd) (ssC (acU 2 (eD (abI ZZ) hr (aC (v_ 0) (aC (v_ 1) aN))) sc_law.nd)
   (ssC (acU 3 (eOp afW (v_ 2) eI) sc_law.nd)
   (ssC (acU 4 (eOp oSub (eOp afW (eOp ag1 (v_ 2) eI) (eOp afV (eOp oMul eI (eOp ahZ eI eI)) eI)) (eOp ahZ eI eI)) sc_law.nd)
   (ssC (acU 5 (eSl slX (eSl slX (eSx [97,98,99,100,101,102,103,104,105,106,107,108,109,110,111,112,113,114,115,116,117,118,119,120,121,122]) (poS (eOp afW (eOp ag1 (v_ 2) eI) eI)) poN) poN (poS (eOp afV eI (eOp afW (eOp ag1 (v_ 2) eI) eI)))) sc_law.nd)
   (ssC (acU 6 eI sc_law.nd)
   (ssC (afL 7 ZZ.m_FieldError ZZ.xb_FieldError (bE (xD (abW ZZ) hr (aC (v_ 3) (aC (v_ 4) (aC (v_ 5) aN))))) (fun _=>(ssC (acU 6 (eOp afV eI (eCT ah4 ZZ.z_int PyProof.Rows.boot_int (aC (aeG (eCB cXy ZZ.z_isinstance PyProof.Rows.boot_isinstance (aC (v_ 7) (aC (eTy ZZ.z_ValueError abG) aN))) (aeK (aeC (oEqB (hr.q.mark _).units) (eDQ (abO ZZ) (hr.q.mark _) (aC (v_ 7) aN)) (ahM ["_law_way"] [3] ZZ.z_range (aC eI aN) (fun _ _ _ _ _ _=>fsN) (fun _ _ _ _ _ _=>(aeC oEq (v_ 0) (v_ 1))))))) aN))) sc_law.nd)
   (ss1 (acU 6 (eOp afV (v_ 6) (eCT ah4 ZZ.z_int PyProof.Rows.boot_int (aC (eDQ (ab5 ZZ) (hr.q.mark _) (aC (v_ 7) (aC (v_ 3) (aC (v_ 4) (aC (v_ 5) aN))))) aN))) sc_law.nd)))) sc_law.nd)
   (ss1 (sIf (tCm oNe (v_ 6) eI) (ss1 (ab1 eB)) ssN)))))))) PassesOwn.never)
   (ss1 (ab1 eB))),?_⟩
 have hl63:(ns.map V.int).length=ns.length:=List.length_map _
 refine⟨_,rfl,a,_,rfl,.inl hS,_,_,rfl,_,_,rfl,_,rfl,?lo,?hi,ad7 (fun i σ H2=>∃v1 v2 v3 v4 v5 v6 v7:Option V,σ=[some (.ref a),v1,v2,v3,v4,v5,v6,v7]/\Same H H2) ⟨_,_,_,_,_,_,_,rfl,Same.refl _⟩ ?turn ?done⟩
 case lo=>
  rw[hl63]
  split<;>(try split)<;>omega
 case hi=>
  rw[hl63]
  split<;>(try split)<;>omega
 case done=>
  rintro σ H2 ⟨v1,v2,v3,v4,v5,v6,v7,rfl,s2⟩
  exact q H2
 case turn=>
  rintro i σ H2 hi ⟨v1,v2,v3,v4,v5,v6,v7,rfl,s2⟩
  have hi':i<40:=by
   rw[hl63] at hi
   split at hi<;>(try split at hi)<;>omega
  refine⟨_,rfl,_,rfl,a,_,rfl,⟨ns,s2.seq hS⟩,by omega,fun c=>?_⟩
  refine⟨_,rfl,_,_,rfl,rfl,(by show (0:Int)<8;decide),?_⟩
  obtain⟨way,ew,hw⟩:∃way:Nat,c%8=(way:Int)/\way<8:=⟨(c%8).toNat,by omega,by omega⟩
  show abU 3 (V.int (c%8)) _ _ _
  rw[ew]
  refine⟨_,rfl,_,_,rfl,rfl,⟨by decide,by decide⟩,_,_,rfl,rfl,⟨by decide,by decide,by decide⟩,_,_,rfl,rfl,.inl ⟨by decide,by decide⟩,_,_,rfl,rfl,_,_,rfl,rfl,(by show (0:Int)<2*10^Int.toNat 60+1;decide +kernel),_,_,rfl,rfl,⟨by decide,by decide,by decide⟩,_,_,rfl,rfl,?_⟩
  refine (fun num=>?_:∀num:Int,abU 4 (V.int num) _ _ _) _
  refine⟨_,rfl,_,_,rfl,rfl,⟨by decide,by decide⟩,_,_,rfl,rfl,(by show (0:Int)<19;decide),_,rfl,[97,98,99,100,101,102,103,104,105,106,107,108,109,110,111,112,113,114,115,116,117,118,119,120,121,122],rfl,(by rw[sizeLine_eq];decide),_,rfl,_,_,rfl,rfl,⟨by decide,by decide⟩,_,_,rfl,rfl,(by show (0:Int)<8;decide),_,_,rfl,rfl,_,rfl,_,rfl,(by have:=acS [97,98,99,100,101,102,103,104,105,106,107,108,109,110,111,112,113,114,115,116,117,118,119,120,121,122] (some (c / 8%19)) none;rw[sizeLine_eq];exact Nat.le_trans this (by decide)),?_⟩
  refine (fun l=>?_:∀l:List Nat,abU 5 (V.str (Tx l)) _ _ _) _
  refine⟨fun e d H'=>∃C,e=.ref C/\Same H2 H'/\([C_NoDay,C_NoMoment,C_NoField,C_NoRow,C_NoBook,C_NoClock,C_NoName,C_NoWord]:List Addr)[way]? =some C/\DX way num l d H',⟨_,rfl,_,rfl,_,rfl,way,num,l,rfl,hw,fun C d H' s hC hd=>⟨C,rfl,s,hC,hd⟩⟩,fun C d b H' ⟨C',eC,s3,hC,hd⟩=>?_⟩
  obtain⟨rfl,rfl⟩:=agK eC
  have hF:PySem.W.kitCls K (.ref C) (.ref C_FieldError)=some true:=by
   clear hd
   revert hC
   match way,hw with
   |0,_=>exact fun h=>by obtain rfl:=Option.some.inj h;exact ZZ.xk_NoDay_FieldError
   |1,_=>exact fun h=>by obtain rfl:=Option.some.inj h;exact ZZ.xk_NoMoment_FieldError
   |2,_=>exact fun h=>by obtain rfl:=Option.some.inj h;exact ZZ.xk_NoField_FieldError
   |3,_=>exact fun h=>by obtain rfl:=Option.some.inj h;exact ZZ.xk_NoRow_FieldError
   |4,_=>exact fun h=>by obtain rfl:=Option.some.inj h;exact ZZ.xk_NoBook_FieldError
   |5,_=>exact fun h=>by obtain rfl:=Option.some.inj h;exact ZZ.xk_NoClock_FieldError
   |6,_=>exact fun h=>by obtain rfl:=Option.some.inj h;exact ZZ.xk_NoName_FieldError
   |7,_=>exact fun h=>by obtain rfl:=Option.some.inj h;exact ZZ.xk_NoWord_FieldError
  have hX:XF K C:=by
   clear hd
   revert hC
   match way,hw with
   |0,_=>exact fun h=>by obtain rfl:=Option.some.inj h;exact ZZ.xf_NoDay
   |1,_=>exact fun h=>by obtain rfl:=Option.some.inj h;exact ZZ.xf_NoMoment
   |2,_=>exact fun h=>by obtain rfl:=Option.some.inj h;exact ZZ.xf_NoField
   |3,_=>exact fun h=>by obtain rfl:=Option.some.inj h;exact ZZ.xf_NoRow
   |4,_=>exact fun h=>by obtain rfl:=Option.some.inj h;exact ZZ.xf_NoBook
   |5,_=>exact fun h=>by obtain rfl:=Option.some.inj h;exact ZZ.xf_NoClock
   |6,_=>exact fun h=>by obtain rfl:=Option.some.inj h;exact ZZ.xf_NoName
   |7,_=>exact fun h=>by obtain rfl:=Option.some.inj h;exact ZZ.xf_NoWord
  have hV:PySem.W.kitOne K (.ref C) (.type "ValueError")=some true:=by
   clear hd
   revert hC
   match way,hw with
   |0,_=>exact fun h=>by obtain rfl:=Option.some.inj h;exact ZZ.xv_NoDay
   |1,_=>exact fun h=>by obtain rfl:=Option.some.inj h;exact ZZ.xv_NoMoment
   |2,_=>exact fun h=>by obtain rfl:=Option.some.inj h;exact ZZ.xv_NoField
   |3,_=>exact fun h=>by obtain rfl:=Option.some.inj h;exact ZZ.xv_NoRow
   |4,_=>exact fun h=>by obtain rfl:=Option.some.inj h;exact ZZ.xv_NoBook
   |5,_=>exact fun h=>by obtain rfl:=Option.some.inj h;exact ZZ.xv_NoClock
   |6,_=>exact fun h=>by obtain rfl:=Option.some.inj h;exact ZZ.xv_NoName
   |7,_=>exact fun h=>by obtain rfl:=Option.some.inj h;exact ZZ.xv_NoWord
  refine⟨hF,fun x hx=>?_⟩
  have sx:=aaC hx (xo x C d true)
  refine⟨_,rfl,x,C,"ValueError",d,true,true,rfl,aaA,hX,hV,_,rfl,ad8 ⟨_,rfl,x,C,d,true,way,rfl,aaA,hw,hC,fun p H4 s4 hp=>⟨8,rfl,by decide,by decide,ai6 (fun j=>V.bl (decide (V.int (0+(j:Int))=V.int (way:Int)))) (by decide) ⟨x,C,d,rfl,s4 _ _ aaA⟩ (fun j H5 F hj s5 hF5=>⟨_,rfl,_,rfl,rfl,hF5 _ (Same.refl _)⟩) fun Dz H5 hDz s5 h5=>?_⟩⟩⟩
  refine⟨p,Dz,(List.range 8).map fun j=>decide (j=way),(List.range 8).map fun j:Nat=>decide (V.int (0+(j:Int))=V.int (way:Int)),rfl,rfl,SqL.of (s5 _ _ hp),SqL.of (by rw[List.map_map];exact h5),?_⟩
  rw[decide_eq_true (afH way)]
  refine .inr ⟨_,rfl,_,_,rfl,rfl,?_⟩
  have sA:=sx.trans (s4.trans s5)
  refine⟨_,rfl,_,rfl,_,rfl,_,rfl,_,rfl,x,C,d,true,way,num,l,rfl,s5 _ _ (s4 _ _ aaA),hw,hC,hd.keep sA,.inr ⟨_,rfl,_,_,rfl,rfl,?_⟩⟩
  exact⟨_,rfl,rfl,_,rfl,ifNe (by decide) ⟨_,_,_,_,_,_,_,rfl,s2.trans (s3.trans sA)⟩⟩
end
theorem all_mk{l:PySem.W.OpenLaw}{w:World}{K:PySem.W.Frag}{h:Heap}{mg:Str->Option Value}{fa f:Addr}{C_NoField C_NoRow C_NoName C_NoDay C_NoMoment C_NoBook C_NoClock C_NoWord C_FieldError:Addr}{oc kV dc pm cd ct:Value}{od an:Option Addr}{sl:Array (Option Value)}(X:K.In h)(G:h.Ns mainGlobals mg)(hfa:mg "law"=some (.ref fa))(ZZ:Fs K mg C_NoField C_NoRow C_NoName C_NoDay C_NoMoment C_NoBook C_NoClock C_NoWord C_FieldError)
  (a:PySem.W.nsIn K mainGlobals "law"=some (some (.ref f))) (lk:K.lookup f=some ⟨oc,od,.func (PySem.W.fnOf "law" "law" (aaK acD) (aaH acD) (aaB acD) .none kV dc pm an cd ct),sl⟩) (c:PySem.W.codeIn K cd "law"=true) (k:PySem.W.keepIn K (.ref f)=true):
  ∃fd:FuncData,(∀(s:Shared) (v:Value),BindsTo s fd ⟨[v],[]⟩ [("_law_script",v)])/\∀base:Heap,K.In base->base.Ns mainGlobals mg->FnOk l.prog w K mg base CX0 4 fa fd ["_law_script"] (sp_law K):=by
 cases hfa.symm.trans (PySem.W.mg_of X G a)
 exact⟨_,fun s v=>.of_eq rfl,fun base _ _=>ahI ZZ (ac3 (st:=acD) lk c k)⟩
theorem walk{l:PySem.W.OpenLaw}{q:Program}{loose:List Str}{XP:(Str->Option Value)->Heap->Prop}{YP:World->Heap->Prop}{d:DefRec}{K:Params->PySem.W.Frag}(hn:l.most=some 63)(hdf:d.params.defaults=[])
  (hY:∀(w:World) (h:Heap),YP w h->(K w.params).In h)
  (F:∀(w:World) (mg:Str->Option Value) (fa:Addr) (h:Heap),(K w.params).In h->h.Ns mainGlobals mg->mg d.name=some (.ref fa)->
   ∃fd:FuncData,(∀(s:Shared) (u:Value),BindsTo s fd ⟨[u],[]⟩ [("_law_script",u)])/\∀base:Heap,(K w.params).In base->base.Ns mainGlobals mg->FnOk l.prog w (K w.params) mg base CX0 4 fa fd ["_law_script"] (sp_law (K w.params))):
  PySem.W.WalkO q loose XP YP l.row.toRowW d [] (fun f vs=>PySem.call f vs):=
 L2.walk_of (n:=63) (k:=4) (x:="_law_script") (CX:=fun _=>CX0) (sp:=fun w=>sp_law (K w.params)) hn (by decide) hdf ⟨rfl,by decide,by decide⟩ hY F (fun _ _ a ns hl _ hS=>⟨a,ns,rfl,hS,hl,fun _=>rfl⟩) fun _ _ _ _ _ z=>z
end K19
open PySem PySem.W PyProof.Rows
local macro_rules
  | `(tactic| o_head $H) => `(tactic| (
      refine holds_open (q := Hd.seenBy) (loose := Hd.free) (N := 4490)
        (Xt := Hd.XT)
        (XP := XL Hd.seenBy Hd.read)
        (Yf := Hook.obs $H) (Ya := Hook.val $H) (YP := Hook.says $H)
        ?hl (Hook.of $H) (Hook.keeps $H)
        (fun z y => xl_of z (Bool.and_eq_true_iff.mp y).1) XL.keeps
        (by rfl) (by rfl) (by rfl)
        (fun z y => recFacts_of (Bool.and_eq_true_iff.mp y).2)
        (by rfl) (by first | assumption | decide +kernel) (by decide +kernel)
        ⟨rfl,rfl,rfl,rfl,rfl,by decide +kernel⟩ ?hw ?hc
      (case hl =>
        refine LeftO.of_pieces Hd.opn Hd.siz Hd.run rfl ?_
        intro w
        funext os
        refine looks_pair (Hd.lk0 w os) (looks_pair (Hd.look w os) ?_)
        as_aux_lemma => kernel_rfl)))
open PySem PySem.W PyProof.Rows L2
set_option maxRecDepth 100000 in
set_option maxHeartbeats 0 in
theorem PySem.Challenge.cw_fivefields_k19_refusals_apart_holds : PySem.Challenge.rw_fivefields_k19_refusals_apart.Holds := by
 w_on;o_law;k_head;(case hw=>w_witness2)
 k_fill
 refine K19.walk (l:=PySem.Challenge.rw_fivefields_k19_refusals_apart) rfl rfl (fun w h Y=>PySem.W.kIn_of Y) ?F
 case F=>
  intro w mg fa h KX G hmg
  refine' K19.all_mk KX G hmg ⟨
   PySem.W.mg_of KX G ?_,
   PySem.W.mg_of KX G ?_,
   PySem.W.mg_of KX G ?_,
   PySem.W.mg_of KX G ?_,
   PySem.W.mg_of KX G ?_,
   PySem.W.mg_of KX G ?_,
   PySem.W.mg_of KX G ?_,
   PySem.W.mg_of KX G ?_,
   PySem.W.mg_of KX G ?_,
   ⟨?f0_NoDay,?_,?_,?_,?_,?_,?_,?_⟩,
   ⟨?f0_NoMoment,?_,?_,?_,?_,?_,?_,?_⟩,
   ⟨?f0_NoField,?_,?_,?_,?_,?_,?_,?_⟩,
   ⟨?f0_NoRow,?_,?_,?_,?_,?_,?_,?_⟩,
   ⟨?f0_NoBook,?_,?_,?_,?_,?_,?_,?_⟩,
   ⟨?f0_NoClock,?_,?_,?_,?_,?_,?_,?_⟩,
   ⟨?f0_NoName,?_,?_,?_,?_,?_,?_,?_⟩,
   ⟨?f0_NoWord,?_,?_,?_,?_,?_,?_,?_⟩,
   ?rki_0_0,
   ?rki_0_1,
   ?rki_0_2,
   ?rki_0_3,
   ?rki_0_4,
   ?rki_0_5,
   ?rki_0_6,
   ?rki_0_7,
   ?rki_1_0,
   ?rki_1_1,
   ?rki_1_2,
   ?rki_1_3,
   ?rki_1_4,
   ?rki_1_5,
   ?rki_1_6,
   ?rki_1_7,
   ?rki_2_0,
   ?rki_2_1,
   ?rki_2_2,
   ?rki_2_3,
   ?rki_2_4,
   ?rki_2_5,
   ?rki_2_6,
   ?rki_2_7,
   ?rki_3_0,
   ?rki_3_1,
   ?rki_3_2,
   ?rki_3_3,
   ?rki_3_4,
   ?rki_3_5,
   ?rki_3_6,
   ?rki_3_7,
   ?rki_4_0,
   ?rki_4_1,
   ?rki_4_2,
   ?rki_4_3,
   ?rki_4_4,
   ?rki_4_5,
   ?rki_4_6,
   ?rki_4_7,
   ?rki_5_0,
   ?rki_5_1,
   ?rki_5_2,
   ?rki_5_3,
   ?rki_5_4,
   ?rki_5_5,
   ?rki_5_6,
   ?rki_5_7,
   ?rki_6_0,
   ?rki_6_1,
   ?rki_6_2,
   ?rki_6_3,
   ?rki_6_4,
   ?rki_6_5,
   ?rki_6_6,
   ?rki_6_7,
   ?rki_7_0,
   ?rki_7_1,
   ?rki_7_2,
   ?rki_7_3,
   ?rki_7_4,
   ?rki_7_5,
   ?rki_7_6,
   ?rki_7_7,
   ⟨PySem.W.mg_of KX G ?_,?_,?qx_NoDay⟩,
   ⟨PySem.W.mg_of KX G ?_,?_,?qx_NoMoment⟩,
   ⟨PySem.W.mg_of KX G ?_,?_,?qx_NoBook⟩,
   ⟨PySem.W.mg_of KX G ?_,?_,?qx_NoClock⟩,
   ⟨PySem.W.mg_of KX G ?_,?_,?qx_NoWord⟩,
   ⟨⟨?e0_NoField,?_,?_,?_,?_,?_,?_,?_⟩,?fd_NoField,?_,?_⟩,
   ?xj0_NoField,
   ⟨⟨?e0_NoRow,?_,?_,?_,?_,?_,?_,?_⟩,?fd_NoRow,?_,?_⟩,
   ?xj0_NoRow,
   ⟨⟨?e0_NoName,?_,?_,?_,?_,?_,?_,?_⟩,?fd_NoName,?_,?_⟩,
   ?xj0_NoName,
   ?_,
   ?rk_NoDay_FieldError,
   ?rk_NoMoment_FieldError,
   ?rk_NoField_FieldError,
   ?rk_NoRow_FieldError,
   ?rk_NoBook_FieldError,
   ?rk_NoClock_FieldError,
   ?rk_NoName_FieldError,
   ?rk_NoWord_FieldError,
   ?rv_NoDay,
   ?rv_NoMoment,
   ?rv_NoField,
   ?rv_NoRow,
   ?rv_NoBook,
   ?rv_NoClock,
   ?rv_NoName,
   ?rv_NoWord,
   PySem.W.mg_none_of KX G ?_,
   PySem.W.mg_none_of KX G ?_,
   PySem.W.mg_none_of KX G ?_,
   PySem.W.mg_none_of KX G ?_,
   PySem.W.mg_none_of KX G ?_,
   PySem.W.mg_none_of KX G ?_,
   PySem.W.mg_none_of KX G ?_,
   PySem.W.mg_none_of KX G ?_,
   PySem.W.mg_none_of KX G ?_,
   adB ?_ ?_ ?_ ?_ ?_ fun _ _ _ _ _ _ us hl=>by obtain⟨_,_,rfl⟩:=aeJ hl;rfl,
   adB ?_ ?_ ?_ ?_ ?_ fun _ _ _ _ _ _ us hl=>by obtain⟨_,_,rfl⟩:=aeJ hl;rfl,
   adB ?_ ?_ ?_ ?_ ?_ fun _ _ _ _ _ _ us hl=>by obtain⟨_,_,rfl⟩:=aeJ hl;rfl,
   acX KX G ?_ ?_ ?_ ?_ fun _ _ _ _ _ _ us hl=>by obtain⟨_,_,rfl⟩:=aeJ hl;rfl,
   acX KX G ?_ ?_ ?_ ?_ fun _ _ _ _ _ _ us hl=>by obtain⟨_,rfl⟩:=ahL hl;rfl,
   acX KX G ?_ ?_ ?_ ?_ fun _ _ _ _ _ _ us hl=>by obtain⟨_,rfl⟩:=ahL hl;rfl,
   acX KX G ?_ ?_ ?_ ?_ fun _ _ _ _ _ _ us hl=>by obtain⟨_,_,_,rfl⟩:=ai4 hl;rfl,
   acX KX G ?_ ?_ ?_ ?_ fun _ _ _ _ _ _ us hl=>by obtain⟨_,_,_,_,rfl⟩:=len4 hl;rfl⟩ ?_ ?_ ?_ ?_
  (case f0_NoDay=>kernel_rfl)
  (case f0_NoMoment=>kernel_rfl)
  (case f0_NoField=>kernel_rfl)
  (case f0_NoRow=>kernel_rfl)
  (case f0_NoBook=>kernel_rfl)
  (case f0_NoClock=>kernel_rfl)
  (case f0_NoName=>kernel_rfl)
  (case f0_NoWord=>kernel_rfl)
  (case rki_0_0=>kernel_rfl)
  (case rki_0_1=>kernel_rfl)
  (case rki_0_2=>kernel_rfl)
  (case rki_0_3=>kernel_rfl)
  (case rki_0_4=>kernel_rfl)
  (case rki_0_5=>kernel_rfl)
  (case rki_0_6=>kernel_rfl)
  (case rki_0_7=>kernel_rfl)
  (case rki_1_0=>kernel_rfl)
  (case rki_1_1=>kernel_rfl)
  (case rki_1_2=>kernel_rfl)
  (case rki_1_3=>kernel_rfl)
  (case rki_1_4=>kernel_rfl)
  (case rki_1_5=>kernel_rfl)
  (case rki_1_6=>kernel_rfl)
  (case rki_1_7=>kernel_rfl)
  (case rki_2_0=>kernel_rfl)
  (case rki_2_1=>kernel_rfl)
  (case rki_2_2=>kernel_rfl)
  (case rki_2_3=>kernel_rfl)
  (case rki_2_4=>kernel_rfl)
  (case rki_2_5=>kernel_rfl)
  (case rki_2_6=>kernel_rfl)
  (case rki_2_7=>kernel_rfl)
  (case rki_3_0=>kernel_rfl)
  (case rki_3_1=>kernel_rfl)
  (case rki_3_2=>kernel_rfl)
  (case rki_3_3=>kernel_rfl)
  (case rki_3_4=>kernel_rfl)
  (case rki_3_5=>kernel_rfl)
  (case rki_3_6=>kernel_rfl)
  (case rki_3_7=>kernel_rfl)
  (case rki_4_0=>kernel_rfl)
  (case rki_4_1=>kernel_rfl)
  (case rki_4_2=>kernel_rfl)
  (case rki_4_3=>kernel_rfl)
  (case rki_4_4=>kernel_rfl)
  (case rki_4_5=>kernel_rfl)
  (case rki_4_6=>kernel_rfl)
  (case rki_4_7=>kernel_rfl)
  (case rki_5_0=>kernel_rfl)
  (case rki_5_1=>kernel_rfl)
  (case rki_5_2=>kernel_rfl)
  (case rki_5_3=>kernel_rfl)
  (case rki_5_4=>kernel_rfl)
  (case rki_5_5=>kernel_rfl)
  (case rki_5_6=>kernel_rfl)
  (case rki_5_7=>kernel_rfl)
  (case rki_6_0=>kernel_rfl)
  (case rki_6_1=>kernel_rfl)
  (case rki_6_2=>kernel_rfl)
  (case rki_6_3=>kernel_rfl)
  (case rki_6_4=>kernel_rfl)
  (case rki_6_5=>kernel_rfl)
  (case rki_6_6=>kernel_rfl)
  (case rki_6_7=>kernel_rfl)
  (case rki_7_0=>kernel_rfl)
  (case rki_7_1=>kernel_rfl)
  (case rki_7_2=>kernel_rfl)
  (case rki_7_3=>kernel_rfl)
  (case rki_7_4=>kernel_rfl)
  (case rki_7_5=>kernel_rfl)
  (case rki_7_6=>kernel_rfl)
  (case rki_7_7=>kernel_rfl)
  (case qx_NoDay=>kernel_rfl)
  (case qx_NoMoment=>kernel_rfl)
  (case qx_NoBook=>kernel_rfl)
  (case qx_NoClock=>kernel_rfl)
  (case qx_NoWord=>kernel_rfl)
  (case e0_NoField=>kernel_rfl)
  (case fd_NoField=>kernel_rfl)
  (case xj0_NoField=>kernel_rfl)
  (case e0_NoRow=>kernel_rfl)
  (case fd_NoRow=>kernel_rfl)
  (case xj0_NoRow=>kernel_rfl)
  (case e0_NoName=>kernel_rfl)
  (case fd_NoName=>kernel_rfl)
  (case xj0_NoName=>kernel_rfl)
  (case rk_NoDay_FieldError=>kernel_rfl)
  (case rk_NoMoment_FieldError=>kernel_rfl)
  (case rk_NoField_FieldError=>kernel_rfl)
  (case rk_NoRow_FieldError=>kernel_rfl)
  (case rk_NoBook_FieldError=>kernel_rfl)
  (case rk_NoClock_FieldError=>kernel_rfl)
  (case rk_NoName_FieldError=>kernel_rfl)
  (case rk_NoWord_FieldError=>kernel_rfl)
  (case rv_NoDay=>kernel_rfl)
  (case rv_NoMoment=>kernel_rfl)
  (case rv_NoField=>kernel_rfl)
  (case rv_NoRow=>kernel_rfl)
  (case rv_NoBook=>kernel_rfl)
  (case rv_NoClock=>kernel_rfl)
  (case rv_NoName=>kernel_rfl)
  (case rv_NoWord=>kernel_rfl)
  all_goals try (as_aux_lemma=>k_is)
