import PyProof.Rows.All
import Wide.All
import OpenK.AllK
import Wide.FinOn
import Lean
import PyProof.EqAt
import PyProof.EqKinds
import PyProof.TupleCall
import PySem.Challenge.RW_fivefields_k24_first_wrong_item
set_option maxHeartbeats 4000000
set_option compiler.extract_closed false
namespace Hd
open PySem PySem.W PySem.Calls PyProof.Rows
section
set_option maxHeartbeats 0
set_option maxRecDepth 100000
set_option linter.all false
noncomputable section
noncomputable abbrev pw:Program:=PySem.Challenge.pw_fivefields_k24_first_wrong_item
noncomputable abbrev bi:List Stmt:=behindTheImports pw
noncomputable def nth:List Stmt->Nat->Stmt
 |s::_,0=>s
 |_::r,n+1=>nth r n
 |[],_=>.Pass default
noncomputable def tp(i:Nat):Stmt:=nth pw.main.body i
noncomputable def bd:Stmt->List Stmt
 |.FunctionDef _ _ b _ _ _ _ _ _ _=>b
 |.ClassDef _ _ _ b _ _ _ _ _ _ _=>b
 |_=>[]
noncomputable def ag:Stmt->Arguments
 |.FunctionDef _ a _ _ _ _ _ _ _ _=>a
 |_=>⟨[],[],none,[],[],none,[]⟩
noncomputable def sc:Stmt->Scope
 |.FunctionDef _ _ _ _ _ _ s _ _ _=>s
 |.ClassDef _ _ _ _ _ _ s _ _ _ _=>s
 |_=>pw.main.scope
noncomputable def r(a:Addr):Value:=.ref a
noncomputable def i(n:Int):Value:=.int n 0
noncomputable def de(P:Params)(k:Str)(t:Tok)(v:Value):DictEntry:=⟨PyData.keyHash P k,.str k t,v⟩
noncomputable def tu(l:List Value):Obj:=⟨.type "tuple",none,.seq l.toArray 0,#[]⟩
noncomputable def di(l:List DictEntry)(n:Nat):Obj:=⟨.type "dict",none,.dict l.toArray n,#[]⟩
noncomputable def co(l:List Value):Obj:=⟨.type "code",none,.fields l.toArray,#[]⟩
noncomputable def fd(l:List Value):Obj:=⟨.none,none,.fields l.toArray,#[]⟩
noncomputable def lf(x:Obj):BT:=.node x .nil .nil
noncomputable abbrev nd:Obj->BT->BT->BT:=BT.node
noncomputable def sf(t:Tok):Value:=.str "/claim/cut.py" t
noncomputable def fz(n q:Str)(s:Stmt):Obj:=⟨.none,none,.func ⟨n,q,ag s,.stmts (bd s),sc s,0,[],.none,.none,.none,.none,none,.none,.none,0⟩,#[]⟩
noncomputable def fn(n q:Str)(s:Stmt)(g:Addr)(c:List (Str×Addr))(d k o m:Value)(a:Option Addr)(x y:Value)(b:Addr):Obj:=⟨.type "function",none,.func ⟨n,q,ag s,.stmts (bd s),sc s,g,c,d,k,o,m,a,x,y,b⟩,#[]⟩
noncomputable def ib(s:Stmt)(i:Nat):Stmt:=nth (bd s) i
noncomputable def ev:Env:={scope:=pw.main.scope,locals:=mainNs,globals:=mainNs,cells:=[],code:=(r 13),frame:=some 14}
noncomputable def cd:Code:=.body bi ev
noncomputable abbrev an:Option Value:=(some (r 6))
noncomputable abbrev bk:List Frame:=[topFrame ⟨0,0,0,0⟩]
def o0:Obj:=tu []
def o1:Obj:=fd []
def o2:Obj:=co [(.str "<module>" 182),(.str "<module>" 183),(sf 184),(i 1),(i 0),(i 0),(i 0),(i 0),(r 11),(.bool false),(i 181),(r 12),.none,.none,.none,.none,(i 185),(i 1),(sf 186)]
def o3:Obj:=⟨(.type "frame"),none,.plain,#[(some (r 13)),(some (r 3)),(some (r 3)),none,(some (.str "__main__" 164)),none,(some (r 0))]⟩
def hA(P:Params):Heap:=⟨⟨[(boot_o_0 P),(boot_o_1 P),(boot_o_2 P),(boot_o_3 P),(boot_o_4 P),(boot_o_5 P),(boot_o_6 P),(boot_o_7 P),(boot_o_8 P),(boot_o_9 P),(boot_o_10 P),o0,o1,o2,o3]⟩,⟨[],[],[],0,[],[],false,#[],[],0,false,false,false,0,[2000,10,10],false,0,true,[],[],0,false⟩⟩
def sA(w:World)(os:OsState):Shared:=⟨hA w.params,#[],⟨0,0,0,0⟩,187,os⟩
theorem pre(w:World)(os:OsState):
  topGo treeTable pw w 11 an 12 ⟨boot_heap w.params,⟨[]⟩,boot_drawn,boot_toks,os⟩ (topStub pw) =
  some (sA w os,⟨denote treeTable cd,cd,⟨0,0,0,0⟩,bk⟩):=by kernel_rfl
def t0(P:Params):BT:=(nd (boot_o_0 P) (nd (boot_o_1 P) (nd (boot_o_3 P) (lf (boot_o_7 P)) (lf o0)) (nd (boot_o_5 P) (lf (boot_o_9 P)) (lf o2))) (nd (boot_o_2 P) (nd (boot_o_4 P) (lf (boot_o_8 P)) (lf o1)) (nd (boot_o_6 P) (lf (boot_o_10 P)) (lf o3))))
def s0(w:World)(os:OsState):SharedT:=⟨t0 w.params,15,⟨[],[],[],0,[],[],false,#[],[],0,false,false,false,0,[2000,10,10],false,0,true,[],[],0,false⟩,#[],⟨0,0,0,0⟩,187,os⟩
theorem blk(w:World)(os:OsState):
  segRun treeTable pw w 11 an 1 1 (sA w os) (blockOf bi ev cd ⟨0,0,0,0⟩ bk) =
  some (.next,(s0 w os).abs,cd,⟨0,0,0,0⟩):=by kernel_rfl
def o4(P:Params):Obj:=di [(de P "__name__" 165 (.str "fivefields.errors" 187)),(de P "__doc__" 166 .none),(de P "__package__" 167 .none),(de P "__loader__" 168 (.builtin "__main__.__loader__#opaque")),(de P "__spec__" 169 .none),(de P "__annotations__" 170 (r 6)),(de P "__builtins__" 171 (r 4)),(de P "__file__" 173 (sf 172)),(de P "__cached__" 174 .none),(de P "FieldError" 206 (r 24)),(de P "NoDay" 222 (r 37)),(de P "NoMoment" 238 (r 49)),(de P "NoField" 263 (r 68)),(de P "NoRow" 288 (r 87)),(de P "NoBook" 304 (r 99)),(de P "NoClock" 320 (r 111)),(de P "NoName" 345 (r 130)),(de P "NoWord" 361 (r 142))] 18
def o5:Obj:=fd [(i 2),(i 0),(r 20),(i 4),(i 0),(r 33),(i 6),(i 0),(r 45),(i 8),(i 0),(r 57),(i 12),(i 0),(r 76),(i 16),(i 0),(r 95),(i 18),(i 0),(r 107),(i 20),(i 0),(r 119),(i 24),(i 0),(r 138)]
def o6:Obj:=tu [(.type "ValueError")]
def o7:Obj:=⟨(.type "builtin_function_or_method"),none,(.fields #[(.builtin "type.__prepare__"),(.type "type")]),#[]⟩
def o8(P:Params):Obj:=di [(de P "__module__" 196 (.str "fivefields.errors" 187)),(de P "__qualname__" 198 (.str "FieldError" 197)),(de P "__firstlineno__" 200 (.int 2 199)),(de P "__static_attributes__" 201 (r 22))] 4
def o9:Obj:=co [(.str "FieldError" 191),(.str "FieldError" 192),(sf 193),(i 2),(i 0),(i 0),(i 0),(i 0),(r 18),(.bool false),(i 181),(r 19),.none,.none,.none,.none,(i 194),(i 2),(sf 195)]
def o10:Obj:=⟨(.type "frame"),none,.plain,#[(some (r 20)),(some (r 3)),(some (r 17)),none,(some (.str "fivefields.errors" 187)),none,(some (r 0))]⟩
def o11(P:Params):Obj:=di [(de P "__module__" 196 (.str "fivefields.errors" 187)),(de P "__firstlineno__" 200 (.int 2 199)),(de P "__static_attributes__" 201 (r 22)),(de P "__weakref__" 203 (r 25)),(de P "__doc__" 204 .none)] 3
def o12:Obj:=⟨(.type "type"),none,(.cls ⟨"FieldError",[(.type "ValueError")],[(r 24),(.type "ValueError"),(.type "Exception"),(.type "BaseException"),(.type "object")],23,"FieldError",true,[],[(r 37),(r 49),(r 68),(r 87),(r 99),(r 111),(r 130),(r 142)],false,none,false⟩),#[(some (r 15)),none,(some (.str "FieldError" 189)),(some (.str "FieldError" 197)),(some (.builtin "ValueError.__new__")),(some (.bool true))]⟩
def o13:Obj:=⟨(.type "getset_descriptor"),none,(.fields #[(.str "__weakref__" 202),(r 24),(.builtin "ExceptionGroup.__weakref__"),.none]),#[]⟩
def o14:Obj:=⟨(.type "super"),none,(.fields #[(r 24),(r 24),(r 24)]),#[]⟩
def o15:Obj:=⟨(.type "builtin_function_or_method"),none,(.fields #[(.builtin "object.__init_subclass__"),(r 24)]),#[]⟩
def o16:Obj:=tu [(r 24)]
def o17(P:Params):Obj:=di [(de P "__module__" 214 (.str "fivefields.errors" 187)),(de P "__qualname__" 216 (.str "NoDay" 215)),(de P "__firstlineno__" 218 (.int 4 217)),(de P "__static_attributes__" 219 (r 35))] 4
def o18:Obj:=co [(.str "NoDay" 209),(.str "NoDay" 210),(sf 211),(i 4),(i 0),(i 0),(i 0),(i 0),(r 31),(.bool false),(i 181),(r 32),.none,.none,.none,.none,(i 212),(i 4),(sf 213)]
def o19:Obj:=⟨(.type "frame"),none,.plain,#[(some (r 33)),(some (r 3)),(some (r 30)),none,(some (.str "fivefields.errors" 187)),none,(some (r 0))]⟩
def o20(P:Params):Obj:=di [(de P "__module__" 214 (.str "fivefields.errors" 187)),(de P "__firstlineno__" 218 (.int 4 217)),(de P "__static_attributes__" 219 (r 35)),(de P "__doc__" 220 .none)] 2
def o21:Obj:=⟨(.type "type"),none,(.cls ⟨"NoDay",[(r 24)],[(r 37),(r 24),(.type "ValueError"),(.type "Exception"),(.type "BaseException"),(.type "object")],36,"NoDay",true,[],[],false,none,false⟩),#[(some (r 28)),none,(some (.str "NoDay" 207)),(some (.str "NoDay" 215)),(some (.builtin "ValueError.__new__")),(some (.bool true))]⟩
def o22:Obj:=⟨(.type "super"),none,(.fields #[(r 37),(r 37),(r 37)]),#[]⟩
def o23:Obj:=⟨(.type "builtin_function_or_method"),none,(.fields #[(.builtin "object.__init_subclass__"),(r 37)]),#[]⟩
def o24(P:Params):Obj:=di [(de P "__module__" 230 (.str "fivefields.errors" 187)),(de P "__qualname__" 232 (.str "NoMoment" 231)),(de P "__firstlineno__" 234 (.int 6 233)),(de P "__static_attributes__" 235 (r 47))] 4
def o25:Obj:=co [(.str "NoMoment" 225),(.str "NoMoment" 226),(sf 227),(i 6),(i 0),(i 0),(i 0),(i 0),(r 43),(.bool false),(i 181),(r 44),.none,.none,.none,.none,(i 228),(i 6),(sf 229)]
def o26:Obj:=⟨(.type "frame"),none,.plain,#[(some (r 45)),(some (r 3)),(some (r 42)),none,(some (.str "fivefields.errors" 187)),none,(some (r 0))]⟩
def o27(P:Params):Obj:=di [(de P "__module__" 230 (.str "fivefields.errors" 187)),(de P "__firstlineno__" 234 (.int 6 233)),(de P "__static_attributes__" 235 (r 47)),(de P "__doc__" 236 .none)] 2
def o28:Obj:=⟨(.type "type"),none,(.cls ⟨"NoMoment",[(r 24)],[(r 49),(r 24),(.type "ValueError"),(.type "Exception"),(.type "BaseException"),(.type "object")],48,"NoMoment",true,[],[],false,none,false⟩),#[(some (r 40)),none,(some (.str "NoMoment" 223)),(some (.str "NoMoment" 231)),(some (.builtin "ValueError.__new__")),(some (.bool true))]⟩
def o29:Obj:=⟨(.type "super"),none,(.fields #[(r 49),(r 49),(r 49)]),#[]⟩
def o30:Obj:=⟨(.type "builtin_function_or_method"),none,(.fields #[(.builtin "object.__init_subclass__"),(r 49)]),#[]⟩
def o31(P:Params):Obj:=di [(de P "__module__" 246 (.str "fivefields.errors" 187)),(de P "__qualname__" 248 (.str "NoField" 247)),(de P "__firstlineno__" 250 (.int 8 249)),(de P "__init__" 258 (r 65)),(de P "__static_attributes__" 260 (r 66))] 5
def o32:Obj:=fd [(i 10),(i 4),(r 64)]
def o33:Obj:=co [(.str "NoField" 241),(.str "NoField" 242),(sf 243),(i 8),(i 0),(i 0),(i 0),(i 0),(r 55),(.bool false),(i 181),(r 56),.none,.none,.none,.none,(i 244),(i 8),(sf 245)]
def o34:Obj:=⟨(.type "frame"),none,.plain,#[(some (r 57)),(some (r 3)),(some (r 54)),none,(some (.str "fivefields.errors" 187)),none,(some (r 0))]⟩
def o35:Obj:=tu [(.str "self" 254),(.str "at" 255)]
def o36:Obj:=fz "__init__" "NoField.__init__" (ib (tp 4) 0)
def o37:Obj:=co [(.str "__init__" 251),(.str "NoField.__init__" 252),(sf 253),(i 10),(i 2),(i 0),(i 0),(i 3),(r 59),(.bool true),(i 181),(r 60),.none,(r 61),(r 62),(r 63),(i 256),(i 10),(sf 257)]
def o38:Obj:=fn "__init__" "NoField.__init__" (ib (tp 4) 0) 3 [] .none .none .none (.str "fivefields.errors" 187) none (r 64) .none 0
def o39:Obj:=tu [(.str "at" 259)]
def o40(P:Params):Obj:=di [(de P "__module__" 246 (.str "fivefields.errors" 187)),(de P "__firstlineno__" 250 (.int 8 249)),(de P "__init__" 258 (r 65)),(de P "__static_attributes__" 260 (r 66)),(de P "__doc__" 261 .none)] 2
def o41:Obj:=⟨(.type "type"),none,(.cls ⟨"NoField",[(r 24)],[(r 68),(r 24),(.type "ValueError"),(.type "Exception"),(.type "BaseException"),(.type "object")],67,"NoField",true,[],[],false,none,false⟩),#[(some (r 52)),none,(some (.str "NoField" 239)),(some (.str "NoField" 247)),(some (.builtin "ValueError.__new__")),(some (.bool true))]⟩
def o42:Obj:=⟨(.type "super"),none,(.fields #[(r 68),(r 68),(r 68)]),#[]⟩
def o43:Obj:=⟨(.type "builtin_function_or_method"),none,(.fields #[(.builtin "object.__init_subclass__"),(r 68)]),#[]⟩
def o44(P:Params):Obj:=di [(de P "__module__" 271 (.str "fivefields.errors" 187)),(de P "__qualname__" 273 (.str "NoRow" 272)),(de P "__firstlineno__" 275 (.int 12 274)),(de P "__init__" 283 (r 84)),(de P "__static_attributes__" 285 (r 85))] 5
def o45:Obj:=fd [(i 14),(i 4),(r 83)]
def o46:Obj:=co [(.str "NoRow" 266),(.str "NoRow" 267),(sf 268),(i 12),(i 0),(i 0),(i 0),(i 0),(r 74),(.bool false),(i 181),(r 75),.none,.none,.none,.none,(i 269),(i 12),(sf 270)]
def o47:Obj:=⟨(.type "frame"),none,.plain,#[(some (r 76)),(some (r 3)),(some (r 73)),none,(some (.str "fivefields.errors" 187)),none,(some (r 0))]⟩
def o48:Obj:=tu [(.str "self" 279),(.str "place" 280)]
def o49:Obj:=fz "__init__" "NoRow.__init__" (ib (tp 5) 0)
def o50:Obj:=co [(.str "__init__" 276),(.str "NoRow.__init__" 277),(sf 278),(i 14),(i 2),(i 0),(i 0),(i 3),(r 78),(.bool true),(i 181),(r 79),.none,(r 80),(r 81),(r 82),(i 281),(i 14),(sf 282)]
def o51:Obj:=fn "__init__" "NoRow.__init__" (ib (tp 5) 0) 3 [] .none .none .none (.str "fivefields.errors" 187) none (r 83) .none 0
def o52:Obj:=tu [(.str "place" 284)]
def o53(P:Params):Obj:=di [(de P "__module__" 271 (.str "fivefields.errors" 187)),(de P "__firstlineno__" 275 (.int 12 274)),(de P "__init__" 283 (r 84)),(de P "__static_attributes__" 285 (r 85)),(de P "__doc__" 286 .none)] 2
def o54:Obj:=⟨(.type "type"),none,(.cls ⟨"NoRow",[(r 24)],[(r 87),(r 24),(.type "ValueError"),(.type "Exception"),(.type "BaseException"),(.type "object")],86,"NoRow",true,[],[],false,none,false⟩),#[(some (r 71)),none,(some (.str "NoRow" 264)),(some (.str "NoRow" 272)),(some (.builtin "ValueError.__new__")),(some (.bool true))]⟩
def o55:Obj:=⟨(.type "super"),none,(.fields #[(r 87),(r 87),(r 87)]),#[]⟩
def o56:Obj:=⟨(.type "builtin_function_or_method"),none,(.fields #[(.builtin "object.__init_subclass__"),(r 87)]),#[]⟩
def o57(P:Params):Obj:=di [(de P "__module__" 296 (.str "fivefields.errors" 187)),(de P "__qualname__" 298 (.str "NoBook" 297)),(de P "__firstlineno__" 300 (.int 16 299)),(de P "__static_attributes__" 301 (r 97))] 4
def o58:Obj:=co [(.str "NoBook" 291),(.str "NoBook" 292),(sf 293),(i 16),(i 0),(i 0),(i 0),(i 0),(r 93),(.bool false),(i 181),(r 94),.none,.none,.none,.none,(i 294),(i 16),(sf 295)]
def o59:Obj:=⟨(.type "frame"),none,.plain,#[(some (r 95)),(some (r 3)),(some (r 92)),none,(some (.str "fivefields.errors" 187)),none,(some (r 0))]⟩
def o60(P:Params):Obj:=di [(de P "__module__" 296 (.str "fivefields.errors" 187)),(de P "__firstlineno__" 300 (.int 16 299)),(de P "__static_attributes__" 301 (r 97)),(de P "__doc__" 302 .none)] 2
def o61:Obj:=⟨(.type "type"),none,(.cls ⟨"NoBook",[(r 24)],[(r 99),(r 24),(.type "ValueError"),(.type "Exception"),(.type "BaseException"),(.type "object")],98,"NoBook",true,[],[],false,none,false⟩),#[(some (r 90)),none,(some (.str "NoBook" 289)),(some (.str "NoBook" 297)),(some (.builtin "ValueError.__new__")),(some (.bool true))]⟩
def o62:Obj:=⟨(.type "super"),none,(.fields #[(r 99),(r 99),(r 99)]),#[]⟩
def o63:Obj:=⟨(.type "builtin_function_or_method"),none,(.fields #[(.builtin "object.__init_subclass__"),(r 99)]),#[]⟩
def o64(P:Params):Obj:=di [(de P "__module__" 312 (.str "fivefields.errors" 187)),(de P "__qualname__" 314 (.str "NoClock" 313)),(de P "__firstlineno__" 316 (.int 18 315)),(de P "__static_attributes__" 317 (r 109))] 4
def o65:Obj:=co [(.str "NoClock" 307),(.str "NoClock" 308),(sf 309),(i 18),(i 0),(i 0),(i 0),(i 0),(r 105),(.bool false),(i 181),(r 106),.none,.none,.none,.none,(i 310),(i 18),(sf 311)]
def o66:Obj:=⟨(.type "frame"),none,.plain,#[(some (r 107)),(some (r 3)),(some (r 104)),none,(some (.str "fivefields.errors" 187)),none,(some (r 0))]⟩
def o67(P:Params):Obj:=di [(de P "__module__" 312 (.str "fivefields.errors" 187)),(de P "__firstlineno__" 316 (.int 18 315)),(de P "__static_attributes__" 317 (r 109)),(de P "__doc__" 318 .none)] 2
def o68:Obj:=⟨(.type "type"),none,(.cls ⟨"NoClock",[(r 24)],[(r 111),(r 24),(.type "ValueError"),(.type "Exception"),(.type "BaseException"),(.type "object")],110,"NoClock",true,[],[],false,none,false⟩),#[(some (r 102)),none,(some (.str "NoClock" 305)),(some (.str "NoClock" 313)),(some (.builtin "ValueError.__new__")),(some (.bool true))]⟩
def o69:Obj:=⟨(.type "super"),none,(.fields #[(r 111),(r 111),(r 111)]),#[]⟩
def o70:Obj:=⟨(.type "builtin_function_or_method"),none,(.fields #[(.builtin "object.__init_subclass__"),(r 111)]),#[]⟩
def o71(P:Params):Obj:=di [(de P "__module__" 328 (.str "fivefields.errors" 187)),(de P "__qualname__" 330 (.str "NoName" 329)),(de P "__firstlineno__" 332 (.int 20 331)),(de P "__init__" 340 (r 127)),(de P "__static_attributes__" 342 (r 128))] 5
def o72:Obj:=fd [(i 22),(i 4),(r 126)]
def o73:Obj:=co [(.str "NoName" 323),(.str "NoName" 324),(sf 325),(i 20),(i 0),(i 0),(i 0),(i 0),(r 117),(.bool false),(i 181),(r 118),.none,.none,.none,.none,(i 326),(i 20),(sf 327)]
def o74:Obj:=⟨(.type "frame"),none,.plain,#[(some (r 119)),(some (r 3)),(some (r 116)),none,(some (.str "fivefields.errors" 187)),none,(some (r 0))]⟩
def o75:Obj:=tu [(.str "self" 336),(.str "name" 337)]
def o76:Obj:=fz "__init__" "NoName.__init__" (ib (tp 8) 0)
def o77:Obj:=co [(.str "__init__" 333),(.str "NoName.__init__" 334),(sf 335),(i 22),(i 2),(i 0),(i 0),(i 3),(r 121),(.bool true),(i 181),(r 122),.none,(r 123),(r 124),(r 125),(i 338),(i 22),(sf 339)]
def o78:Obj:=fn "__init__" "NoName.__init__" (ib (tp 8) 0) 3 [] .none .none .none (.str "fivefields.errors" 187) none (r 126) .none 0
def o79:Obj:=tu [(.str "name" 341)]
def o80(P:Params):Obj:=di [(de P "__module__" 328 (.str "fivefields.errors" 187)),(de P "__firstlineno__" 332 (.int 20 331)),(de P "__init__" 340 (r 127)),(de P "__static_attributes__" 342 (r 128)),(de P "__doc__" 343 .none)] 2
def o81:Obj:=⟨(.type "type"),none,(.cls ⟨"NoName",[(r 24)],[(r 130),(r 24),(.type "ValueError"),(.type "Exception"),(.type "BaseException"),(.type "object")],129,"NoName",true,[],[],false,none,false⟩),#[(some (r 114)),none,(some (.str "NoName" 321)),(some (.str "NoName" 329)),(some (.builtin "ValueError.__new__")),(some (.bool true))]⟩
def o82:Obj:=⟨(.type "super"),none,(.fields #[(r 130),(r 130),(r 130)]),#[]⟩
def o83:Obj:=⟨(.type "builtin_function_or_method"),none,(.fields #[(.builtin "object.__init_subclass__"),(r 130)]),#[]⟩
def o84(P:Params):Obj:=di [(de P "__module__" 353 (.str "fivefields.errors" 187)),(de P "__qualname__" 355 (.str "NoWord" 354)),(de P "__firstlineno__" 357 (.int 24 356)),(de P "__static_attributes__" 358 (r 140))] 4
def o85:Obj:=co [(.str "NoWord" 348),(.str "NoWord" 349),(sf 350),(i 24),(i 0),(i 0),(i 0),(i 0),(r 136),(.bool false),(i 181),(r 137),.none,.none,.none,.none,(i 351),(i 24),(sf 352)]
def o86:Obj:=⟨(.type "frame"),none,.plain,#[(some (r 138)),(some (r 3)),(some (r 135)),none,(some (.str "fivefields.errors" 187)),none,(some (r 0))]⟩
def o87(P:Params):Obj:=di [(de P "__module__" 353 (.str "fivefields.errors" 187)),(de P "__firstlineno__" 357 (.int 24 356)),(de P "__static_attributes__" 358 (r 140)),(de P "__doc__" 359 .none)] 2
def o88:Obj:=⟨(.type "type"),none,(.cls ⟨"NoWord",[(r 24)],[(r 142),(r 24),(.type "ValueError"),(.type "Exception"),(.type "BaseException"),(.type "object")],141,"NoWord",true,[],[],false,none,false⟩),#[(some (r 133)),none,(some (.str "NoWord" 346)),(some (.str "NoWord" 354)),(some (.builtin "ValueError.__new__")),(some (.bool true))]⟩
def o89:Obj:=⟨(.type "super"),none,(.fields #[(r 142),(r 142),(r 142)]),#[]⟩
def o90:Obj:=⟨(.type "builtin_function_or_method"),none,(.fields #[(.builtin "object.__init_subclass__"),(r 142)]),#[]⟩
def t1(P:Params):BT:=(nd (boot_o_0 P) (nd (boot_o_1 P) (nd (o4 P) (nd (boot_o_7 P) (nd o6 (nd o0 (nd o36 (lf o78) .nil) (lf o58)) (nd o0 (nd o1 (lf o89) .nil) (lf o68))) (nd (o11 P) (nd o23 (nd o16 (lf (o84 P)) .nil) (lf o7)) (nd o0 (lf o54) (lf o73)))) (nd o0 (nd o1 (nd o0 (nd (o40 P) (lf o82) .nil) (lf o61)) (nd o30 (lf o50) (lf o7))) (nd o15 (nd o0 (nd o45 (lf o86) .nil) (lf o65)) (nd o0 (lf o7) (lf o75))))) (nd (boot_o_5 P) (nd (boot_o_9 P) (nd (o8 P) (nd o18 (nd o38 (lf (o80 P)) .nil) (lf o0)) (nd o28 (lf o0) (lf o70))) (nd o13 (nd o7 (nd (o44 P) (lf o1) .nil) (lf o0)) (nd o33 (lf o56) (lf o0)))) (nd o2 (nd o10 (nd o21 (nd o42 (lf o16) .nil) (lf o63)) (nd o7 (lf o52) (lf o0))) (nd o7 (nd o25 (nd o47 (lf (o87 P)) .nil) (lf o0)) (nd o35 (lf o0) (lf o76)))))) (nd (boot_o_2 P) (nd (boot_o_4 P) (nd (boot_o_8 P) (nd o7 (nd o1 (nd o37 (lf o79) .nil) (lf o59)) (nd (o27 P) (nd o48 (lf o90) .nil) (lf o69))) (nd o12 (nd o16 (nd o7 (lf o0) .nil) (lf (o64 P))) (nd o32 (lf o55) (lf o74)))) (nd o5 (nd o9 (nd (o20 P) (nd o41 (lf o83) .nil) (lf o62)) (nd o16 (lf o51) (lf (o71 P)))) (nd o16 (nd o1 (nd o46 (lf o0) .nil) (lf o66)) (nd o1 (lf (o57 P)) (lf o0))))) (nd (boot_o_6 P) (nd (boot_o_10 P) (nd o0 (nd o19 (nd o39 (lf o81) .nil) (lf (o60 P))) (nd o29 (lf o49) (lf o16))) (nd o14 (nd (o24 P) (nd o0 (lf o85) .nil) (lf o1)) (nd o34 (lf o16) (lf o1)))) (nd o3 (nd o0 (nd o22 (nd o43 (lf o7) .nil) (lf o16)) (nd (o31 P) (lf (o53 P)) (lf o72))) (nd (o17 P) (nd o26 (nd o0 (lf o88) .nil) (lf (o67 P))) (nd o0 (lf o1) (lf o77)))))))
def s1(w:World)(os:OsState):SharedT:=⟨t1 w.params,145,⟨[],[],[],0,[],[],false,#[],[],0,false,false,false,0,[2000,10,10],false,0,true,[],[],0,false⟩,#[],⟨0,0,0,0⟩,362,os⟩
def l0:List Stmt:=(bi.drop 0).take 10
theorem r0(w:World)(os:OsState):
  segRunT treeTable pw w 11 an 1 1996 (s0 w os) (piecesOf l0 ev cd ⟨0,0,0,0⟩ bk) =
  some (.next,s1 w os,cd,⟨24,0,25,8⟩):=by kernel_rfl
def o91(P:Params):Obj:=di [(de P "__name__" 165 (.str "law_fivefields_k24_first_wrong_item" 459)),(de P "__doc__" 166 .none),(de P "__package__" 167 .none),(de P "__loader__" 168 (.builtin "__main__.__loader__#opaque")),(de P "__spec__" 169 .none),(de P "__annotations__" 170 (r 6)),(de P "__builtins__" 171 (r 4)),(de P "__file__" 173 (sf 172)),(de P "__cached__" 174 .none),(de P "FieldError" 206 (r 24)),(de P "NoDay" 222 (r 37)),(de P "NoMoment" 238 (r 49)),(de P "NoField" 263 (r 68)),(de P "NoRow" 288 (r 87)),(de P "NoBook" 304 (r 99)),(de P "NoClock" 320 (r 111)),(de P "NoName" 345 (r 130)),(de P "NoWord" 361 (r 142)),(de P "FIGURES" 365 (.str "0123456789" 364)),(de P "all_figures" 371 (r 149)),(de P "is_written" 378 (r 156)),(de P "MOST_SIGNS" 382 (.int 300 381)),(de P "MOST_ITEMS" 384 (.int 40 383)),(de P "MOST_STRIDE" 386 (.int 99 385)),(de P "mask_of" 395 (r 163)),(de P "run_mask" 404 (r 170)),(de P "read_number" 414 (r 177)),(de P "read_run" 420 (r 182)),(de P "read_strided" 433 (r 189)),(de P "read_item" 444 (r 196)),(de P "read_field" 458 (r 203)),(de P "_law_cell_at" 468 (r 210)),(de P "_law_stir" 477 (r 217)),(de P "_law_digits" 488 (r 224)),(de P "_law_whole" 495 (r 231)),(de P "_law_bounds" 505 (r 238)),(de P "_law_item" 522 (r 245)),(de P "_law_told" 528 (r 250)),(de P "_law_mask" 537 (r 257)),(de P "_law_wrong" 548 (r 264)),(de P "_law_refused" 559 (r 271)),(de P "_law_right" 572 (r 278)),(de P "_law_spoilt" 584 (r 285)),(de P "_law_many" 590 (r 290)),(de P "law" 612 (r 297))] 45
def o92:Obj:=fd [(i 2),(i 0),(r 20),(i 4),(i 0),(r 33),(i 6),(i 0),(r 45),(i 8),(i 0),(r 57),(i 12),(i 0),(r 76),(i 16),(i 0),(r 95),(i 18),(i 0),(r 107),(i 20),(i 0),(r 119),(i 24),(i 0),(r 138),(i 28),(i 0),(r 148),(i 30),(i 0),(r 155),(i 36),(i 0),(r 162),(i 41),(i 0),(r 169),(i 43),(i 0),(r 176),(i 50),(i 0),(r 181),(i 57),(i 0),(r 188),(i 64),(i 0),(r 195),(i 72),(i 0),(r 202),(i 86),(i 0),(r 209),(i 90),(i 0),(r 216),(i 94),(i 0),(r 223),(i 105),(i 0),(r 230),(i 107),(i 0),(r 237),(i 112),(i 0),(r 244),(i 128),(i 0),(r 249),(i 131),(i 0),(r 256),(i 137),(i 0),(r 263),(i 148),(i 0),(r 270),(i 158),(i 0),(r 277),(i 165),(i 0),(r 284),(i 176),(i 0),(r 289),(i 188),(i 0),(r 296)]
def o93:Obj:=fz "all_figures" "all_figures" (tp 12)
def o94:Obj:=co [(.str "all_figures" 366),(.str "all_figures" 367),(sf 368),(i 28),(i 1),(i 0),(i 0),(i 3),(r 145),(.bool true),(i 181),(r 146),.none,.none,.none,(r 147),(i 369),(i 28),(sf 370)]
def o95:Obj:=fn "all_figures" "all_figures" (tp 12) 3 [] .none .none .none (.str "fivefields.figures" 362) none (r 148) .none 0
def o96:Obj:=tu [(.str "text" 375)]
def o97:Obj:=fz "is_written" "is_written" (tp 13)
def o98:Obj:=co [(.str "is_written" 372),(.str "is_written" 373),(sf 374),(i 30),(i 1),(i 0),(i 0),(i 3),(r 150),(.bool true),(i 181),(r 151),.none,(r 152),(r 153),(r 154),(i 376),(i 30),(sf 377)]
def o99:Obj:=fn "is_written" "is_written" (tp 13) 3 [] .none .none .none (.str "fivefields.figures" 362) none (r 155) .none 0
def aoT:Obj:=tu [(.str "numbers" 390),(.str "mask" 391),(.str "number" 392)]
def arR:Obj:=fz "mask_of" "mask_of" (tp 18)
def apO:Obj:=co [(.str "mask_of" 387),(.str "mask_of" 388),(sf 389),(i 36),(i 1),(i 0),(i 0),(i 3),(r 157),(.bool true),(i 181),(r 158),.none,(r 159),(r 160),(r 161),(i 393),(i 36),(sf 394)]
def aoU:Obj:=fn "mask_of" "mask_of" (tp 18) 3 [] .none .none .none (.str "fivefields.fields" 379) none (r 162) .none 0
def arQ:Obj:=tu [(.str "first" 399),(.str "last" 400),(.str "stride" 401)]
def ap5:Obj:=fz "run_mask" "run_mask" (tp 19)
def aoJ:Obj:=co [(.str "run_mask" 396),(.str "run_mask" 397),(sf 398),(i 41),(i 3),(i 0),(i 0),(i 3),(r 164),(.bool true),(i 181),(r 165),.none,(r 166),(r 167),(r 168),(i 402),(i 41),(sf 403)]
def apR:Obj:=fn "run_mask" "run_mask" (tp 19) 3 [] .none .none .none (.str "fivefields.fields" 379) none (r 169) .none 0
def apI:Obj:=tu [(.str "text" 408),(.str "low" 409),(.str "high" 410),(.str "number" 411)]
def apM:Obj:=fz "read_number" "read_number" (tp 20)
def aqH:Obj:=co [(.str "read_number" 405),(.str "read_number" 406),(sf 407),(i 43),(i 3),(i 0),(i 0),(i 3),(r 171),(.bool true),(i 181),(r 172),.none,(r 173),(r 174),(r 175),(i 412),(i 43),(sf 413)]
def aqX:Obj:=fn "read_number" "read_number" (tp 20) 3 [] .none .none .none (.str "fivefields.fields" 379) none (r 176) .none 0
def aoH:Obj:=fz "read_run" "read_run" (tp 21)
def aoS:Obj:=co [(.str "read_run" 415),(.str "read_run" 416),(sf 417),(i 50),(i 3),(i 0),(i 0),(i 3),(r 178),(.bool true),(i 181),(r 179),.none,.none,.none,(r 180),(i 418),(i 50),(sf 419)]
def ap3:Obj:=fn "read_run" "read_run" (tp 21) 3 [] .none .none .none (.str "fivefields.fields" 379) none (r 181) .none 0
def aq8:Obj:=tu [(.str "run_text" 424),(.str "stride_text" 425),(.str "low" 426),(.str "high" 427),(.str "run" 428),(.str "stride" 429),(.str "last" 430)]
def aqW:Obj:=fz "read_strided" "read_strided" (tp 22)
def ao4:Obj:=co [(.str "read_strided" 421),(.str "read_strided" 422),(sf 423),(i 57),(i 4),(i 0),(i 0),(i 3),(r 183),(.bool true),(i 181),(r 184),.none,(r 185),(r 186),(r 187),(i 431),(i 57),(sf 432)]
def aoG:Obj:=fn "read_strided" "read_strided" (tp 22) 3 [] .none .none .none (.str "fivefields.fields" 379) none (r 188) .none 0
def aqB:Obj:=tu [(.str "item" 437),(.str "low" 438),(.str "high" 439),(.str "parts" 440),(.str "run" 441)]
def apC:Obj:=fz "read_item" "read_item" (tp 23)
def arK:Obj:=co [(.str "read_item" 434),(.str "read_item" 435),(sf 436),(i 64),(i 3),(i 0),(i 0),(i 3),(r 190),(.bool true),(i 181),(r 191),.none,(r 192),(r 193),(r 194),(i 442),(i 64),(sf 443)]
def apV:Obj:=fn "read_item" "read_item" (tp 23) 3 [] .none .none .none (.str "fivefields.fields" 379) none (r 195) .none 0
def arE:Obj:=tu [(.str "text" 448),(.str "low" 449),(.str "high" 450),(.str "items" 451),(.str "mask" 452),(.str "place" 453),(.str "item" 454),(.str "told" 455)]
def aqQ:Obj:=fz "read_field" "read_field" (tp 24)
def aq2:Obj:=co [(.str "read_field" 445),(.str "read_field" 446),(sf 447),(i 72),(i 3),(i 0),(i 0),(i 3),(r 197),(.bool true),(i 181),(r 198),.none,(r 199),(r 200),(r 201),(i 456),(i 72),(sf 457)]
def an8:Obj:=fn "read_field" "read_field" (tp 24) 3 [] .none .none .none (.str "fivefields.fields" 379) none (r 202) .none 0
def ap0:Obj:=tu [(.str "_law_script" 464),(.str "_law_k" 465)]
def aq7:Obj:=fz "_law_cell_at" "_law_cell_at" (tp 26)
def aqA:Obj:=co [(.str "_law_cell_at" 461),(.str "_law_cell_at" 462),(sf 463),(i 86),(i 2),(i 0),(i 0),(i 3),(r 204),(.bool true),(i 181),(r 205),.none,(r 206),(r 207),(r 208),(i 466),(i 86),(sf 467)]
def aqC:Obj:=fn "_law_cell_at" "_law_cell_at" (tp 26) 3 [] .none .none .none (.str "law_fivefields_k24_first_wrong_item" 459) none (r 209) .none 0
def arB:Obj:=tu [(.str "_law_number" 472),(.str "_law_first" 473),(.str "_law_second" 474)]
def aoK:Obj:=fz "_law_stir" "_law_stir" (tp 27)
def ap2:Obj:=co [(.str "_law_stir" 469),(.str "_law_stir" 470),(sf 471),(i 90),(i 1),(i 0),(i 0),(i 3),(r 211),(.bool true),(i 181),(r 212),.none,(r 213),(r 214),(r 215),(i 475),(i 90),(sf 476)]
def aqD:Obj:=fn "_law_stir" "_law_stir" (tp 27) 3 [] .none .none .none (.str "law_fivefields_k24_first_wrong_item" 459) none (r 216) .none 0
def aoN:Obj:=tu [(.str "_law_cell" 481),(.str "_law_sizes" 482),(.str "_law_mixed" 483),(.str "_law_found" 484),(.str "_law_size" 485)]
def arC:Obj:=fz "_law_digits" "_law_digits" (tp 28)
def apY:Obj:=co [(.str "_law_digits" 478),(.str "_law_digits" 479),(sf 480),(i 94),(i 3),(i 0),(i 0),(i 3),(r 218),(.bool true),(i 181),(r 219),.none,(r 220),(r 221),(r 222),(i 486),(i 94),(sf 487)]
def apZ:Obj:=fn "_law_digits" "_law_digits" (tp 28) 3 [] .none .none .none (.str "law_fivefields_k24_first_wrong_item" 459) none (r 223) .none 0
def aqN:Obj:=tu [(.str "_law_found" 492)]
def ap8:Obj:=fz "_law_whole" "_law_whole" (tp 29)
def aoP:Obj:=co [(.str "_law_whole" 489),(.str "_law_whole" 490),(sf 491),(i 105),(i 1),(i 0),(i 0),(i 3),(r 225),(.bool true),(i 181),(r 226),.none,(r 227),(r 228),(r 229),(i 493),(i 105),(sf 494)]
def aqJ:Obj:=fn "_law_whole" "_law_whole" (tp 29) 3 [] .none .none .none (.str "law_fivefields_k24_first_wrong_item" 459) none (r 230) .none 0
def apH:Obj:=tu [(.str "_law_which" 499),(.str "_law_one" 500),(.str "_law_other" 501),(.str "_law_some" 502)]
def arF:Obj:=fz "_law_bounds" "_law_bounds" (tp 30)
def aoF:Obj:=co [(.str "_law_bounds" 496),(.str "_law_bounds" 497),(sf 498),(i 107),(i 3),(i 0),(i 0),(i 3),(r 232),(.bool true),(i 181),(r 233),.none,(r 234),(r 235),(r 236),(i 503),(i 107),(sf 504)]
def aoB:Obj:=fn "_law_bounds" "_law_bounds" (tp 30) 3 [] .none .none .none (.str "law_fivefields_k24_first_wrong_item" 459) none (r 237) .none 0
def apX:Obj:=tu [(.str "_law_digits_here" 509),(.str "_law_low" 510),(.str "_law_high" 511),(.str "_law_form" 512),(.str "_law_one" 513),(.str "_law_other" 514),(.str "_law_far" 515),(.str "_law_steps" 516),(.str "_law_first" 517),(.str "_law_last" 518),(.str "_law_step" 519)]
def arG:Obj:=fz "_law_item" "_law_item" (tp 31)
def apU:Obj:=co [(.str "_law_item" 506),(.str "_law_item" 507),(sf 508),(i 112),(i 3),(i 0),(i 0),(i 3),(r 239),(.bool true),(i 181),(r 240),.none,(r 241),(r 242),(r 243),(i 520),(i 112),(sf 521)]
def aqP:Obj:=fn "_law_item" "_law_item" (tp 31) 3 [] .none .none .none (.str "law_fivefields_k24_first_wrong_item" 459) none (r 244) .none 0
def aqI:Obj:=fz "_law_told" "_law_told" (tp 32)
def arU:Obj:=co [(.str "_law_told" 523),(.str "_law_told" 524),(sf 525),(i 128),(i 1),(i 0),(i 0),(i 3),(r 246),(.bool true),(i 181),(r 247),.none,.none,.none,(r 248),(i 526),(i 128),(sf 527)]
def aoR:Obj:=fn "_law_told" "_law_told" (tp 32) 3 [] .none .none .none (.str "law_fivefields_k24_first_wrong_item" 459) none (r 249) .none 0
def aq4:Obj:=tu [(.str "_law_numbers" 532),(.str "_law_mask_here" 533),(.str "_law_number" 534)]
def an6:Obj:=fz "_law_mask" "_law_mask" (tp 33)
def aqU:Obj:=co [(.str "_law_mask" 529),(.str "_law_mask" 530),(sf 531),(i 131),(i 1),(i 0),(i 0),(i 3),(r 251),(.bool true),(i 181),(r 252),.none,(r 253),(r 254),(r 255),(i 535),(i 131),(sf 536)]
def aoL:Obj:=fn "_law_mask" "_law_mask" (tp 33) 3 [] .none .none .none (.str "law_fivefields_k24_first_wrong_item" 459) none (r 256) .none 0
def aqE:Obj:=tu [(.str "_law_cell" 541),(.str "_law_low" 542),(.str "_law_high" 543),(.str "_law_one" 544),(.str "_law_some" 545)]
def aqM:Obj:=fz "_law_wrong" "_law_wrong" (tp 34)
def arV:Obj:=co [(.str "_law_wrong" 538),(.str "_law_wrong" 539),(sf 540),(i 137),(i 3),(i 0),(i 0),(i 3),(r 258),(.bool true),(i 181),(r 259),.none,(r 260),(r 261),(r 262),(i 546),(i 137),(sf 547)]
def aqK:Obj:=fn "_law_wrong" "_law_wrong" (tp 34) 3 [] .none .none .none (.str "law_fivefields_k24_first_wrong_item" 459) none (r 263) .none 0
def aoI:Obj:=tu [(.str "_law_text" 552),(.str "_law_low" 553),(.str "_law_high" 554),(.str "_law_at" 555),(.str "e" 556)]
def aqL:Obj:=fz "_law_refused" "_law_refused" (tp 35)
def ao7:Obj:=co [(.str "_law_refused" 549),(.str "_law_refused" 550),(sf 551),(i 148),(i 4),(i 0),(i 0),(i 3),(r 265),(.bool true),(i 181),(r 266),.none,(r 267),(r 268),(r 269),(i 557),(i 148),(sf 558)]
def aqT:Obj:=fn "_law_refused" "_law_refused" (tp 35) 3 [] .none .none .none (.str "law_fivefields_k24_first_wrong_item" 459) none (r 270) .none 0
def aoY:Obj:=tu [(.str "_law_script" 563),(.str "_law_low" 564),(.str "_law_high" 565),(.str "_law_mixed" 566),(.str "_law_texts" 567),(.str "_law_k" 568),(.str "_law_item_here" 569)]
def ap4:Obj:=fz "_law_right" "_law_right" (tp 36)
def apW:Obj:=co [(.str "_law_right" 560),(.str "_law_right" 561),(sf 562),(i 158),(i 4),(i 0),(i 0),(i 3),(r 272),(.bool true),(i 181),(r 273),.none,(r 274),(r 275),(r 276),(i 570),(i 158),(sf 571)]
def ao0:Obj:=fn "_law_right" "_law_right" (tp 36) 3 [] .none .none .none (.str "law_fivefields_k24_first_wrong_item" 459) none (r 277) .none 0
def apF:Obj:=tu [(.str "_law_digits_here" 576),(.str "_law_texts" 577),(.str "_law_low" 578),(.str "_law_high" 579),(.str "_law_at" 580),(.str "_law_other" 581)]
def aqZ:Obj:=fz "_law_spoilt" "_law_spoilt" (tp 37)
def aqO:Obj:=co [(.str "_law_spoilt" 573),(.str "_law_spoilt" 574),(sf 575),(i 165),(i 4),(i 0),(i 0),(i 3),(r 279),(.bool true),(i 181),(r 280),.none,(r 281),(r 282),(r 283),(i 582),(i 165),(sf 583)]
def aq5:Obj:=fn "_law_spoilt" "_law_spoilt" (tp 37) 3 [] .none .none .none (.str "law_fivefields_k24_first_wrong_item" 459) none (r 284) .none 0
def aq0:Obj:=fz "_law_many" "_law_many" (tp 38)
def arM:Obj:=co [(.str "_law_many" 585),(.str "_law_many" 586),(sf 587),(i 176),(i 3),(i 0),(i 0),(i 3),(r 286),(.bool true),(i 181),(r 287),.none,.none,.none,(r 288),(i 588),(i 176),(sf 589)]
def aoQ:Obj:=fn "_law_many" "_law_many" (tp 38) 3 [] .none .none .none (.str "law_fivefields_k24_first_wrong_item" 459) none (r 289) .none 0
def aq6:Obj:=tu [(.str "_law_script" 594),(.str "_law_mixed" 595),(.str "_law_which" 596),(.str "_law_one" 597),(.str "_law_other" 598),(.str "_law_kind" 599),(.str "_law_low" 600),(.str "_law_high" 601),(.str "_law_texts" 602),(.str "_law_there" 603),(.str "_law_digits_here" 604),(.str "_law_text" 605),(.str "_law_at" 606),(.str "_law_forty" 607),(.str "_law_long" 608),(.str "_law_many_here" 609)]
def apL:Obj:=fz "law" "law" (tp 39)
def arL:Obj:=co [(.str "law" 591),(.str "law" 592),(sf 593),(i 188),(i 1),(i 0),(i 0),(i 3),(r 291),(.bool true),(i 181),(r 292),.none,(r 293),(r 294),(r 295),(i 610),(i 188),(sf 611)]
def aoC:Obj:=fn "law" "law" (tp 39) 3 [] .none .none .none (.str "law_fivefields_k24_first_wrong_item" 459) none (r 296) .none 0
def t2(P:Params):BT:=(nd (boot_o_0 P) (nd (boot_o_1 P) (nd (o91 P) (nd (boot_o_7 P) (nd o6 (nd o0 (nd o36 (nd o78 (lf an6) .nil) (lf o1)) (nd o58 (nd aoT (lf o1) .nil) (lf apY))) (nd o0 (nd o1 (nd o89 (lf aqT) .nil) (lf o0)) (nd o68 (lf apM) (lf o0)))) (nd (o11 P) (nd o23 (nd o16 (nd (o84 P) (lf arV) .nil) (lf arE)) (nd o7 (nd o0 (lf apL) .nil) (lf aqJ))) (nd o0 (nd o54 (nd o1 (lf o0) .nil) (lf aoK)) (nd o73 (lf o0) (lf o1))))) (nd o0 (nd o1 (nd o0 (nd (o40 P) (nd o82 (lf o1) .nil) (lf arK)) (nd o61 (nd aoU (lf o0) .nil) (lf aqN))) (nd o30 (nd o50 (nd o93 (lf o0) .nil) (lf o0)) (nd o7 (lf o1) (lf arG)))) (nd o15 (nd o0 (nd o45 (nd o86 (lf aoI) .nil) (lf an8)) (nd o65 (lf o0) (lf o0))) (nd o0 (nd o7 (nd o98 (lf aqZ) .nil) (lf o1)) (nd o75 (lf aqW) (lf o0)))))) (nd (boot_o_5 P) (nd (boot_o_9 P) (nd (o8 P) (nd o18 (nd o38 (nd (o80 P) (lf aoL) .nil) (lf o0)) (nd o0 (nd arR (lf arM) .nil) (lf o0))) (nd o28 (nd o0 (nd o0 (lf o1) .nil) (lf aqA)) (nd o70 (lf aqX) (lf apX)))) (nd o13 (nd o7 (nd (o44 P) (nd o1 (lf o0) .nil) (lf aqQ)) (nd o0 (nd aoJ (lf aoC) .nil) (lf o1))) (nd o33 (nd o56 (nd o0 (lf apF) .nil) (lf aqD)) (nd o0 (lf aq8) (lf arU))))) (nd o2 (nd o10 (nd o21 (nd o42 (nd o16 (lf o0) .nil) (lf o0)) (nd o63 (nd o1 (lf aq6) .nil) (lf ap8))) (nd o7 (nd o52 (nd o95 (lf apW) .nil) (lf arB)) (nd o0 (lf aoS) (lf aqP)))) (nd o7 (nd o25 (nd o47 (nd (o87 P) (lf aqL) .nil) (lf o1)) (nd o0 (lf apI) (lf aoF))) (nd o35 (nd o0 (nd o0 (lf aq5) .nil) (lf o0)) (nd o76 (lf aoG) (lf aq4))))))) (nd (boot_o_2 P) (nd (boot_o_4 P) (nd (boot_o_8 P) (nd o7 (nd o1 (nd o37 (nd o79 (lf aqU) .nil) (lf aqB)) (nd o59 (nd o0 (lf aq0) .nil) (lf apZ))) (nd (o27 P) (nd o48 (nd o90 (lf o0) .nil) (lf aq7)) (nd o69 (lf aqH) (lf o1)))) (nd o12 (nd o16 (nd o7 (nd o0 (lf aqK) .nil) (lf o0)) (nd (o64 P) (nd ap5 (lf arL) .nil) (lf o0))) (nd o32 (nd o55 (nd o96 (lf o1) .nil) (lf ap2)) (nd o74 (lf o1) (lf aqI))))) (nd o92 (nd o9 (nd (o20 P) (nd o41 (nd o83 (lf aqE) .nil) (lf apV)) (nd o62 (nd o0 (lf o1) .nil) (lf o0))) (nd o16 (nd o51 (nd o94 (lf ap4) .nil) (lf o1)) (nd (o71 P) (lf aoH) (lf apU)))) (nd o16 (nd o1 (nd o46 (nd o0 (lf o0) .nil) (lf o0)) (nd o66 (lf o1) (lf arF))) (nd o1 (nd (o57 P) (nd o99 (lf aqO) .nil) (lf aoN)) (nd o0 (lf ao4) (lf o1)))))) (nd (boot_o_6 P) (nd (boot_o_10 P) (nd o0 (nd o19 (nd o39 (nd o81 (lf o0) .nil) (lf apC)) (nd (o60 P) (nd apO (lf aoQ) .nil) (lf o1))) (nd o29 (nd o49 (nd o1 (lf aoY) .nil) (lf aqC)) (nd o16 (lf o0) (lf o0)))) (nd o14 (nd (o24 P) (nd o0 (nd o85 (lf o1) .nil) (lf aq2)) (nd o1 (lf apR) (lf apH))) (nd o34 (nd o16 (nd o97 (lf o0) .nil) (lf o0)) (nd o1 (lf o0) (lf aoR))))) (nd o3 (nd o0 (nd o22 (nd o43 (nd o7 (lf aqM) .nil) (lf o1)) (nd o16 (nd arQ (lf o0) .nil) (lf aoP))) (nd (o31 P) (nd (o53 P) (nd o0 (lf ao0) .nil) (lf o0)) (nd o72 (lf ap3) (lf o0)))) (nd (o17 P) (nd o26 (nd o0 (nd o88 (lf ao7) .nil) (lf ap0)) (nd (o67 P) (lf o0) (lf aoB))) (nd o0 (nd o1 (nd o1 (lf o0) .nil) (lf arC)) (nd o77 (lf o0) (lf o0))))))))
def s2(w:World)(os:OsState):SharedT:=⟨t2 w.params,298,⟨[],[],[],0,[],[],false,#[],[],0,false,false,false,0,[2000,10,10],false,0,true,[],[],0,false⟩,#[],⟨0,0,0,0⟩,613,os⟩
def l1:List Stmt:=(bi.drop 10).take 30
theorem r1(w:World)(os:OsState):
  segRunT treeTable pw w 11 an 1 799 (s1 w os) (piecesOf l1 ev cd ⟨24,0,25,8⟩ bk) =
  some (.next,s2 w os,cd,⟨188,0,215,78⟩):=by kernel_rfl
def hF(P:Params):Heap:=⟨⟨[(boot_o_0 P),(boot_o_1 P),(boot_o_2 P),(o91 P),(boot_o_4 P),(boot_o_5 P),(boot_o_6 P),(boot_o_7 P),(boot_o_8 P),(boot_o_9 P),(boot_o_10 P),o0,o92,o2,o3,o6,o7,(o8 P),o0,o1,o9,o10,o0,(o11 P),o12,o13,o14,o15,o16,o7,(o17 P),o0,o1,o18,o19,o0,(o20 P),o21,o22,o23,o16,o7,(o24 P),o0,o1,o25,o26,o0,(o27 P),o28,o29,o30,o16,o7,(o31 P),o0,o32,o33,o34,o0,o1,o35,o0,o36,o37,o38,o39,(o40 P),o41,o42,o43,o16,o7,(o44 P),o0,o45,o46,o47,o0,o1,o48,o0,o49,o50,o51,o52,(o53 P),o54,o55,o56,o16,o7,(o57 P),o0,o1,o58,o59,o0,(o60 P),o61,o62,o63,o16,o7,(o64 P),o0,o1,o65,o66,o0,(o67 P),o68,o69,o70,o16,o7,(o71 P),o0,o72,o73,o74,o0,o1,o75,o0,o76,o77,o78,o79,(o80 P),o81,o82,o83,o16,o7,(o84 P),o0,o1,o85,o86,o0,(o87 P),o88,o89,o90,o0,o1,o93,o94,o95,o0,o1,o96,o0,o97,o98,o99,o0,o1,aoT,o0,arR,apO,aoU,o0,o1,arQ,o0,ap5,aoJ,apR,o0,o1,apI,o0,apM,aqH,aqX,o0,o1,aoH,aoS,ap3,o0,o1,aq8,o0,aqW,ao4,aoG,o0,o1,aqB,o0,apC,arK,apV,o0,o1,arE,o0,aqQ,aq2,an8,o0,o1,ap0,o0,aq7,aqA,aqC,o0,o1,arB,o0,aoK,ap2,aqD,o0,o1,aoN,o0,arC,apY,apZ,o0,o1,aqN,o0,ap8,aoP,aqJ,o0,o1,apH,o0,arF,aoF,aoB,o0,o1,apX,o0,arG,apU,aqP,o0,o1,aqI,arU,aoR,o0,o1,aq4,o0,an6,aqU,aoL,o0,o1,aqE,o0,aqM,arV,aqK,o0,o1,aoI,o0,aqL,ao7,aqT,o0,o1,aoY,o0,ap4,apW,ao0,o0,o1,apF,o0,aqZ,aqO,aq5,o0,o1,aq0,arM,aoQ,o0,o1,aq6,o0,apL,arL,aoC]⟩,⟨[],[],[],0,[],[],false,#[],[],0,false,false,false,0,[2000,10,10],false,0,true,[],[],0,false⟩⟩
def sF(w:World)(os:OsState):Shared:=⟨hF w.params,#[],⟨0,0,0,0⟩,613,os⟩
theorem fin(w:World)(os:OsState):
  topRun treeTable pw w 11 an 2 (s2 w os).abs (restOf [] ev cd ⟨188,0,215,78⟩ bk) =
  some (sF w os):=by kernel_rfl
theorem bis:bi=(l0++(l1++[])):=by kernel_rfl
theorem run(w:World)(os:OsState):topRun treeTable pw w 11 an (12+(1+(1996+(799+(2))))) ⟨boot_heap w.params,⟨[]⟩,boot_drawn,boot_toks,os⟩ (topStub pw)=some (sF w os):=by
 refine go_top (pre w os) (piece_block (blk w os) ?_)
 rw[bis]
 exact (piece_app (segRun_of (r0 w os)) (piece_app (segRun_of (r1 w os)) (fin w os)))
theorem opn:∀w:World,(fencedOpening treeTable pw w 5712).map (fun s=>(s.heap,s.gens,s.drawn,s.toks))=some (boot_heap w.params,⟨[]⟩,boot_drawn,boot_toks):=
 boot_open (by kernel_rfl) rfl (fun s=>by kernel_rfl)
theorem siz(w:World):((boot_heap w.params).isNs mainGlobals&&(⟨[]⟩:Array GenState).size==0,(boot_heap w.params).objs.size,(boot_heap w.params).nsMap mainGlobals "__annotations__")=(true,11,an):=by kernel_rfl
end
end
theorem arH{q:Program}{loose mods:List Str}{Xt:Shared->Bool}{s:Shared}
  (e1:seen ((recsOf q).map (·.name)) (ownsOf q) [] {s with gens:= #[]}=expectedOf q) (e2:s.heap.bltView=bltViewBooted)
  (a1:s.heap.keysOk (looseW q loose) ((recsOf q).map (·.name)) ((litsOf q).map (·.1)) ((clssOf q (looseW q loose)).map (·.name))=true)
  (a2:s.heap.accountedOkI mods=true) (a3:s.heap.isNs mainGlobals=true) (a4:s.heap.isNs builtinsNs=true)
  (a5:tablesOk q s.heap=true) (a6:Xt s=true) (a7:(s.gens.size==0)=true) (e4:tabsOk q s=true)
  (e5:pinSeenD q (drecsOf q) s=pinGoodD (drecsOf q)) (e6:plainSeenE q (looseW q loose) s=plainGoodE q (looseW q loose))
  (e7:plainSeenD q loose s=plainGoodD q loose) (e8:wideSeen q s=wideGood q) (e9:clsSeenW q loose s=clsGoodW q loose):
  openSeen q loose mods Xt true s=openGood q loose:=by
 unfold openSeen openGood
 rw[e1,e2,a1,a2,a3,a4,a5,a6,if_pos rfl,a7,e4,e5,e6,e7,e8,e9];rfl
noncomputable def seenBy:Program:=view PySem.Challenge.pw_fivefields_k24_first_wrong_item [1,2,3,4,5,6,7,8,9,11,12,13,15,16,17,18,19,20,21,22,23,24,26,27,28,29,30,31,32,33,34,35,36,37,38,39]
noncomputable def free:List Str:=[]
noncomputable def read:List (Str×WData):=[]
section
set_option maxHeartbeats 0
set_option maxRecDepth 100000
noncomputable section
def XT:Shared->Bool:=fun z=>xlAt seenBy read z&&recOk (RowW.records (OpenRow.toRowW (OpenLaw.row PySem.Challenge.rw_fivefields_k24_first_wrong_item))) z
abbrev SE(w:World)(os:OsState):=openSeen seenBy free (importedModules pw.main.body) XT true (sF w os)
section
variable(w:World)(os:OsState)
theorem z1:seen ((recsOf seenBy).map (·.name)) (ownsOf seenBy) [] {sF w os with gens:= #[]}=expectedOf seenBy:=by kernel_rfl
theorem z2:(sF w os).heap.bltView=bltViewBooted:=by kernel_rfl
theorem y1:(sF w os).heap.keysOk (looseW seenBy free) ((recsOf seenBy).map (·.name)) ((litsOf seenBy).map (·.1)) ((clssOf seenBy (looseW seenBy free)).map (·.name))=true:=by kernel_rfl
theorem y2:(sF w os).heap.accountedOkI (importedModules pw.main.body)=true:=by kernel_rfl
theorem y3:(sF w os).heap.isNs mainGlobals=true:=by kernel_rfl
theorem y4:(sF w os).heap.isNs builtinsNs=true:=by kernel_rfl
theorem y5:tablesOk seenBy (sF w os).heap=true:=by kernel_rfl
theorem y6:XT (sF w os)=true:=by kernel_rfl
theorem y7:((sF w os).gens.size==0)=true:=by kernel_rfl
theorem z4:tabsOk seenBy (sF w os)=true:=by kernel_rfl
theorem z5:pinSeenD seenBy (drecsOf seenBy) (sF w os)=pinGoodD (drecsOf seenBy):=by kernel_rfl
theorem z6:plainSeenE seenBy (looseW seenBy free) (sF w os)=plainGoodE seenBy (looseW seenBy free):=by kernel_rfl
theorem z7:plainSeenD seenBy free (sF w os)=plainGoodD seenBy free:=by kernel_rfl
theorem z8:wideSeen seenBy (sF w os)=wideGood seenBy:=by kernel_rfl
theorem z9:clsSeenW seenBy free (sF w os)=clsGoodW seenBy free:=by kernel_rfl
theorem look:SE w os=openGood seenBy free:=arH (q:=seenBy) (loose:=free) (mods:=importedModules pw.main.body) (Xt:=XT) (s:=sF w os) (z1 w os) (z2 w os) (y1 w os) (y2 w os) (y3 w os) (y4 w os) (y5 w os) (y6 w os) (y7 w os) (z4 w os) (z5 w os) (z6 w os) (z7 w os) (z8 w os) (z9 w os)
end
theorem lk0(w:World)(os:OsState):(staticsOk (importedModules pw.main.body) (boot_heap w.params) (hF w.params)&&namesBound pw (hF w.params)
  &&gensDone (sF w os)&&laidKept (boot_heap w.params) (hF w.params))=true:=by kernel_rfl
end
end
end Hd
set_option Elab.async false
set_option linter.all false
set_option maxRecDepth 100000
namespace L2
open PySem PySem.Spec PyProof.Rows
abbrev Key:=Sum Int Str
def alX:Key->Value->Bool
 |.inl k,v=>Value.isInt k v
 |.inr x,v=>Value.isStrOf x v
def keyH(w:World):Key->Int
 |.inl k=>hashInt k
 |.inr x=>hashStr w x
theorem aaQ:∀{k:Key} {v:Value},alX k v=true->(∃i t,k=Sum.inl i/\v=Value.int i t)∨(∃x t,k=Sum.inr x/\v=Value.str x t)
 |.inl i,v,h=>by
  obtain⟨t,e⟩:=Value.isInt_shape (k:=i) (v:=v) h
  exact .inl ⟨i,t,rfl,e⟩
 |.inr x,v,h=>by
  obtain⟨t,e⟩:=Value.isStrOf_shape (x:=x) (v:=v) h
  exact .inr ⟨x,t,rfl,e⟩
theorem amO(a b:Int):decide ((Sum.inl a:Key)=Sum.inl b)=(a==b):=by
 by_cases e:a=b
 ·subst e;simp
 ·have h:¬(Sum.inl a:Key)=Sum.inl b:=fun q=>e (Sum.inl.inj q)
  rw[decide_eq_false h]
  exact (beq_eq_false_iff_ne.mpr e).symm
theorem anS(a b:Str):decide ((Sum.inr a:Key)=Sum.inr b)=decide (a=b):=by
 by_cases e:a=b
 ·subst e;simp
 ·have h:¬(Sum.inr a:Key)=Sum.inr b:=fun q=>e (Sum.inr.inj q)
  rw[decide_eq_false h,decide_eq_false e]
theorem anZ(a:Int)(b:Str):decide ((Sum.inl a:Key)=Sum.inr b)=false:=decide_eq_false (fun q=>nomatch q)
theorem amJ(a:Str)(b:Int):decide ((Sum.inr a:Key)=Sum.inl b)=false:=decide_eq_false (fun q=>nomatch q)
def ahT(prog:Program)(w:World):PySem.KeyKind prog w Key where
 is:=alX
 hash:=keyH w
 inj:=fun v a b ha hb=>by
  rcases aaQ ha with ⟨i,t,rfl,rfl⟩ | ⟨x,t,rfl,rfl⟩
  ·rcases aaQ hb with ⟨j,u,rfl,e⟩ | ⟨y,u,rfl,e⟩
   ·injection e with e1 _;rw[e1]
   ·exact nomatch e
  ·rcases aaQ hb with ⟨j,u,rfl,e⟩ | ⟨y,u,rfl,e⟩
   ·exact nomatch e
   ·injection e with e1 _;rw[e1]
 byValue:=fun k v h=>by
  rcases aaQ h with ⟨i,t,rfl,rfl⟩ | ⟨x,t,rfl,rfl⟩<;>rfl
 pyHash:=fun hv h=>by
  rcases aaQ hv with ⟨i,t,rfl,rfl⟩ | ⟨x,t,rfl,rfl⟩
  ·exact wpAny_pyHash_int h
  ·exact wpAny_pyHash_str h
 eqBool:=fun hu hv h=>by
  rcases aaQ hu with ⟨i,t,rfl,rfl⟩ | ⟨x,t,rfl,rfl⟩
  ·rcases aaQ hv with ⟨j,u,rfl,rfl⟩ | ⟨y,u,rfl,rfl⟩
   ·rw[amO] at h;exact wpAny_eqBool_int h
   ·rw[anZ] at h;exact SeqAt.EqAt.int_str i t y u _ _ _ _ h
  ·rcases aaQ hv with ⟨j,u,rfl,rfl⟩ | ⟨y,u,rfl,rfl⟩
   ·rw[amJ] at h;exact SeqAt.EqAt.str_int x t j u _ _ _ _ h
   ·rw[anS] at h;exact wpAny_eqBool_str h
 «strs»:=fun k x t v h=>by
  rcases aaQ h with ⟨i,u,rfl,e⟩ | ⟨y,u,rfl,e⟩
  ·exact nomatch e
  ·injection e with e1 _
   subst e1
   cases v<;>rfl
inductive V where
 |non | bl (b:Bool) | int (i:Int) | str (x:Str) | byt (b:Array UInt8) | flt (b:UInt64) | ref (a:Addr) | ty (n:String)
 deriving DecidableEq
def RelV:V->Value->Prop
 |.non,u=>u=Value.none
 |.bl b,u=>u=Value.bool b
 |.int i,u=>∃t,u=Value.int i t
 |.str x,u=>∃t,u=Value.str x t
 |.byt b,u=>∃t,u=Value.bytes b t
 |.flt b,u=>∃t,u=Value.float b t
 |.ref a,u=>u=Value.ref a
 |.ty n,u=>u=Value.type n
abbrev Vals:List V->List Value->Prop:=Paired RelV
theorem Vals.length{xs:List V}{us:List Value}(r:Vals xs us):xs.length=us.length:=Paired.length r
theorem Vals.get:∀{xs:List V} {us:List Value} {i:Nat} {x:V},Vals xs us->xs[i]? =some x->∃u,us[i]? =some u/\RelV x u
 |_,_,_,_,.nil,e=>by simp at e
 |_,_,0,_,.cons r _,e=>by simp at e;subst e;exact⟨_,rfl,r⟩
 |_,_,i+1,x,.cons _ t,e=>by
  obtain⟨u,h1,h2⟩:=Vals.get (i:=i) (x:=x) t (by simpa using e)
  exact⟨u,by simpa using h1,h2⟩
theorem Vals.set{x:V}{u:Value}(r:RelV x u):∀{xs:List V} {us:List Value} (i:Nat),Vals xs us->Vals (xs.set i x) (us.set i u)
 |_,_,_,.nil=>.nil
 |_,_,0,.cons _ t=>.cons r t
 |_,_,i+1,.cons q t=>.cons q (Vals.set r i t)
theorem Vals.append:∀{xs ys:List V} {us ws:List Value},Vals xs us->Vals ys ws->Vals (xs++ys) (us++ws)
 |_,_,_,_,.nil,s=>s
 |_,_,_,_,.cons r t,s=>.cons r (Vals.append t s)
theorem Vals.take:∀{xs:List V} {us:List Value} (n:Nat),Vals xs us->Vals (xs.take n) (us.take n)
 |_,_,0,_=>.nil
 |_,_,_+1,.nil=>.nil
 |_,_,n+1,.cons r t=>.cons r (Vals.take n t)
theorem Vals.drop:∀{xs:List V} {us:List Value} (n:Nat),Vals xs us->Vals (xs.drop n) (us.drop n)
 |_,_,0,r=>r
 |_,_,_+1,.nil=>.nil
 |_,_,n+1,.cons _ t=>Vals.drop n t
def RelO:Option V->Option Value->Prop
 |some v,some u=>RelV v u
 |none,none=>True
 |_,_=>False
def KV{κ:Type}:List (κ×V)->List (κ×Value)->Prop:=Paired fun (p:κ×V) (q:κ×Value)=>p.1=q.1/\RelV p.2 q.2
def kV:Key->V
 |.inl i=>.int i
 |.inr x=>.str x
inductive HO where
 |lst (xs:List V)
 |tup (xs:List V)
 |dK (kvs:List (Key×V)) | dT (kvs:List (List Key×V))
 |set (S:Int->Bool) (n:Nat)
 |ins (C dx:Addr) (fs:List (Str×V))
 |own (x:Addr)
 |xd (fs:List (Str×V))
 |met (f x:Addr)
 |rng (lo hi:Int)
 |frz (o:Obj) (u:HO)
 |tbl (ps:Array Value)
 |ext (φ:Heap->Prop)
abbrev Hp:=Addr->Option HO
def upd(H:Hp)(a:Addr)(o:HO):Hp:=fun b=>if b=a then some o else H b
theorem aaA{H:Hp}{a:Addr}{o:HO}:upd H a o a=some o:=by unfold upd;rw[if_pos rfl]
theorem aaH{H:Hp}{a b:Addr}{o:HO}(h:b≠a):upd H a o b=H b:=by unfold upd;rw[if_neg h]
theorem aaG{H:Hp}{a b:Addr}{o:HO}(h:H a=some o)(h':H b=none):a≠b:=by
 intro e;subst e;rw[h] at h';cases h'
section
variable(P:Program)(w:World)
def ObjOk(H:Hp)(h:Heap)(a:Addr):HO->Prop
 |.lst xs=>xs.length<=sizeLine/\∃(its:List Value) (n:Nat),Vals xs its/\h.get? a=some {cls:=.type "list",data:=.seq its.toArray n}
 |.tup xs=>xs.length<=sizeLine/\∃its:List Value,Vals xs its/\IsTup h a its.toArray
 |.dK kvs=>kvs.length<=sizeLine/\(a==sysModules)=false/\∃vs,KV kvs vs/\h.DictOf (ahT P w) a vs
 |.dT kvs=>kvs.length<=sizeLine/\(a==sysModules)=false/\∃xs:List (List Key×Addr×Value),
   Paired (fun (p:List Key×V) (q:List Key×Addr×Value)=>p.1=q.1/\H q.2.1=some (.tup (p.1.map kV))/\RelV p.2 q.2.2) kvs xs/\
   ∃o es ep,h.get? a=some o/\o.ExactDict/\o.data=.dict es ep/\es.toList=xs.map (entryOfKey (tupleKind (ahT P w)))/\(xs.map (·.1)).Nodup
 |.set S n=>h.SetOf (intKind P w) a S n
 |.ins C dx fs=>H dx=some (.own a)/\fs.length<=1000/\dx≠a/\h.get? a=some (PySem.W.instObj C dx)/\
   ∃mA,h.Ns1 dx mA/\(∀f,RelO (fs.lookup f) (mA f))/\PySem.Within mA (fs.map (·.1))
 |.own _=>∃o,h.get? a=some o
 |.xd fs=>∃mA,h.Ns1 a mA/\∀f,RelO (fs.lookup f) (mA f)
 |.rng lo hi=>∃t u v,h.get? a=some {cls:=.type "range",data:=.fields #[.int lo t,.int hi u,.int 1 v]}
 |.frz o u=>h.get? a=some o/\ObjOk H h a u
 |.tbl ps=>h.get? a=some {cls:=.none,data:=.fields ps}
 |.met f x=>h.get? a=some (PySem.W.methodObj (.ref f) (.ref x))
 |.ext φ=>φ h/\(∃o,h.get? a=some o)/\∀h1 h2:Heap,φ h1->(∀o,h1.get? a=some o->h2.get? a=some o)->φ h2
def HOk(H:Hp)(h:Heap):Prop:=∀a o,H a=some o->ObjOk P w H h a o
end
section
variable{P:Program}{w:World}{H H':Hp}{h h':Heap}{a:Addr}{o:HO}
theorem ObjOk.lt(x:ObjOk P w H h a o):a<h.objs.size:=by
 cases o with
 |lst xs=>obtain⟨_,_,_,_,e⟩:=x;exact Heap.lt_size e
 |tup xs=>obtain⟨_,_,_,p⟩:=x;exact p.lt
 |dK kvs=>obtain⟨_,_,_,_,o,_,_,e,_⟩:=x;exact Heap.lt_size e
 |dT kvs=>obtain⟨_,_,_,_,o,_,_,e,_⟩:=x;exact Heap.lt_size e
 |set S n=>obtain⟨o,_,_,_,e,_⟩:=x;exact Heap.lt_size e
 |ins C dx fs=>obtain⟨_,_,_,e,_⟩:=x;exact Heap.lt_size e
 |own y=>obtain⟨_,e⟩:=x;exact Heap.lt_size e
 |xd fs=>obtain⟨_,⟨_,_,_,e,_⟩,_⟩:=x;exact Heap.lt_size e
 |rng lo hi=>obtain⟨_,_,_,e⟩:=x;exact Heap.lt_size e
 |frz ob u=>obtain⟨e,_⟩:=x;exact Heap.lt_size e
 |tbl ps=>exact Heap.lt_size (show h.get? a=some _ from x)
 |met f y=>exact Heap.lt_size (show h.get? a=some _ from x)
 |ext φ=>obtain⟨_,⟨_,e⟩,_⟩:=x;exact Heap.lt_size e
theorem Paired.mapP{α β:Type}{F G:α->β->Prop}:∀{l₁:List α} {l₂:List β},Paired F l₁ l₂->(∀a b,F a b->G a b)->Paired G l₁ l₂
 |_,_,.nil,_=>.nil
 |_,_,.cons r t,f=>.cons (f _ _ r) (Paired.mapP t f)
theorem Paired.imp'{α β:Type}{F G:α->β->Prop}(f:∀a b,F a b->G a b){l₁:List α}{l₂:List β}(r:Paired F l₁ l₂):Paired G l₁ l₂:=Paired.mapP r f
theorem ObjOk.stay(x:ObjOk P w H h a o)(k:∀b u,(b=a∨H b=some (.own a))->h.get? b=some u->h'.get? b=some u)
  (ho:∀b,H b=some (.own a)->H' b=some (.own a)) (ht:∀b xs,H b=some (.tup xs)->H' b=some (.tup xs)):ObjOk P w H' h' a o:=by
 induction o with
 |lst xs=>obtain⟨z,its,n,r,e⟩:=x;exact⟨z,its,n,r,k _ _ (.inl rfl) e⟩
 |tup xs=>obtain⟨z,its,r,ob,e,c⟩:=x;exact⟨z,its,r,ob,k _ _ (.inl rfl) e,c⟩
 |dK kvs=>obtain⟨z,y,vs,r,ob,es,ep,e,c⟩:=x;exact⟨z,y,vs,r,ob,es,ep,k _ _ (.inl rfl) e,c⟩
 |dT kvs=>
  obtain⟨z,y,xs,r,ob,es,ep,e,c⟩:=x
  exact⟨z,y,xs,Paired.mapP r fun p q z=>⟨z.1,ht _ _ z.2.1,z.2.2⟩,ob,es,ep,k _ _ (.inl rfl) e,c⟩
 |set S n=>obtain⟨ob,es,ep,t,e,c⟩:=x;exact⟨ob,es,ep,t,k _ _ (.inl rfl) e,c⟩
 |ins C dx fs=>
  obtain⟨d,z,ne,e,mA,⟨od,es,ep,e2,c⟩,r⟩:=x
  exact⟨ho _ d,z,ne,k _ _ (.inl rfl) e,mA,⟨od,es,ep,k _ _ (.inr d) e2,c⟩,r⟩
 |own y=>obtain⟨ob,e⟩:=x;exact⟨ob,k _ _ (.inl rfl) e⟩
 |xd fs=>obtain⟨mA,⟨od,es,ep,e,c⟩,r⟩:=x;exact⟨mA,⟨od,es,ep,k _ _ (.inl rfl) e,c⟩,r⟩
 |rng lo hi=>obtain⟨t,u,v,e⟩:=x;exact⟨t,u,v,k _ _ (.inl rfl) e⟩
 |frz ob u ih=>obtain⟨e,q⟩:=x;exact⟨k _ _ (.inl rfl) e,ih q⟩
 |tbl ps=>
  have e:h.get? a=some {cls:=.none,data:=.fields ps}:=x
  show h'.get? a=some {cls:=.none,data:=.fields ps}
  exact k a _ (.inl rfl) e
 |met f y=>
  have e:h.get? a=some (PySem.W.methodObj (.ref f) (.ref y)):=x
  show h'.get? a=some (PySem.W.methodObj (.ref f) (.ref y))
  exact k a _ (.inl rfl) e
 |ext φ=>obtain⟨p,⟨o,e⟩,st⟩:=x;exact⟨st _ _ p fun o q=>k _ _ (.inl rfl) q,⟨o,k _ _ (.inl rfl) e⟩,st⟩
theorem HOk.lt(x:HOk P w H h)(e:H a=some o):a<h.objs.size:=(x a o e).lt
theorem HOk.fresh(x:HOk P w H h)(e:h.objs.size<=a):H a=none:=by
 cases q:H a with
 |none=>rfl
 |some u=>exact absurd (Nat.lt_of_lt_of_le (x.lt q) e) (Nat.lt_irrefl _)
theorem HOk.kept(x:HOk P w H h)(k:∀b u,h.get? b=some u->h'.get? b=some u):HOk P w H h':=fun a o e=>
 (x a o e).stay (fun b u _ q=>k b u q) (fun _ q=>q) fun _ _ q=>q
theorem HOk.laid(x:HOk P w H h)(k:∀b u,h.get? b=some u->h'.get? b=some u)(hp:h.objs.size<=a)(new:ObjOk P w (upd H a o) h' a o):HOk P w (upd H a o) h':=fun b u e=>by
 have hn:=x.fresh hp
 by_cases hb:b=a
 ·subst hb;rw[aaA] at e;cases e;exact new
 ·rw[aaH hb] at e
  exact (x b u e).stay (fun c v _ q=>k c v q) (fun c q=>by rw[aaH (aaG q hn)];exact q) fun c xs q=>by rw[aaH (aaG q hn)];exact q
end
def Rd(H:Hp)(a:Addr)(u:HO):Prop:=H a=some u∨∃o,H a=some (.frz o u)
theorem Rd.ok{P:Program}{w:World}{H:Hp}{h:Heap}{a:Addr}{u:HO}(r:Rd H a u)(x:HOk P w H h):ObjOk P w H h a u:=by
 rcases r with r | ⟨o,r⟩
 ·exact x a u r
 ·obtain⟨_,q⟩:=x a _ r
  exact q
def Mut:Option HO->Prop
 |some (.lst _)=>True
 |some (.dK _)=>True
 |some (.dT _)=>True
 |some (.set _ _)=>True
 |some (.ins _ _ _)=>True
 |some (.ext _)=>True
 |_=>False
section
variable{P:Program}{w:World}{H:Hp}{h h':Heap}{x e:Addr}{o':HO}
theorem HOk.write(ok:HOk P w H h)(mu:Mut (H x))(he:e=x∨H e=some (.own x))(k:∀b u,b≠e->h.get? b=some u->h'.get? b=some u)(heo:∃u,h'.get? e=some u)
  (new:ObjOk P w (upd H x o') h' x o'):HOk P w (upd H x o') h':=fun b u q=>by
 have nown:∀c y,H c=some (.own y)->c≠x:=fun c y r z=>by subst z;rw[r] at mu;exact mu
 have ntup:∀c xs,H c=some (.tup xs)->c≠x:=fun c xs r z=>by subst z;rw[r] at mu;exact mu
 by_cases hb:b=x
 ·subst hb;rw[aaA] at q;cases q;exact new
 ·rw[aaH hb] at q
  by_cases hbe:b=e
  ·have q':H b=some (.own x):=by
    rcases he with z | z
    ·exact absurd (hbe.trans z) hb
    ·rw[hbe];exact z
   rw[q] at q';cases q'
   obtain⟨v,hv⟩:=heo
   exact⟨v,by rw[hbe];exact hv⟩
  ·refine (ok b u q).stay (fun c v hc r=>k c v ?_ r) (fun c r=>by rw[aaH (nown c b r)];exact r) fun c xs r=>by rw[aaH (ntup c xs r)];exact r
   rcases hc with rfl | hc
   ·exact hbe
   ·rintro rfl
    rcases he with z | z
    ·exact nown c b hc z
    ·rw[hc] at z;cases z;exact hb rfl
end
structure Un(fs ex:List Addr)(H H':Hp)(h h':Heap):Prop where
 keep:∀b o,h.get? b=some o->H b=none->b∉fs->b∉ex->h'.get? b=some o
 slot:∀b o,h.get? b=some o->H b=none->b∈fs->b∉ex->∃sl,h'.get? b=some {o with slots:=sl}
 free:∀b o,h.get? b=some o->H b=none->b∉ex->H' b=none
 there:∀b o,h.get? b=some o->b∉ex->∃o',h'.get? b=some o'
 tups:∀b xs,H b=some (.tup xs)->H' b=some (.tup xs)
 frzs:∀b o u,H b=some (.frz o u)->H' b=some (.frz o u)
 tbls:∀b ps,H b=some (.tbl ps)->∃more,H' b=some (.tbl (ps++more))
section
variable{fs fs' ex ex':List Addr}{H H1 H2:Hp}{h h1 h2 h':Heap}{a x e:Addr}{o:HO}
theorem Un.any(u:Un fs ex H H1 h h1){b:Addr}{ob:Obj}(q:h.get? b=some ob)(n:H b=none)(hx:b∉ex):∃sl,h1.get? b=some {ob with slots:=sl}:=by
 by_cases hb:b∈fs
 ·exact u.slot b ob q n hb hx
 ·exact⟨ob.slots,u.keep b ob q n hb hx⟩
theorem Un.trans(a:Un fs ex H H1 h h1)(b:Un fs ex H1 H2 h1 h2):Un fs ex H H2 h h2 where
 keep:=fun c ob q n hc hx=>b.keep c ob (a.keep c ob q n hc hx) (a.free c ob q n hx) hc hx
 slot:=fun c ob q n hc hx=>by
  obtain⟨sl,e1⟩:=a.slot c ob q n hc hx
  obtain⟨sl',e2⟩:=b.slot c _ e1 (a.free c ob q n hx) hc hx
  exact⟨sl',e2⟩
 free:=fun c ob q n hx=>by
  obtain⟨o',e1⟩:=a.there c ob q hx
  exact b.free c o' e1 (a.free c ob q n hx) hx
 there:=fun c ob q hx=>by
  obtain⟨o',e1⟩:=a.there c ob q hx
  exact b.there c o' e1 hx
 tups:=fun c xs q=>b.tups c xs (a.tups c xs q)
 frzs:=fun c ob xs q=>b.frzs c ob xs (a.frzs c ob xs q)
 tbls:=fun c ps q=>by
  obtain⟨m1,e1⟩:=a.tbls c ps q
  obtain⟨m2,e2⟩:=b.tbls c _ e1
  exact⟨m1++m2,by rw[e2,Array.append_assoc]⟩
theorem Un.kept(k:∀b u,h.get? b=some u->h'.get? b=some u):Un fs ex H H h h':=
 ⟨fun b ob q _ _ _=>k b ob q,fun b ob q _ _ _=>⟨ob.slots,k b ob q⟩,fun _ _ _ n _=>n,fun b ob q _=>⟨ob,k b ob q⟩,fun _ _ q=>q,fun _ _ _ q=>q,fun _ ps q=>⟨#[],by rw[q];simp⟩⟩
theorem Un.refl:Un fs ex H H h h:=Un.kept fun _ _ q=>q
theorem Un.laid(k:∀b u,h.get? b=some u->h'.get? b=some u)(hp:h.objs.size<=a)(hn:H a=none):Un fs ex H (upd H a o) h h' where
 keep:=fun b u q _ _ _=>k b u q
 slot:=fun b u q _ _ _=>⟨u.slots,k b u q⟩
 free:=fun b u q n _=>by rw[aaH (Nat.ne_of_lt (Nat.lt_of_lt_of_le (Heap.lt_size q) hp))];exact n
 there:=fun b u q _=>⟨u,k b u q⟩
 tups:=fun b xs q=>by rw[aaH (aaG q hn)];exact q
 frzs:=fun b u xs q=>by rw[aaH (aaG q hn)];exact q
 tbls:=fun b ps q=>⟨#[],by rw[aaH (aaG q hn),q];simp⟩
theorem Un.write(mu:Mut (H x))(he:e=x∨H e=some (.own x))(k:∀b u,b≠e->h.get? b=some u->h'.get? b=some u)(heo:∃u,h'.get? e=some u):Un fs ex H (upd H x o) h h':=by
 have hx:∀b,H b=none->b≠x:=fun b n z=>by subst z;rw[n] at mu;exact mu
 have hb:∀b,H b=none->b≠e:=fun b n z=>by
  subst z
  rcases he with r | r
  ·exact hx b n r
  ·rw[n] at r;cases r
 have hm:∀b u,H b=some u->¬Mut (some u)->b≠x:=fun b u q nm z=>by subst z;rw[q] at mu;exact nm mu
 refine⟨fun b u q n _ _=>k b u (hb b n) q,fun b u q n _ _=>⟨u.slots,k b u (hb b n) q⟩,fun b u q n _=>by rw[aaH (hx b n)];exact n,fun b u q _=>?_,
  fun b xs q=>by rw[aaH (hm b _ q fun z=>z)];exact q,fun b u xs q=>by rw[aaH (hm b _ q fun z=>z)];exact q,fun b ps q=>⟨#[],by rw[aaH (hm b _ q fun z=>z),q];simp⟩⟩
 by_cases hbe:b=e
 ·subst hbe;exact heo
 ·exact⟨u,k b u hbe q⟩
end
def trk(h:Heap)(H:Hp):List Addr:=(List.range h.objs.size).filter fun a=>(H a).isSome
def afL(h:Heap)(H:Hp):Heap:=PySem.W.hideAll h (trk h H)
theorem ah5(h:Heap)(H:Hp):(afL h H).objs.size=h.objs.size:=PySem.W.hideAll_size _ _
theorem ajA{h:Heap}{H:Hp}{b:Addr}{o:Obj}(e:h.get? b=some o)(n:H b=none):(afL h H).get? b=some o:=
 PySem.W.hideAll_get _ e fun hm=>by
  have q:(H b).isSome=true:=(List.mem_filter.mp hm).2
  rw[n] at q;simp at q
theorem alC{h:Heap}{H:Hp}{b:Addr}{o:Obj}(e:(afL h H).get? b=some o):h.get? b=some o/\H b=none:=by
 have e':h.get? b=some o:=PySem.W.of_hideAll (trk h H) e
 refine⟨e',?_⟩
 cases q:H b with
 |none=>rfl
 |some x=>
  have hm:b∈trk h H:=List.mem_filter.mpr ⟨List.mem_range.mpr (Heap.lt_size e'),by simp[q]⟩
  have z:(afL h H).get? b=none:=PySem.W.hideAll_none (trk h H) hm
  rw[z] at e;cases e
def alL(g h:Heap)(L:Addr):List (Addr×Obj):=(List.range h.objs.size).filterMap fun a=>if a=L∨(g.get? a).isSome=true then none else (h.get? a).map fun o=>(a,o)
def rest(g h:Heap)(L d:Addr):List (Addr×Obj):=(alL g h L).filter fun p=>decide (p.1≠d)
structure Mod(K:PySem.W.Frag)(mg:Str->Option Value)(base:Heap):Prop where
 kin:K.In base
 glob:base.Ns mainGlobals mg
 blt:∃mb,base.Ns builtinsNs mb/\∀x:Str,x≠"__name__"->mb x=bootBuiltins x
 nolimit:base.NoLimit
structure Cx where
 prog:Program
 w:World
 K:PySem.W.Frag
 mg:Str->Option Value
 base:Heap
 A:Around
 N:List Str
 s₀:Shared
 H₀:Hp
 env:Env
 outer:List Env
 stack:List Env
 ex:List Addr
 fn:Str->Bool
 calm:Bool
 pn:List (Addr×Obj)
 xe:Value->Shared->Prop
def frs(l:List Env):List Addr:=l.filterMap (·.frame)
abbrev Cx.fs(X:Cx):List Addr:=frs X.outer
def Vis(sc:Scope)(x:Str):Prop:=sc.names.lookup x=some .local∨sc.names.lookup x=some .cell∨sc.names.lookup x=some .free
def Loc(sc:Scope)(x:Str):Prop:=sc.names.lookup x=some .local∨sc.names.lookup x=some .cell
def Look(env:Env)(h:Heap)(m:Str->Option Value)(x:Str)(u:Value):Prop:=
 (env.kindOf x=some .local/\m x=some u)∨((env.kindOf x=some .cell∨env.kindOf x=some .free)/\∃c,env.cells.lookup x=some c/\h.IsCell c (some u))
structure Cx.Ok(X:Cx):Prop where
 mod:Mod X.K X.mg X.base
 kind:X.env.scope.kind=.function
 glob:X.env.globals=mainGlobals
 blt:X.env.builtins=builtinsNs
 above:X.s₀.heap.objs.size<=X.env.locals
 inj:∀x y c,X.env.cells.lookup x=some c->X.env.cells.lookup y=some c->x=y
 has:∀x,(X.env.kindOf x=some .cell∨X.env.kindOf x=some .free)->∃c,X.env.cells.lookup x=some c
 cab:∀x c,X.fn x=true->X.env.cells.lookup x=some c->X.s₀.heap.objs.size<=c
 hd:X.calm=true->X.A.handled=none
 frames:X.A.frames=some X.stack
 stk:X.stack=X.outer∨(X.stack=X.env::X.outer/\X.env.frame=some X.env.locals)
 exf:∀b∈X.ex,b≠X.env.locals/\∀x c,X.env.cells.lookup x=some c->c≠b
 bs:∀b o,X.base.get? b=some o->X.s₀.heap.get? b=some o/\X.H₀ b=none
 bsz:X.base.objs.size<=X.s₀.heap.objs.size
 noex:∀b o,X.base.get? b=some o->b∉X.ex
 exfs:∀b∈X.ex,b∉X.fs
 funs:X.s₀.heap.FunFrames X.base X.outer
 frf:∀b∈X.fs,X.H₀ b=none
structure Inv(X:Cx)(pins:List (Addr×Obj))(σ:List (Option V))(H:Hp)(s:Shared):Prop where
 ok:X.Ok
 os:s.os=X.s₀.os
 bare:AllBare s.gens
 base:Un X.fs X.ex X.H₀ H X.s₀.heap s.heap
 loc:∃m,s.heap.Ns X.env.locals m/\∀(i:Nat) (x:Str) (v:V),X.N[i]? =some x->σ[i]? =some (some v)->Vis X.env.scope x->∃u,RelV v u/\Look X.env s.heap m x u
 cell:∀x c,X.env.cells.lookup x=some c->∃v,s.heap.IsCell c v
 free:H X.env.locals=none
 freeC:∀x c,X.env.cells.lookup x=some c->H c=none
 pin:∀p∈X.pn++pins,s.heap.get? p.1=some p.2/\H p.1=none/\p.1≠X.env.locals/\p.1∉X.fs/\∀v,p.2.data≠ .cell v
 hok:HOk X.prog X.w H s.heap
 len:σ.length=X.N.length
section
variable{X:Cx}{pins:List (Addr×Obj)}{σ:List (Option V)}{H H':Hp}{s:Shared}{h':Heap}
theorem Cx.Ok.nofr(ok:X.Ok){b:Addr}{o:Obj}(e:X.base.get? b=some o):b∉X.fs:=fun hb=>by
 have:=(ok.funs.mem hb).1
 rw[e] at this;cases this
theorem Inv.bs(I:Inv X pins σ H s):∀b o,X.base.get? b=some o->s.heap.get? b=some o/\H b=none:=fun b o e=>
 ⟨I.base.keep b o (I.ok.bs b o e).1 (I.ok.bs b o e).2 (I.ok.nofr e) (I.ok.noex b o e),I.base.free b o (I.ok.bs b o e).1 (I.ok.bs b o e).2 (I.ok.noex b o e)⟩
theorem Inv.bk(I:Inv X pins σ H s):∀b o,X.base.get? b=some o->s.heap.get? b=some o:=fun b o e=>(I.bs b o e).1
theorem Inv.mod(I:Inv X pins σ H s):Mod X.K X.mg X.base:=I.ok.mod
theorem Inv.kIn(I:Inv X pins σ H s):X.K.In s.heap:=I.ok.mod.kin.keeps I.bk
theorem Inv.lt(I:Inv X pins σ H s):X.env.locals<s.heap.objs.size:=let ⟨_,hn,_⟩:=I.loc;hn.lt
theorem Inv.sz(I:Inv X pins σ H s):X.s₀.heap.objs.size<=s.heap.objs.size:=Nat.le_trans I.ok.above (Nat.le_of_lt I.lt)
theorem Inv.nofs(I:Inv X pins σ H s){a:Addr}(h:s.heap.objs.size<=a):a∉X.fs:=fun hb=>by
 obtain⟨_,o,ho,_⟩:=I.ok.funs.mem hb
 exact absurd (Nat.lt_of_lt_of_le (Heap.lt_size ho) (Nat.le_trans I.sz h)) (Nat.lt_irrefl _)
theorem Inv.cne(I:Inv X pins σ H s):∀x c,X.env.cells.lookup x=some c->c≠X.env.locals:=fun x c e z=>by
 obtain⟨v,o,ho,hd⟩:=I.cell x c e
 obtain⟨m,⟨o',es,ep,ho',hd',_⟩,_⟩:=I.loc
 rw[z,ho'] at ho;cases ho;rw[hd'] at hd;cases hd
theorem Inv.funs(I:Inv X pins σ H s):s.heap.FunFrames X.base X.outer:=by
 have all:∀(l:List Env),(∀b∈frs l,b∈X.fs)->X.s₀.heap.FunFrames X.base l->s.heap.FunFrames X.base l:=by
  intro l
  induction l with
  |nil=>intro _ _;trivial
  |cons env r ih=>
   intro hs hl
   obtain⟨hk,⟨L,o,hf,hn,ho,hd⟩,hr⟩:=hl
   have hL:L∈X.fs:=hs L (by unfold frs;rw[List.filterMap_cons,hf];exact List.mem_cons_self)
   obtain⟨sl,e⟩:=I.base.slot L o ho (I.ok.frf L hL) hL fun z=>I.ok.exfs L z hL
   exact⟨hk,⟨L,_,hf,hn,e,hd⟩,ih (fun b hb=>hs b (by unfold frs;rw[List.filterMap_cons,hf];exact List.mem_cons_of_mem _ hb)) hr⟩
 exact all X.outer (fun _ hb=>hb) I.ok.funs
theorem Inv.stack(I:Inv X pins σ H s):s.heap.FunFrames X.base X.stack:=by
 rcases I.ok.stk with e | ⟨e,hf⟩
 ·rw[e];exact I.funs
 ·rw[e]
  obtain⟨m,hn,_⟩:=I.loc
  refine .cons (by rw[I.ok.kind];decide) hf hn ?_ I.funs
  exact Heap.get?_none_of_le (Nat.le_trans I.ok.bsz I.ok.above)
theorem Inv.stkSub(I:Inv X pins σ H s):∀b∈frs X.stack,b∈X.env.locals::X.fs:=fun b hb=>by
 rcases I.ok.stk with e | ⟨e,hf⟩
 ·rw[e] at hb;exact List.mem_cons_of_mem _ hb
 ·rw[e] at hb
  unfold frs at hb
  rw[List.filterMap_cons,hf] at hb
  exact hb
theorem Inv.stkFree(I:Inv X pins σ H s):∀b∈frs X.stack,H b=none:=fun b hb=>by
 rcases List.mem_cons.mp (I.stkSub b hb) with e | hb
 ·rw[e];exact I.free
 ·obtain⟨_,o,ho,_⟩:=I.ok.funs.mem hb
  exact I.base.free b o ho (I.ok.frf b hb) fun z=>I.ok.exfs b z hb
theorem Inv.step{g':Array GenState}{t':Nat}{d':Drawn}{ch:List Addr}(I:Inv X pins σ H s)
  (hch:∀b∈ch,(b∈X.ex∨X.s₀.heap.objs.size<=b)/\b≠X.env.locals/\(∀x c,X.env.cells.lookup x=some c->c≠b)/\∀p∈X.pn++pins,p.1≠b)
  (keep:∀b o,b≠X.env.locals->b∉X.fs->b∉ch->s.heap.get? b=some o->H b=none->h'.get? b=some o)
  (slot:∀b o,b≠X.env.locals->b∈X.fs->b∉ch->s.heap.get? b=some o->H b=none->∃sl,h'.get? b=some {o with slots:=sl}) (free:∀b o,b∉ch->s.heap.get? b=some o->H b=none->H' b=none)
  (there:∀b o,b∉ch->s.heap.get? b=some o->∃o',h'.get? b=some o')
  (tups:∀b xs,H b=some (.tup xs)->H' b=some (.tup xs)) (frzs:∀b o u,H b=some (.frz o u)->H' b=some (.frz o u)) (tbls:∀b ps,H b=some (.tbl ps)->∃more,H' b=some (.tbl (ps++more)))
  (ns:∀m,s.heap.Ns X.env.locals m->h'.Ns X.env.locals m) (hok:HOk X.prog X.w H' h') (hg:AllBare g'):
  Inv X pins σ H' {s with heap:=h',gens:=g',drawn:=d',toks:=t'}:=by
 have neL:∀b o,X.s₀.heap.get? b=some o->b≠X.env.locals:=fun b o e=>Nat.ne_of_lt (Nat.lt_of_lt_of_le (Heap.lt_size e) I.ok.above)
 have neC:∀b o,X.s₀.heap.get? b=some o->b∉X.ex->b∉ch:=fun b o e hx hb=>by
  rcases (hch b hb).1 with z | z
  ·exact hx z
  ·exact absurd (Nat.lt_of_lt_of_le (Heap.lt_size e) z) (Nat.lt_irrefl _)
 have cellK:∀x c,X.env.cells.lookup x=some c->∀v,s.heap.IsCell c v->h'.IsCell c v:=fun x c e v ⟨o,ho,hd⟩=>by
  have nch:c∉ch:=fun z=>(hch c z).2.2.1 x c e rfl
  by_cases hc:c∈X.fs
  ·obtain⟨sl,q⟩:=slot c o (I.cne x c e) hc nch ho (I.freeC x c e)
   exact⟨_,q,hd⟩
  ·exact⟨o,keep c o (I.cne x c e) hc nch ho (I.freeC x c e),hd⟩
 refine⟨I.ok,I.os,hg,⟨fun b o e n hb hx=>?_,fun b o e n hb hx=>?_,fun b o e n hx=>?_,fun b o e hx=>?_,fun b xs e=>tups b xs (I.base.tups b xs e),fun b o xs e=>frzs b o xs (I.base.frzs b o xs e),fun b ps e=>?_⟩,?_,fun x c e=>?_,?_,fun x c e=>?_,fun p hp=>?_,hok,I.len⟩
 ·exact keep b o (neL b o e) hb (neC b o e hx) (I.base.keep b o e n hb hx) (I.base.free b o e n hx)
 ·obtain⟨sl,e1⟩:=I.base.slot b o e n hb hx
  obtain⟨sl',e2⟩:=slot b _ (neL b o e) hb (neC b o e hx) e1 (I.base.free b o e n hx)
  exact⟨sl',e2⟩
 ·obtain⟨o',e1⟩:=I.base.there b o e hx
  exact free b o' (neC b o e hx) e1 (I.base.free b o e n hx)
 ·obtain⟨o',e1⟩:=I.base.there b o e hx
  exact there b o' (neC b o e hx) e1
 ·obtain⟨m1,e1⟩:=I.base.tbls b ps e
  obtain⟨m2,e2⟩:=tbls b _ e1
  exact⟨m1++m2,by rw[e2,Array.append_assoc]⟩
 ·obtain⟨m,hn,hl⟩:=I.loc
  refine⟨m,ns m hn,fun i x v e1 e2 e3=>?_⟩
  obtain⟨u,r,l⟩:=hl i x v e1 e2 e3
  refine⟨u,r,?_⟩
  rcases l with l | ⟨k,c,e,z⟩
  ·exact .inl l
  ·exact .inr ⟨k,c,e,cellK x c e _ z⟩
 ·obtain⟨v,z⟩:=I.cell x c e
  exact⟨v,cellK x c e v z⟩
 ·obtain⟨m,⟨o,_,_,ho,_⟩,_⟩:=I.loc
  exact free _ o (fun z=>(hch _ z).2.1 rfl) ho I.free
 ·obtain⟨v,o,ho,hd⟩:=I.cell x c e
  exact free c o (fun z=>(hch c z).2.2.1 x c e rfl) ho (I.freeC x c e)
 ·obtain⟨e,n,ne,nf,d⟩:=I.pin p hp
  have nch:p.1∉ch:=fun z=>(hch p.1 z).2.2.2 p hp rfl
  exact⟨keep p.1 p.2 ne nf nch e n,free p.1 p.2 nch e n,ne,nf,d⟩
theorem Inv.un{t':Nat}(I:Inv X pins σ H s)(u:Un X.fs [] H H' s.heap h')(hok:HOk X.prog X.w H' h'):Inv X pins σ H' {s with heap:=h',toks:=t'}:=by
 obtain⟨m,⟨o,es,ep,ho,r⟩,_⟩:=id I.loc
 obtain⟨sl,hL⟩:=u.any ho I.free (by simp)
 exact I.step (g':=s.gens) (d':=s.drawn) (ch:=[]) (fun _ z=>nomatch z) (fun b o _ hb _ e n=>u.keep b o e n hb (by simp)) (fun b o _ hb _ e n=>u.slot b o e n hb (by simp)) (fun b o _ e n=>u.free b o e n (by simp)) (fun b o _ e=>u.there b o e (by simp)) u.tups u.frzs u.tbls (fun m' hm=>by
  obtain⟨o',es',ep',ho',r'⟩:=hm
  rw[ho] at ho';cases ho'
  exact⟨_,es',ep',hL,r'⟩) hok I.bare
theorem Inv.call{g':Array GenState}{t':Nat}{d':Drawn}{ch:List Addr}(I:Inv X pins σ H s)(u:Un (frs X.stack) ch H H' s.heap h')(hok:HOk X.prog X.w H' h')(hg:AllBare g')
  (hch:∀b∈ch,(b∈X.ex∨X.s₀.heap.objs.size<=b)/\b≠X.env.locals/\(∀x c,X.env.cells.lookup x=some c->c≠b)/\∀p∈X.pn++pins,p.1≠b):
  Inv X pins σ H' {s with heap:=h',gens:=g',drawn:=d',toks:=t'}:=by
 obtain⟨m,⟨o,es,ep,ho,r⟩,_⟩:=id I.loc
 obtain⟨sl,hL⟩:=u.any ho I.free fun z=>(hch _ z).2.1 rfl
 exact I.step (ch:=ch) hch (fun b o hL hb hc e n=>u.keep b o e n (fun z=>(List.mem_cons.mp (I.stkSub b z)).elim hL hb) hc) (fun b o _ _ hc e n=>u.any e n hc) (fun b o hc e n=>u.free b o e n hc) (fun b o hc e=>u.there b o e hc) u.tups u.frzs u.tbls (fun m' hm=>by
  obtain⟨o',es',ep',ho',r'⟩:=hm
  rw[ho] at ho';cases ho'
  exact⟨_,es',ep',hL,r'⟩) hok hg
theorem Inv.turned{t':Nat}{it:Addr}(I:Inv X pins σ H s)(k:∀b o,b≠it->s.heap.get? b=some o->h'.get? b=some o)(hn:H it=none)(hL:it≠X.env.locals)
  (h1:it∈X.ex∨X.s₀.heap.objs.size<=it) (h2:∀x c,X.env.cells.lookup x=some c->c≠it) (h3:∀p∈X.pn++pins,p.1≠it):Inv X pins σ H {s with heap:=h',toks:=t'}:=by
 have nit:∀b u,H b=some u->b≠it:=fun b u e z=>by rw[z,hn] at e;cases e
 refine I.step (g':=s.gens) (d':=s.drawn) (ch:=[it]) (fun b hb=>?_) (fun b o _ _ hc e _=>k b o (fun z=>hc (by simp[z])) e) (fun b o _ _ hc e _=>⟨o.slots,k b o (fun z=>hc (by simp[z])) e⟩) (fun _ _ _ _ n=>n)
  (fun b o hc e=>⟨o,k b o (fun z=>hc (by simp[z])) e⟩) (fun _ _ e=>e) (fun _ _ _ e=>e) (fun b ps e=>⟨#[],by rw[e];simp⟩) (fun m hm=>?_) (fun b u e=>?_) I.bare
 ·have e:b=it:=by simpa using hb
  subst e
  exact⟨h1,hL,h2,h3⟩
 ·obtain⟨o,es,ep,ho,r⟩:=hm
  exact⟨o,es,ep,k _ o (Ne.symm hL) ho,r⟩
 ·refine (I.hok b u e).stay (fun c v hc q=>k c v ?_ q) (fun _ q=>q) fun _ _ q=>q
  rcases hc with z | z
  ·rw[z];exact nit b u e
  ·exact nit c _ z
theorem Inv.tok(I:Inv X pins σ H s)(t:Nat):Inv X pins σ H {s with toks:=t}:=I.un (h':=s.heap) (t':=t) Un.refl I.hok
theorem Inv.kept{t':Nat}(I:Inv X pins σ H s)(k:∀b u,s.heap.get? b=some u->h'.get? b=some u):Inv X pins σ H {s with heap:=h',toks:=t'}:=I.un (Un.kept k) (I.hok.kept k)
theorem Inv.laid{a:Addr}{o:HO}{t':Nat}(I:Inv X pins σ H s)(k:∀b u,s.heap.get? b=some u->h'.get? b=some u)(hp:s.heap.objs.size<=a)(new:ObjOk X.prog X.w (upd H a o) h' a o):
  Inv X pins σ (upd H a o) {s with heap:=h',toks:=t'}:=I.un (Un.laid k hp (I.hok.fresh hp)) (I.hok.laid k hp new)
theorem Inv.write{x e:Addr}{o:HO}{t':Nat}(I:Inv X pins σ H s)(mu:Mut (H x))(he:e=x∨H e=some (.own x))(k:∀b u,b≠e->s.heap.get? b=some u->h'.get? b=some u)(heo:∃u,h'.get? e=some u)
  (new:ObjOk X.prog X.w (upd H x o) h' x o):Inv X pins σ (upd H x o) {s with heap:=h',toks:=t'}:=I.un (Un.write mu he k heo) (I.hok.write mu he k heo new)
theorem Inv.pins_of{pins':List (Addr×Obj)}(I:Inv X pins σ H s)(h:∀p∈pins',s.heap.get? p.1=some p.2/\H p.1=none/\p.1≠X.env.locals/\p.1∉X.fs/\∀v,p.2.data≠ .cell v):Inv X pins' σ H s:=
 ⟨I.ok,I.os,I.bare,I.base,I.loc,I.cell,I.free,I.freeC,fun p hp=>(List.mem_append.mp hp).elim (fun z=>I.pin p (List.mem_append_left _ z)) (h p),I.hok,I.len⟩
theorem afY{N:List Str}(hN:N.Nodup){i j:Nat}{x:Str}(a:N[i]? =some x)(b:N[j]? =some x):i=j:=by
 obtain⟨h1,e1⟩:=List.getElem?_eq_some_iff.mp a
 obtain⟨h2,e2⟩:=List.getElem?_eq_some_iff.mp b
 exact (List.getElem_inj hN).mp (e1.trans e2.symm)
theorem aeT{M:Model}{A:Around}{E:Value->Shared->Prop}{i:Nat}{x:Str}{v:V}{u:Value}{Q:Unit->Shared->Prop}(I:Inv X pins σ H s)(hN:X.N.Nodup)(hi:X.N[i]? =some x)(hx:Loc X.env.scope x)(r:RelV v u)
  (h:∀s',Inv X pins (σ.set i (some v)) H s'->(∃a,Heap.SameBut a s.heap s'.heap/\(a=X.env.locals∨X.env.cells.lookup x=some a))->Q () s') (hf:X.fn x=true∨X.env.scope.names.lookup x=some .local:=by first | exact .inl rfl | exact .inr rfl | assumption):wpAny M A (storeName X.env x u) Q E s:=by
 obtain⟨m,hn,hl⟩:=id I.loc
 have hcls:(X.env.scope.kind== .class||(X.env.scope.kind== .module&&X.env.locals !=X.env.globals))=false:=by rw[I.ok.kind];rfl
 have hiσ:i<σ.length:=by rw[I.len];exact (List.getElem?_eq_some_iff.mp hi).1
 have cne:=I.cne
 have tracked:∀{a:Addr} {h':Heap},(∃o,s.heap.get? a=some o/\H a=none)->Heap.SameBut a s.heap h'->HOk X.prog X.w H h':=fun {a h'} ha hs b ob e=>by
  obtain⟨_,_,hfree⟩:=ha
  refine (I.hok b ob e).stay (fun c w' hc q=>(hs.2 c ?_).trans q) (fun _ q=>q) fun _ _ q=>q
  rintro rfl
  rcases hc with rfl | hc
  ·rw[hfree] at e;cases e
  ·rw[hfree] at hc;cases hc
 rcases hx with hk | hk
 ·refine wpAny_storeName_local hk hn (fun h' hn' hs=>?_) hcls
  obtain⟨oL,_,_,hoL,_⟩:=id hn
  refine h _ ⟨I.ok,I.os,I.bare,⟨fun b o e n hb hx=>?_,fun b o e n hb hx=>?_,I.base.free,fun b o e hx=>?_,I.base.tups,I.base.frzs,I.base.tbls⟩,⟨_,hn',fun j y v' e1 e2 e3=>?_⟩,fun y c e=>?_,I.free,I.freeC,fun p hp=>?_,tracked ⟨oL,hoL,I.free⟩ hs,by simpa using I.len⟩ ⟨_,hs,.inl rfl⟩
  ·exact (hs.2 b (Nat.ne_of_lt (Nat.lt_of_lt_of_le (Heap.lt_size e) I.ok.above))).trans (I.base.keep b o e n hb hx)
  ·obtain⟨sl,e1⟩:=I.base.slot b o e n hb hx
   exact⟨sl,(hs.2 b (Nat.ne_of_lt (Nat.lt_of_lt_of_le (Heap.lt_size e) I.ok.above))).trans e1⟩
  ·obtain⟨o',e1⟩:=I.base.there b o e hx
   exact⟨o',(hs.2 b (Nat.ne_of_lt (Nat.lt_of_lt_of_le (Heap.lt_size e) I.ok.above))).trans e1⟩
  ·by_cases hj:j=i
   ·subst hj
    rw[hi] at e1;cases e1
    rw[List.getElem?_set_self hiσ] at e2
    cases e2
    exact⟨u,r,.inl ⟨hk,by simp⟩⟩
   ·rw[List.getElem?_set_ne (Ne.symm hj)] at e2
    obtain⟨u',r',q⟩:=hl j y v' e1 e2 e3
    refine⟨u',r',?_⟩
    rcases q with ⟨k,e⟩ | ⟨k,c,e,z⟩
    ·refine .inl ⟨k,?_⟩
     have:y≠x:=fun e=>hj (afY hN e1 (e▸hi))
     simp[this,e]
    ·exact .inr ⟨k,c,e,z.sameBut hs (cne y c e)⟩
  ·obtain⟨w',z⟩:=I.cell y c e
   exact⟨w',z.sameBut hs (cne y c e)⟩
  ·obtain⟨e,n,ne,nf,d⟩:=I.pin p hp
   exact⟨(hs.2 p.1 ne).trans e,n,ne,nf,d⟩
 ·have hfn:X.fn x=true:=by
   rcases hf with z | z
   ·exact z
   ·rw[z] at hk;cases hk
  obtain⟨c,hc⟩:=I.ok.has x (.inl hk)
  obtain⟨w',z⟩:=I.cell x c hc
  refine wpAny_storeName_cell I.ok.kind hk hc z (fun h' hc' hs=>?_)
  obtain⟨oc,hoc,hocd⟩:=id z
  refine h {s with heap:=h'} ⟨I.ok,I.os,I.bare,⟨fun b o e n hb hx=>?_,fun b o e n hb hx=>?_,I.base.free,fun b o e hx=>?_,I.base.tups,I.base.frzs,I.base.tbls⟩,⟨m,hn.sameBut hs (Ne.symm (cne x c hc)),fun j y v' e1 e2 e3=>?_⟩,fun y c' e=>?_,I.free,I.freeC,fun p hp=>?_,tracked ⟨oc,hoc,I.freeC x c hc⟩ hs,by simpa using I.len⟩ ⟨c,hs,.inr hc⟩
  ·exact (hs.2 b (Nat.ne_of_lt (Nat.lt_of_lt_of_le (Heap.lt_size e) (I.ok.cab x c hfn hc)))).trans (I.base.keep b o e n hb hx)
  ·obtain⟨sl,e1⟩:=I.base.slot b o e n hb hx
   exact⟨sl,(hs.2 b (Nat.ne_of_lt (Nat.lt_of_lt_of_le (Heap.lt_size e) (I.ok.cab x c hfn hc)))).trans e1⟩
  ·obtain⟨o',e1⟩:=I.base.there b o e hx
   exact⟨o',(hs.2 b (Nat.ne_of_lt (Nat.lt_of_lt_of_le (Heap.lt_size e) (I.ok.cab x c hfn hc)))).trans e1⟩
  ·by_cases hj:j=i
   ·subst hj
    rw[hi] at e1;cases e1
    rw[List.getElem?_set_self hiσ] at e2
    cases e2
    exact⟨u,r,.inr ⟨.inl hk,c,hc,hc'⟩⟩
   ·rw[List.getElem?_set_ne (Ne.symm hj)] at e2
    obtain⟨u',r',q⟩:=hl j y v' e1 e2 e3
    refine⟨u',r',?_⟩
    rcases q with q | ⟨k,c',e,z'⟩
    ·exact .inl q
    ·refine .inr ⟨k,c',e,z'.sameBut hs ?_⟩
     rintro rfl
     exact hj (afY hN e1 (I.ok.inj _ _ _ e hc▸hi))
  ·by_cases hcc:c'=c
   ·subst hcc;exact⟨_,hc'⟩
   ·obtain⟨w2,z2⟩:=I.cell y c' e
    exact⟨w2,z2.sameBut hs hcc⟩
  ·obtain⟨e,n,ne,nf,d⟩:=I.pin p hp
   refine⟨(hs.2 p.1 ?_).trans e,n,ne,nf,d⟩
   intro q
   rw[q,hoc] at e
   have q':oc=p.2:=Option.some.inj e
   exact d w' (by rw[←q'];exact hocd)
theorem acU{M:Model}{A:Around}{E:Value->Shared->Prop}{i:Nat}{x:Str}{v:V}{u:Value}{Q:Unit->Shared->Prop}(I:Inv X pins σ H s)(hN:X.N.Nodup)(hi:X.N[i]? =some x)(hx:Loc X.env.scope x)(r:RelV v u)
  (h:∀s',Inv X pins (σ.set i (some v)) H s'->Q () s') (hf:X.fn x=true∨X.env.scope.names.lookup x=some .local:=by first | exact .inl rfl | exact .inr rfl | assumption):wpAny M A (storeName X.env x u) Q E s:=
 aeT I hN hi hx r (fun s' I' _=>h s' I') hf
theorem Inv.call'{s':Shared}{ch:List Addr}(I:Inv X pins σ H s)(ho:s'.os=s.os)(u:Un (frs X.stack) ch H H' s.heap s'.heap)(hok:HOk X.prog X.w H' s'.heap)(hg:AllBare s'.gens)
  (hch:∀b∈ch,(b∈X.ex∨X.s₀.heap.objs.size<=b)/\b≠X.env.locals/\(∀x c,X.env.cells.lookup x=some c->c≠b)/\∀p∈X.pn++pins,p.1≠b):Inv X pins σ H' s':=by
 obtain⟨h',g',d',t',o'⟩:=s'
 have e:o'=s.os:=ho
 subst e
 exact I.call (g':=g') (t':=t') (d':=d') u hok hg hch
end
abbrev XK:=Value->Option Addr->Hp->Prop
abbrev St:=List (Option V)
abbrev VK:=V->Hp->Prop
abbrev TE:=St->Hp->VK->Prop
abbrev TT:=St->Hp->(Bool->Hp->Prop)->Prop
abbrev TA:=St->Hp->(List V->Hp->Prop)->Prop
structure Ends where
 nx:St->Hp->Prop
 rt:VK
 bk:St->Hp->Prop:=fun _ _=>False
 ct:St->Hp->Prop:=fun _ _=>False
abbrev TS:=Ends->St->Hp->Prop
def EP(X:Cx)(pins:List (Addr×Obj))(σ:St)(Q:VK)(u:Value)(s':Shared):Prop:=∃v H',Inv X pins σ H' s'/\RelV v u/\Q v H'
def TP(X:Cx)(pins:List (Addr×Obj))(σ:St)(Q:Bool->Hp->Prop)(b:Bool)(s':Shared):Prop:=∃H',Inv X pins σ H' s'/\Q b H'
def AP(X:Cx)(pins:List (Addr×Obj))(σ:St)(Q:List V->Hp->Prop)(us:List Value)(s':Shared):Prop:=∃vs H',Inv X pins σ H' s'/\Vals vs us/\Q vs H'
def SP(X:Cx)(pins:List (Addr×Obj))(D:Ends)(f:Flow)(s':Shared):Prop:=
 match f with
 |.next=>∃σ' H',Inv X pins σ' H' s'/\D.nx σ' H'
 |.brk=>∃σ' H',Inv X pins σ' H' s'/\D.bk σ' H'
 |.cont=>∃σ' H',Inv X pins σ' H' s'/\D.ct σ' H'
 |.ret u=>∃v σ' H',Inv X pins σ' H' s'/\RelV v u/\D.rt v H'
def PE(X:Cx)(e:Expr)(t:TE):Prop:=
 ∀(pins:List (Addr×Obj)) (s:Shared) (σ:St) (H:Hp) (Q:VK),Inv X pins σ H s->t σ H Q->wpAny (model X.prog X.w) X.A (eval e X.env) (EP X pins σ Q) X.xe s
def PT(X:Cx)(e:Expr)(t:TT):Prop:=
 ∀(pins:List (Addr×Obj)) (s:Shared) (σ:St) (H:Hp) (Q:Bool->Hp->Prop),Inv X pins σ H s->t σ H Q->wpAny (model X.prog X.w) X.A (isTrue e X.env (eval e X.env)) (TP X pins σ Q) X.xe s
def PW(X:Cx)(e:Expr)(t:TT):Prop:=
 ∀(whole:Sem Value) (pins:List (Addr×Obj)) (s:Shared) (σ:St) (H:Hp) (Q:Bool->Hp->Prop),Inv X pins σ H s->t σ H Q->wpAny (model X.prog X.w) X.A (isTrue e X.env whole) (TP X pins σ Q) X.xe s
theorem PW.pt{X:Cx}{e:Expr}{t:TT}(h:PW X e t):PT X e t:=h _
def PA(X:Cx)(es:List Expr)(t:TA):Prop:=
 ∀(pos:Pos) (pins:List (Addr×Obj)) (s:Shared) (σ:St) (H:Hp) (Q:List V->Hp->Prop),Inv X pins σ H s->t σ H Q->wpAny (model X.prog X.w) X.A (spliced (backTo pos (starEach es X.env))) (AP X pins σ Q) X.xe s
def PS(X:Cx)(st:Stmt)(t:TS):Prop:=
 ∀(pins:List (Addr×Obj)) (s:Shared) (σ:St) (H:Hp) (D:Ends),Inv X pins σ H s->t D σ H->wpAny (model X.prog X.w) X.A (exec st X.env) (SP X pins D) X.xe s
def PSs(X:Cx)(st:List Stmt)(t:TS):Prop:=
 ∀(pins:List (Addr×Obj)) (s:Shared) (σ:St) (H:Hp) (D:Ends),Inv X pins σ H s->t D σ H->wpAny (model X.prog X.w) X.A (execs st X.env) (SP X pins D) X.xe s
theorem thn{α:Type}{t:Sem α}{Q Q':α->Shared->Prop}{M:Model}{A:Around}{E:Value->Shared->Prop}{s:Shared}(h:wpAny M A t Q E s)(hQ:∀a s,Q a s->Q' a s):wpAny M A t Q' E s:=wpAny_mono h hQ fun _ _ x=>x
section
variable{X:Cx}
def apE(i:Nat):TE:=fun σ H Q=>∃v,σ[i]? =some (some v)/\Q v H
def tC(v:V):TE:=fun _ H Q=>Q v H
theorem an2{i:Nat}{x:Str}{pos:Pos}(hN:X.N[i]? =some x)(hv:Vis X.env.scope x)(hd:(x==("__debug__":Str))=false:=by decide)(hcd:(x==("__classdict__":Str))=false:=by decide):PE X (.Name x pos) (apE i):=by
 intro pins s σ H Q I h
 obtain⟨v,e,h⟩:=h
 obtain⟨m,hn,hl⟩:=I.loc
 obtain⟨u,r,l⟩:=hl i x v hN e hv
 have fin:EP X pins σ Q u s:=⟨v,H,I,r,h⟩
 rcases l with ⟨hk,hm⟩ | ⟨hk,c,hc,hcell⟩
 ·exact wpAny_Name (wpAny_loadName_local I.ok.kind hk hn hm fin) hd
 ·rcases hk with hk | hk
  ·exact wpAny_Name (wpAny_loadName_cell I.ok.kind hk hc hcell fin) hd
  ·exact wpAny_Name (wpAny_loadName_free I.ok.kind hk hc hcell fin hcd) hd
theorem ajM{i j pos}:PE X (.Constant (.int i) j pos) (tC (.int i)):=fun _ _ _ H _ I h=>wpAny_Constant_int ⟨.int i,H,I.tok _,⟨_,rfl⟩,h⟩
theorem aqF{b j pos}:PE X (.Constant (.bool b) j pos) (tC (.bl b)):=fun _ _ _ H _ I h=>Constant_bool ⟨.bl b,H,I,rfl,h⟩
theorem anB{j pos}:PE X (.Constant .none j pos) (tC .non):=fun _ _ _ H _ I h=>Constant_none ⟨.non,H,I,rfl,h⟩
theorem aj4{x j pos}:PE X (.Constant (.str x) j pos) (tC (.str x)):=fun _ _ _ H _ I h=>Calls.Constant_str ⟨.str x,H,I.tok _,⟨_,rfl⟩,h⟩
def Gl(X:Cx)(x:Str):Prop:=X.env.kindOf x=some .globalImplicit
theorem ab7{E:Value->Shared->Prop}{pins:List (Addr×Obj)}{s:Shared}{σ:St}{H:Hp}{x:Str}{u:Value}{pos:Pos}{Q:Value->Shared->Prop}(I:Inv X pins σ H s)(hg:Gl X x)(hm:X.mg x=some u)(h:Q u s)
  (hd:(x==("__debug__":Str))=false:=by decide):wpAny (model X.prog X.w) X.A (eval (.Name x pos) X.env) Q E s:=
 Calls.Name_function_global I.ok.kind hg (Calls.loadGlobal_global (by rw[I.ok.glob];exact I.mod.glob.keeps I.bk) hm h) hd
theorem ac4{E:Value->Shared->Prop}{pins:List (Addr×Obj)}{s:Shared}{σ:St}{H:Hp}{x:Str}{u:Value}{pos:Pos}{Q:Value->Shared->Prop}(I:Inv X pins σ H s)(hg:Gl X x)(hm:X.mg x=none)(hv:bootBuiltins x=some u)(h:Q u s)
  (hn:x≠"__name__":=by decide) (hd:(x==("__debug__":Str))=false:=by decide):wpAny (model X.prog X.w) X.A (eval (.Name x pos) X.env) Q E s:=by
 obtain⟨mb,h1,h2⟩:=I.mod.blt
 exact Calls.Name_function_global I.ok.kind hg (Calls.loadGlobal_builtin (by rw[I.ok.glob];exact I.mod.glob.keeps I.bk) hm (by rw[I.ok.blt];exact h1.keeps I.bk) ((h2 x hn).trans hv) h) hd
theorem akT{x:Str}{v:V}{u:Value}{pos:Pos}(hg:Gl X x)(hm:X.mg x=some u)(r:RelV v u)(hd:(x==("__debug__":Str))=false:=by decide):PE X (.Name x pos) (tC v):=
 fun _ _ _ H _ I h=>ab7 I hg hm ⟨v,H,I,r,h⟩ hd
theorem akM{x:Str}{v:V}{u:Value}{pos:Pos}(hg:Gl X x)(hm:X.mg x=none)(hv:bootBuiltins x=some u)(r:RelV v u)(hn:x≠"__name__":=by decide)(hd:(x==("__debug__":Str))=false:=by decide):PE X (.Name x pos) (tC v):=
 fun _ _ _ H _ I h=>ac4 I hg hm hv ⟨v,H,I,r,h⟩ hn hd
variable{a b:Expr}{ta tb:TE}{pos:Pos}
def tB(t:TE):TT:=fun σ H Q=>t σ H fun x H1=>∃c,x=.bl c/\Q c H1
theorem anV{e:Expr}{t:TE}(h:PE X e t)(he:∀whole,isTrue e X.env whole=(do let v ←whole;standAt e.pos;holding [v] (truthy v)):=by intro _;rfl):PT X e (tB t):=by
 intro pins s σ H Q I hw
 refine isTrue_plain (thn (h pins s σ H _ I hw) fun v s1 ⟨x,H1,I1,r1,q1⟩=>?_) (he _)
 obtain⟨d,rfl,q⟩:=q1
 cases r1
 exact wpAny_truthy_bool ⟨H1,I1,q⟩
variable{tA tB':TT}{rest:List Expr}
def tOr(t u:TT):TT:=fun σ H Q=>t σ H fun c H1=>if c=true then Q true H1 else u σ H1 Q
def ao2(t:TT):TT:=fun σ H Q=>t σ H fun c H1=>Q (!c) H1
theorem al9(ha:PT X a tA):PW X (.BoolOp .Or [a] pos) tA:=by
 intro wh pins s σ H Q I h
 refine isTrue_or (thn (ha pins s σ H Q I h) fun c s1 e=>?_)
 cases c with
 |false=>exact isTrue_or_nil e
 |true=>exact e
theorem aoA(ha:PT X a tA)(hb:PW X (.BoolOp .Or (b::rest) pos) tB'):PW X (.BoolOp .Or (a::b::rest) pos) (tOr tA tB'):=by
 intro wh pins s σ H Q I h
 refine isTrue_or (thn (ha pins s σ H _ I h) fun c s1 ⟨H1,I1,q1⟩=>?_)
 cases c with
 |true=>exact⟨H1,I1,q1⟩
 |false=>exact hb wh pins s1 σ H1 Q I1 q1
theorem anL(ha:PT X a tA):PT X (.UnaryOp .Not a pos) (ao2 tA):=by
 intro pins s σ H Q I h
 exact isTrue_not (ha pins s σ H (fun c H1=>Q (!c) H1) I h)
def al8(ta tb:TE):TE:=fun σ H Q=>ta σ H fun x H1=>∃c,x=.bl c/\if c=true then tb σ H1 Q else Q (.bl false) H1
def an4(ta tb:TE):TE:=fun σ H Q=>ta σ H fun x H1=>∃c,x=.bl c/\if c=true then Q (.bl true) H1 else tb σ H1 Q
def alR(ta:TE):TE:=fun σ H Q=>ta σ H fun x H1=>∃c,x=.bl c/\Q (.bl (!c)) H1
theorem amN{op}{t:TE}(h:PE X a t):PE X (.BoolOp op [a] pos) t:=fun pins s σ H Q I hw=>BoolOp_one (h pins s σ H Q I hw)
theorem anY(ha:PE X a ta)(hb:PE X (.BoolOp .And (b::rest) pos) tb):PE X (.BoolOp .And (a::b::rest) pos) (al8 ta tb):=by
 intro pins s σ H Q I h
 refine BoolOp_and (thn (ha pins s σ H _ I h) fun v s1 ⟨x,H1,I1,r1,q1⟩=>?_)
 obtain⟨c,rfl,q1⟩:=q1
 cases r1
 refine wpAny_truthy_bool ?_
 cases c with
 |true=>exact hb pins s1 σ H1 Q I1 q1
 |false=>exact⟨.bl false,H1,I1,rfl,q1⟩
theorem arJ(ha:PE X a ta)(hb:PE X (.BoolOp .Or (b::rest) pos) tb):PE X (.BoolOp .Or (a::b::rest) pos) (an4 ta tb):=by
 intro pins s σ H Q I h
 refine BoolOp_or (thn (ha pins s σ H _ I h) fun v s1 ⟨x,H1,I1,r1,q1⟩=>?_)
 obtain⟨c,rfl,q1⟩:=q1
 cases r1
 refine wpAny_truthy_bool ?_
 cases c with
 |false=>exact hb pins s1 σ H1 Q I1 q1
 |true=>exact⟨.bl true,H1,I1,rfl,q1⟩
theorem amB(ha:PE X a ta):PE X (.UnaryOp .Not a pos) (alR ta):=by
 intro pins s σ H Q I h
 refine UnaryOp_ (thn (ha pins s σ H _ I h) fun v s1 ⟨x,H1,I1,r1,q1⟩=>?_)
 obtain⟨c,rfl,q1⟩:=q1
 cases r1
 exact not_of (wpAny_truthy_bool ⟨.bl (!c),H1,I1,rfl,q1⟩)
def tIf(t:TT)(ta tb:TE):TE:=fun σ H Q=>t σ H fun c H1=>if c=true then ta σ H1 Q else tb σ H1 Q
theorem aj7{c:Expr}(hc:PT X c tA)(ha:PE X a ta)(hb:PE X b tb):PE X (.IfExp c a b pos) (tIf tA ta tb):=by
 intro pins s σ H Q I h
 refine wpAny_IfExp (thn (hc pins s σ H _ I h) fun d s1 ⟨H1,I1,q1⟩=>?_)
 cases d with
 |true=>exact ha pins s1 σ H1 Q I1 q1
 |false=>exact hb pins s1 σ H1 Q I1 q1
end
def SqL(K:PySem.W.Frag)(H:Hp)(a:Addr)(xs:List V):Prop:=
 Rd H a (.lst xs)∨
  ∃(o:Obj) (its:Array Value) (n:Nat),K.lookup a=some o/\o.cls=.type "list"/\o.dict=none/\o.data=.seq its n/\its.size<=sizeLine/\Vals xs its.toList
def SqT(K:PySem.W.Frag)(H:Hp)(a:Addr)(xs:List V):Prop:=
 Rd H a (.tup xs)∨
  ∃(o:Obj) (its:Array Value) (n:Nat),K.lookup a=some o/\o.cls=.type "tuple"/\o.data=.seq its n/\its.size<=sizeLine/\Vals xs its.toList
def absV:Value->Option V
 |.none=>some .non
 |.bool b=>some (.bl b)
 |.int i _=>some (.int i)
 |.str x _=>some (.str x)
 |.bytes b _=>some (.byt b)
 |.float b _=>some (.flt b)
 |.ref a=>some (.ref a)
 |.type n=>some (.ty n)
 |_=>none
theorem RelV.abs{x:V}{u:Value}(r:RelV x u):absV u=some x:=by
 cases x with
 |non=>cases r;rfl
 |bl _=>cases r;rfl
 |int _=>obtain⟨t,rfl⟩:=r;rfl
 |str _=>obtain⟨t,rfl⟩:=r;rfl
 |byt _=>obtain⟨t,rfl⟩:=r;rfl
 |flt _=>obtain⟨t,rfl⟩:=r;rfl
 |ref _=>cases r;rfl
 |ty _=>cases r;rfl
theorem RelV.inj{x y:V}{u:Value}(r:RelV x u)(q:RelV y u):x=y:=Option.some.inj (r.abs.symm.trans q.abs)
theorem Vals.inj:∀{xs ys:List V} {us:List Value},Vals xs us->Vals ys us->xs=ys
 |_,_,_,.nil,.nil=>rfl
 |_,_,_,.cons r t,.cons r' t'=>by rw[r.inj r',Vals.inj t t']
section
variable{X:Cx}{pins:List (Addr×Obj)}{σ:St}{H:Hp}{s:Shared}{a:Addr}{xs ys:List V}
theorem SqL.of{K:PySem.W.Frag}(h:H a=some (.lst xs)):SqL K H a xs:=.inl (.inl h)
theorem SqT.of{K:PySem.W.Frag}(h:H a=some (.tup xs)):SqT K H a xs:=.inl (.inl h)
theorem Inv.list(I:Inv X pins σ H s)(h:SqL X.K H a xs):∃its:List Value,Vals xs its/\PlainL s.heap a its.toArray/\xs.length<=sizeLine:=by
 rcases h with h | ⟨o,its,n,hk,hc,hd,hs,hz,r⟩
 ·obtain⟨z,its,n,r,e⟩:=h.ok I.hok
  exact⟨its,r,⟨_,n,e,rfl,rfl,rfl⟩,z⟩
 ·refine⟨its.toList,r,⟨o,n,I.kIn a o hk,hc,hd,by simpa using hs⟩,?_⟩
  have e:=r.length
  simp only[Array.length_toList] at e
  omega
theorem Inv.tuple(I:Inv X pins σ H s)(h:SqT X.K H a xs):∃its:List Value,Vals xs its/\IsTup s.heap a its.toArray/\xs.length<=sizeLine:=by
 rcases h with h | ⟨o,its,n,hk,hc,hs,hz,r⟩
 ·obtain⟨z,its,r,p⟩:=h.ok I.hok
  exact⟨its,r,p,z⟩
 ·refine⟨its.toList,r,⟨o,I.kIn a o hk,hc,n,by simpa using hs⟩,?_⟩
  have e:=r.length
  simp only[Array.length_toList] at e
  omega
theorem Inv.list_inj(I:Inv X pins σ H s)(h:SqL X.K H a xs)(h':SqL X.K H a ys):xs=ys:=by
 obtain⟨its,r,⟨o,n,e,_,_,d⟩,_⟩:=I.list h
 obtain⟨its',r',⟨o',n',e',_,_,d'⟩,_⟩:=I.list h'
 rw[e] at e';cases e'
 rw[d] at d'
 injection d' with d1 _
 have:its=its':=by simpa using congrArg Array.toList d1
 subst this
 exact r.inj r'
end
abbrev Cx.wish(X:Cx)(E:Value->Shared->Prop):Cx:={X with xe:=E}
abbrev Cx.nox(X:Cx):Cx:=X.wish fun _ _=>False
theorem Cx.Ok.wish{X:Cx}(ok:X.Ok)(E:Value->Shared->Prop):(X.wish E).Ok:=
 ⟨ok.mod,ok.kind,ok.glob,ok.blt,ok.above,ok.inj,ok.has,ok.cab,ok.hd,ok.frames,ok.stk,ok.exf,ok.bs,ok.bsz,ok.noex,ok.exfs,ok.funs,ok.frf⟩
theorem Cx.Ok.unwish{X:Cx}{E:Value->Shared->Prop}(ok:(X.wish E).Ok):X.Ok:=
 ⟨ok.mod,ok.kind,ok.glob,ok.blt,ok.above,ok.inj,ok.has,ok.cab,ok.hd,ok.frames,ok.stk,ok.exf,ok.bs,ok.bsz,ok.noex,ok.exfs,ok.funs,ok.frf⟩
section
variable{X:Cx}{pins:List (Addr×Obj)}{σ:St}{H:Hp}{s:Shared}{E:Value->Shared->Prop}
theorem Inv.wish(I:Inv X pins σ H s)(E:Value->Shared->Prop):Inv (X.wish E) pins σ H s:=⟨I.ok.wish E,I.os,I.bare,I.base,I.loc,I.cell,I.free,I.freeC,I.pin,I.hok,I.len⟩
theorem Inv.unwish(I:Inv (X.wish E) pins σ H s):Inv X pins σ H s:=⟨I.ok.unwish,I.os,I.bare,I.base,I.loc,I.cell,I.free,I.freeC,I.pin,I.hok,I.len⟩
theorem SP.unwish{D:Ends}{f:Flow}{s':Shared}(h:SP (X.wish E) pins D f s'):SP X pins D f s':=by
 cases f with
 |next=>obtain⟨σ',H',I,q⟩:=h;exact⟨σ',H',I.unwish,q⟩
 |brk=>obtain⟨σ',H',I,q⟩:=h;exact⟨σ',H',I.unwish,q⟩
 |cont=>obtain⟨σ',H',I,q⟩:=h;exact⟨σ',H',I.unwish,q⟩
 |ret u=>obtain⟨v,σ',H',I,r,q⟩:=h;exact⟨v,σ',H',I.unwish,r,q⟩
theorem PSs.nox{st:List Stmt}{t:TS}(h:PSs X.nox st t):PSs X st t:=fun pins s σ H D I hw=>
 wpAny_mono (h pins s σ H D (I.wish _) hw) (fun _ _ q=>q.unwish) fun _ _ z=>False.elim z
end
section
variable{X:Cx}{st:Stmt}{rest:List Stmt}{t u:TS}{e:Expr}{te:TE}{pos:Pos}
def al4:TS:=fun D σ H=>D.nx σ H
def apJ(t u:TS):TS:=fun D σ H=>t {D with nx:=u D} σ H
theorem alM:PSs X [] al4:=fun _ _ σ H _ I h=>wpAny_execs_nil ⟨σ,H,I,h⟩
theorem ajV(h1:PS X st t)(h2:PSs X rest u):PSs X (st::rest) (apJ t u):=by
 intro pins s σ H D I h
 refine wpAny_execs_cons (thn (h1 pins s σ H {D with nx:=u D} I h) fun f s1 q=>?_)
 cases f with
 |next=>
  obtain⟨σ',H',I',q⟩:=q
  exact h2 pins s1 σ' H' D I' q
 |ret v=>exact q
 |brk=>exact q
 |cont=>exact q
theorem ak5(h1:PS X st t):PSs X [st] t:=by
 intro pins s σ H D I h
 refine wpAny_execs_cons (thn (h1 pins s σ H D I h) fun f s1 q=>?_)
 cases f with
 |next=>exact wpAny_execs_nil q
 |ret v=>exact q
 |brk=>exact q
 |cont=>exact q
theorem Inv.quiet{pins:List (Addr×Obj)}{σ:St}{H:Hp}{s:Shared}(I:Inv X pins σ H s):interactive X.env=false:=by simp[interactive,I.ok.kind]
def al2(te:TE):TS:=fun D σ H=>te σ H fun _ H1=>D.nx σ H1
theorem akY(he:PE X e te)(hs:swapsWith e none pos.line X.env=pure false:=by rfl):PS X (.Expr e pos) (al2 te):=by
 intro pins s σ H D I h
 exact wpAny_Expr_any (thn (he pins s σ H _ I h) fun v s1 ⟨x,H1,I1,r1,q1⟩=>⟨σ,H1,I1,q1⟩) I.quiet hs
def an3(te:TE):TS:=fun D σ H=>te σ H D.rt
theorem am2(he:PE X e te):PS X (.Return (some e) pos) (an3 te):=by
 intro pins s σ H D I h
 exact wpAny_Return_some (thn (he pins s σ H _ I h) fun v s1 ⟨x,H1,I1,r1,q1⟩=>⟨x,σ,H1,I1,r1,q1⟩)
def apP(c:TT)(t u:TS):TS:=fun D σ H=>c σ H fun b H1=>if b=true then t D σ H1 else u D σ H1
theorem apT{c:Expr}{a b:List Stmt}{tc:TT}(hc:PT X c tc)(ha:PSs X a t)(hb:PSs X b u):PS X (.If c a b pos) (apP tc t u):=by
 intro pins s σ H D I h
 refine wpAny_If (thn (hc pins s σ H _ I h) fun d s1 ⟨H1,I1,q1⟩=>?_)
 cases d with
 |true=>exact ha pins s1 σ H1 D I1 q1
 |false=>exact hb pins s1 σ H1 D I1 q1
end
abbrev TG:=V->St->Hp->(St->Hp->Prop)->Prop
abbrev TGs:=List V->St->Hp->(St->Hp->Prop)->Prop
def PG(X:Cx)(target:Expr)(t:TG):Prop:=
 ∀(pins:List (Addr×Obj)) (s:Shared) (σ:St) (H:Hp) (v:V) (u:Value) (Q:St->Hp->Prop),Inv X pins σ H s->RelV v u->t v σ H Q->
  wpAny (model X.prog X.w) X.A (assign target X.env u) (fun _ s'=>∃σ' H',Inv X pins σ' H' s'/\Q σ' H') X.xe s
def PGs(X:Cx)(ts:List Expr)(t:TGs):Prop:=
 ∀(pins:List (Addr×Obj)) (s:Shared) (σ:St) (H:Hp) (vs:List V) (us:List Value) (Q:St->Hp->Prop),Inv X pins σ H s->Vals vs us->t vs σ H Q->
  wpAny (model X.prog X.w) X.A (assignInOrder ((assignEach ts X.env).map (·.2)) us) (fun _ s'=>∃σ' H',Inv X pins σ' H' s'/\Q σ' H') X.xe s
abbrev anW:=V->V->V->Hp->(Hp->Prop)->Prop
def aoD(X:Cx)(t:anW):Prop:=
 ∀(pins:List (Addr×Obj)) (s:Shared) (σ:St) (H:Hp) (o i v:V) (ov iv u:Value) (Q:Hp->Prop),Inv X pins σ H s->RelV o ov->RelV i iv->RelV v u->t o i v H Q->
  wpAny (model X.prog X.w) X.A (setItem ov iv u) (fun _ s'=>∃H',Inv X pins σ H' s'/\Q H') X.xe s
section
variable{X:Cx}{pos:Pos}
def acG(i:Nat):TG:=fun v σ H Q=>Q (σ.set i (some v)) H
theorem ak0{i:Nat}{x:Str}(hN:X.N.Nodup)(hi:X.N[i]? =some x)(hx:Loc X.env.scope x)(hf:X.fn x=true∨X.env.scope.names.lookup x=some .local:=by first | exact .inl rfl | exact .inr rfl | assumption):PG X (.Name x pos) (acG i):=by
 intro pins s σ H v u Q I r h
 exact wpAny_assign_Name (acU I hN hi hx r (fun s' I'=>⟨_,H,I',h⟩) hf)
def aqY:TGs:=fun vs σ H Q=>vs=[]/\Q σ H
def alW(t:TG)(u:TGs):TGs:=fun vs σ H Q=>∃v r,vs=v::r/\t v σ H fun σ' H'=>u r σ' H' Q
theorem alG:PGs X [] aqY:=by
 intro pins s σ H vs us Q I r h
 obtain⟨e,h⟩:=h
 subst e
 cases r
 exact assignInOrder_nil ⟨σ,H,I,h⟩
theorem ai6{e:Expr}{es:List Expr}{t:TG}{u:TGs}(h1:PG X e t)(h2:PGs X es u)
  (hs:(assignEach (e::es) X.env).map (·.2)=assign e X.env::(assignEach es X.env).map (·.2):=by rfl):PGs X (e::es) (alW t u):=by
 intro pins s σ H vs us Q I r h
 obtain⟨v,vr,e1,h⟩:=h
 subst e1
 cases r with
 |cons r rr=>
  rw[hs]
  refine assignInOrder_cons (thn (h1 pins s σ H _ _ _ I r h) fun _ s1 ⟨σ1,H1,I1,q1⟩=>?_)
  exact h2 pins s1 σ1 H1 _ _ Q I1 rr q1
def arA(K:PySem.W.Frag)(n:Nat)(t:TGs):TG:=fun v σ H Q=>∃a xs,v=.ref a/\SqT K H a xs/\xs.length=n/\t xs σ H Q
theorem anI{es:List Expr}{k:Nat}{t:TGs}{n:Nat}(hc:X.calm=true)(h:PGs X es t)
  (hn:(assignEach es X.env).length=n:=by rfl) (hst:(assignEach es X.env).findIdx? (·.1)=none:=by rfl):PG X (.Tuple es k pos) (arA X.K n t):=by
 intro pins s σ H v u Q I r hw
 obtain⟨a,xs,e1,hq,hl,hw⟩:=hw
 subst e1
 cases r
 obtain⟨its,rv,ht,hz⟩:=I.tuple hq
 refine assign_Tuple_tuple (I.ok.hd hc) ht (by simp[hn,←hl,rv.length]) hst fun h' hx=>?_
 have I1:Inv X pins σ H {s with heap:=h'}:=I.kept (t':=s.toks) fun b o e=>hx b o (Nat.ne_of_lt (Heap.lt_size e)) e
 exact h pins _ σ H xs _ Q I1 (by simpa using rv) hw
def arD(to ti:TE)(t:anW):TG:=fun v σ H Q=>to σ H fun o H1=>ti σ H1 fun i H2=>t o i v H2 fun H3=>Q σ H3
theorem anO{o i:Expr}{to ti:TE}{t:anW}(ho:PE X o to)(hi:PE X i ti)(hs:aoD X t)
  (ha:∀v,assign (.Subscript o i pos) X.env v=(do
   let ov ←holding [v] (eval o X.env)
   let iv ←holding [v,ov] (eval i X.env)
   standAt pos
   holding [v,ov,iv] (setItem ov iv v)
   release [v,ov,iv] []):=by intro _;rfl):PG X (.Subscript o i pos) (arD to ti t):=by
 intro pins s σ H v u Q I r h
 rw[ha]
 refine wpAny_bind (wpAny_holding (thn (ho pins s σ H _ I h) fun ov s1 ⟨x,H1,I1,r1,q1⟩=>?_))
 refine wpAny_bind (wpAny_holding (thn (hi pins s1 σ H1 _ I1 q1) fun iv s2 ⟨y,H2,I2,r2,q2⟩=>?_))
 refine wpAny_bind (wpAny_standAt (wpAny_bind (wpAny_holding (thn (hs pins s2 σ H2 x y v ov iv u _ I2 r1 r2 r q2) fun _ s3 ⟨H3,I3,q3⟩=>?_))))
 exact wpAny_release ⟨σ,H3,I3,q3⟩
def ajW(te:TE)(g:TG):TS:=fun D σ H=>te σ H fun x H1=>g x σ H1 D.nx
theorem am7{tg e:Expr}{te:TE}{g:TG}(he:PE X e te)(hg:PG X tg g)(hs:swapsWithSole [tg] e pos.line X.env=pure false:=by rfl)(hw:swappedStores [tg] e X.env=pure none:=by rfl)
  (h1:(assignEach [tg] X.env).map (·.2)=[assign tg X.env]:=by rfl):PS X (.Assign [tg] e pos) (ajW te g):=by
 intro pins s σ H D I h
 refine wpAny_Assign_stores (thn (he pins s σ H _ I h) fun v s1 ⟨x,H1,I1,r1,q1⟩=>?_) hs hw
 rw[h1]
 exact thn (hg pins s1 σ H1 x v _ I1 r1 q1) fun _ s2 q=>q
theorem anM{i:Nat}{x:Str}{e:Expr}{te:TE}{pos':Pos}(hN:X.N.Nodup)(hi:X.N[i]? =some x)(hx:Loc X.env.scope x)(he:PE X e te)(hs:swapsWith e (some (.Name x pos')) pos.line X.env=pure false:=by rfl)(hf:X.fn x=true∨X.env.scope.names.lookup x=some .local:=by first | exact .inl rfl | exact .inr rfl | assumption):
  PS X (.Assign [.Name x pos'] e pos) (ajW te (acG i)):=by
 intro pins s σ H D I h
 refine wpAny_Assign_Name (thn (he pins s σ H _ I h) fun v s1 ⟨y,H1,I1,r1,q1⟩=>?_) hs
 exact acU I1 hN hi hx r1 (fun s2 I2=>⟨_,H1,I2,q1⟩) hf
end
section
variable{X:Cx}{pos:Pos}
end
structure It where
 go:Nat->Hp->Prop
 yld:Nat->Hp->V->Hp->Prop
 stop:Nat->Hp->Prop
def acR(X:Cx)(pins:List (Addr×Obj))(H:Hp)(b:Addr):Prop:=
 H b=none/\b≠X.env.locals/\b∉X.fs/\(b∈X.ex∨X.s₀.heap.objs.size<=b)/\(∀x c,X.env.cells.lookup x=some c->c≠b)/\∀p∈X.pn++pins,p.1≠b
theorem Inv.fpOk{X:Cx}{pins:List (Addr×Obj)}{σ:St}{H H':Hp}{s:Shared}{b:Addr}(I:Inv X pins σ H s)(hb:s.heap.objs.size<=b)(hn:H' b=none):acR X pins H' b:=by
 refine⟨hn,Nat.ne_of_gt (Nat.lt_of_lt_of_le I.lt hb),I.nofs hb,.inr (Nat.le_trans I.sz hb),fun x c e z=>?_,fun p hp z=>?_⟩
 ·obtain⟨v,q⟩:=I.cell x c e
  exact absurd (Nat.lt_of_lt_of_le q.lt (by rw[z];exact hb)) (Nat.lt_irrefl _)
 ·exact absurd (Nat.lt_of_lt_of_le (Heap.lt_size (I.pin p hp).1) (by rw[z];exact hb)) (Nat.lt_irrefl _)
structure Turn(P:Program)(w:World)(K:PySem.W.Frag)(tg:Expr)(J:It)(fp:List Addr)(it:Addr)(tn:Nat->Heap->Prop):Prop where
 mem:it∈fp
 obj:∀i h,tn i h->∀b∈fp,∃o,h.get? b=some o/\∀v,o.data≠ .cell v
 keep:∀i h h',tn i h->(∀b∈fp,∀o,h.get? b=some o->h'.get? b=some o)->tn i h'
 item:∀(X:Cx),X.prog=P->X.w=w->X.K=K->X.calm=true->∀(i:Nat) (pins:List (Addr×Obj)) (s:Shared) (σ:St) (H:Hp) (E:Value->Shared->Prop),Inv X pins σ H s->(∀b∈fp,acR X pins H b)->tn i s.heap->J.go i H->
  wpAny (model P w) X.A (pyNext (.ref it)) (fun r s1=>∃u,r=some u/\
   wpAny (model P w) X.A (letOwnedTupleGo tg (.ref it) u) (fun _ s2=>∃x H',Inv X pins σ H' s2/\RelV x u/\J.yld i H x H'/\tn (i+1) s2.heap/\∀b∈fp,H' b=none) E s1) E s
 done:∀(X:Cx),X.prog=P->X.w=w->X.K=K->X.calm=true->∀(i:Nat) (pins:List (Addr×Obj)) (s:Shared) (σ:St) (H:Hp) (E:Value->Shared->Prop),Inv X pins σ H s->(∀b∈fp,acR X pins H b)->tn i s.heap->J.stop i H->
  wpAny (model P w) X.A (pyNext (.ref it)) (fun r s1=>r=none/\Inv X pins σ H s1) E s
 self:∀(A:Around) (i:Nat) (s:Shared) (Q:Value->Shared->Prop) (E:Value->Shared->Prop),tn i s.heap->Q (.ref it) s->wpAny (model P w) A (pyIter (.ref it)) Q E s
abbrev TI:=St->Hp->(It->Hp->Prop)->Prop
def PIE(X:Cx)(pins:List (Addr×Obj))(σ:St)(tg:Expr)(R:It->Hp->Prop)(itv:Value)(s2:Shared):Prop:=
 ∃(it:Addr) (fp:List Addr) (tn:Nat->Heap->Prop) (J:It) (H':Hp),itv=.ref it/\Inv X pins σ H' s2/\Turn X.prog X.w X.K tg J fp it tn/\tn 0 s2.heap/\(∀b∈fp,acR X pins H' b)/\R J H'
def PI(X:Cx)(tg iter:Expr)(wi:TI):Prop:=
 ∀(pins:List (Addr×Obj)) (s:Shared) (σ:St) (H:Hp) (R:It->Hp->Prop),Inv X pins σ H s->wi σ H R->
  wpAny (model X.prog X.w) X.A (eval iter X.env) (fun v s1=>wpAny (model X.prog X.w) X.A (pyIter v) (PIE X pins σ tg R) X.xe s1) X.xe s
theorem ahW{M:Model}{A:Around}{E:Value->Shared->Prop}{s:Shared}{tg:Expr}{it:Addr}{u:Value}{o:Obj}{n:String}{vs:Array Value}{Q:Unit->Shared->Prop}(ho:s.heap.get? it=some o)(hc:o.cls=.type n)(hd:o.data=.fields vs)
  (hn:["enumerate","zip","dict_itemiterator","dict_reverseitemiterator","odict_iterator","itertools.zip_longest","itertools.pairwise"].contains n=false) (hQ:Q () s):wpAny M A (letOwnedTupleGo tg (.ref it) u) Q E s:=by
 unfold letOwnedTupleGo
 cases tg<;>first
  |exact wpAny_pure hQ
  |(cases u<;>first
    |exact wpAny_pure hQ
    |(refine wpAny_bind (wpAny_load ho ?_)
      rw[hc,hd]
      show wpAny M A (if (["enumerate","zip","dict_itemiterator","dict_reverseitemiterator","odict_iterator","itertools.zip_longest","itertools.pairwise"].contains n&&vs[0]? ==some (rawInt _))=true then _ else _) Q E s
      rw[if_neg (by intro h;rw[hn,Bool.false_and] at h;cases h)]
      exact wpAny_pure hQ))
def Itl(K:PySem.W.Frag)(a:Addr):It:=
 ⟨fun i H=>∃xs x,SqL K H a xs/\xs[i]? =some x,fun i H x H'=>H'=H/\∀xs,SqL K H a xs->xs[i]? =some x,fun i H=>∃xs,SqL K H a xs/\xs.length<=i⟩
def Itr(lo:Int)(n:Nat):It:=⟨fun i _=>i<n,fun i H x H'=>H'=H/\x=.int (lo+i),fun i _=>n<=i⟩
theorem aiS{P:Program}{w:World}{K:PySem.W.Frag}{tg:Expr}(a it:Addr):Turn P w K tg (Itl K a) [it] it (fun i h=>h.IsListIter it a i) where
 mem:=by simp
 obj:=fun i h st b hb=>by
  have e:b=it:=by simpa using hb
  subst e
  obtain⟨o,e,c,d⟩:=st
  exact⟨o,e,fun v z=>by rw[d] at z;cases z⟩
 keep:=fun i h h' st k=>st.at fun o e=>k it (by simp) o e
 item:=by
  intro X hP hw hK hc i pins s σ H E I hf st hg
  subst hP hw hK
  obtain⟨xs,x,hq,hx⟩:=hg
  obtain⟨its,rv,p,hz⟩:=I.list hq
  obtain⟨u,hu,ru⟩:=rv.get hx
  obtain⟨f0,f1,f2,f3,f4,f5⟩:=hf it (by simp)
  refine wpAny_pyNext_list_item st p.isList (x:=u) (by simpa using hu) fun h' st' sb=>?_
  have I1:Inv X pins σ H {s with heap:=h'}:=I.turned (t':=s.toks) (fun b o hb e=>(sb.2 b hb).trans e) f0 f1 f3 f4 f5
  obtain⟨o,e,c,d⟩:=id st'
  exact⟨u,rfl,ahW (s:={s with heap:=h'}) e c d (by decide) ⟨x,H,I1,ru,⟨rfl,fun ys hy=>by rw[I.list_inj hy hq];exact hx⟩,st',fun b hb=>(hf b hb).1⟩⟩
 done:=by
  intro X hP hw hK hc i pins s σ H E I hf st hg
  subst hP hw hK
  obtain⟨xs,hq,hx⟩:=hg
  obtain⟨its,rv,p,hz⟩:=I.list hq
  obtain⟨f0,f1,f2,f3,f4,f5⟩:=hf it (by simp)
  have hl:=rv.length
  exact wpAny_pyNext_list_end (I.ok.hd hc) st p.isList (by simp;omega) fun h' eb=>⟨rfl,I.turned (t':=s.toks) (fun b o hb e=>eb b o hb e) f0 f1 f3 f4 f5⟩
 self:=fun _ _ _ _ _ st h=>wpAny_pyIter_listiter st h
theorem ahB{P:Program}{w:World}{K:PySem.W.Frag}{tg:Expr}(it:Addr)(lo:Int)(n:Nat):Turn P w K tg (Itr lo n) [it] it (fun i h=>IsRangeIter h it (lo+(i:Nat)*1) ((n:Int)-(i:Nat)) 1) where
 mem:=by simp
 obj:=fun i h st b hb=>by
  have e:b=it:=by simpa using hb
  subst e
  exact⟨_,st,fun v z=>by
   have z':Data.fields _=Data.cell v:=z
   cases z'⟩
 keep:=fun i h h' st k=>k it (by simp) _ st
 item:=by
  intro X hP hw hK hc i pins s σ H E I hf st hg
  subst hP hw hK
  obtain⟨f0,f1,f2,f3,f4,f5⟩:=hf it (by simp)
  have W:=Walks.range (prog:=X.prog) (w:=X.w) (I.ok.hd hc) it lo 1 n
  refine W.item i s _ _ hg st fun v h' tk hv st' kk=>?_
  obtain⟨t,rfl⟩:=hv
  have I1:Inv X pins σ H {s with heap:=h',toks:=tk}:=I.turned (fun b o hb e=>kk b o (by simpa using hb) e) f0 f1 f3 f4 f5
  refine⟨_,rfl,ahW (s:={s with heap:=h',toks:=tk}) (n:="range_iterator") st' rfl rfl (by decide) ⟨.int (lo+i),H,I1,⟨t,?_⟩,⟨rfl,rfl⟩,st',fun b hb=>(hf b hb).1⟩⟩
  rw[Int.mul_one]
 done:=by
  intro X hP hw hK hc i pins s σ H E I hf st hg
  subst hP hw hK
  obtain⟨f0,f1,f2,f3,f4,f5⟩:=hf it (by simp)
  exact wpAny_pyNext_range_end (I.ok.hd hc) st (by have:n<=i:=hg;omega) fun h' eb=>⟨rfl,I.turned (t':=s.toks) (fun b o hb e=>eb b o hb e) f0 f1 f3 f4 f5⟩
 self:=fun _ _ _ _ _ st h=>wpAny_pyIter_rangeiter st h
section
variable{X:Cx}{tg:Expr}
def al7(K:PySem.W.Frag)(tl:TE):TI:=fun σ H R=>tl σ H fun x H1=>∃a,x=.ref a/\(∃xs,SqL K H1 a xs)/\R (Itl K a) H1
theorem alP{l:Expr}{tl:TE}(hl:PE X l tl):PI X tg l (al7 X.K tl):=by
 intro pins s σ H R I h
 refine thn (hl pins s σ H _ I h) fun v s1 ⟨x,H1,I1,r1,q1⟩=>?_
 obtain⟨a,e,⟨xs,hq⟩,q⟩:=q1
 subst e
 cases r1
 obtain⟨its,rv,p,hz⟩:=I1.list hq
 refine wpAny_pyIter_list p.isList ?_
 refine⟨s1.heap.objs.size,[s1.heap.objs.size],_,_,H1,rfl,I1.kept (t':=s1.toks) fun b o e=>Heap.get?_push_of_some _ e,aiS a _,⟨_,Heap.get?_push_size _ rfl,rfl,rfl⟩,fun b hb=>?_,q⟩
 have e:b=s1.heap.objs.size:=by simpa using hb
 subst e
 exact I1.fpOk (Nat.le_refl _) (I1.hok.fresh (Nat.le_refl _))
theorem agC{pins:List (Addr×Obj)}{σ:St}{H:Hp}{s:Shared}{R:It->Hp->Prop}{E:Value->Shared->Prop}{lo hi:Int}{t u v:Tok}{tk:Nat}(I:Inv X pins σ H s)(h1: -(2^62)<=lo)(h2:lo<2^62)(h3: -(2^62)<=hi)(h4:hi<2^62)
  (q:R (Itr lo (hi-lo).toNat) H):wpAny (model X.prog X.w) X.A (pyIter (.ref s.heap.objs.size)) (PIE X pins σ tg R) E {s with heap:=s.heap.push {cls:=.type "range",data:=.fields #[.int lo t,.int hi u,.int 1 v]},toks:=tk}:=by
 refine wpAny_pyIter_range (IsRange.new ..) (small_one h1 h2 h3 h4) ?_
 have I1:Inv X pins σ H {s with heap:=s.heap.push {cls:=.type "range",data:=.fields #[.int lo t,.int hi u,.int 1 v]},toks:=tk}:=I.kept fun b o e=>Heap.get?_push_of_some _ e
 refine⟨(s.heap.push {cls:=.type "range",data:=.fields #[.int lo t,.int hi u,.int 1 v]}).objs.size,[(s.heap.push {cls:=.type "range",data:=.fields #[.int lo t,.int hi u,.int 1 v]}).objs.size],_,_,H,rfl,
  I1.kept (t':=tk) fun b o e=>Heap.get?_push_of_some _ e,ahB _ lo (hi-lo).toNat,?_,fun b hb=>?_,q⟩
 ·have e1:lo+((0:Nat):Int)*1=lo:=by simp
  have e2:(((hi-lo).toNat:Nat):Int)-((0:Nat):Int)=Builtin.Range.rangeSize lo hi 1:=by rw[rangeSize_one];split<;>omega
  show IsRangeIter _ _ (lo+((0:Nat):Int)*1) ((((hi-lo).toNat:Nat):Int)-((0:Nat):Int)) 1
  rw[e1,e2]
  exact Heap.get?_push_size _ rfl
 ·have e:b=(s.heap.push {cls:=.type "range",data:=.fields #[.int lo t,.int hi u,.int 1 v]}).objs.size:=by simpa using hb
  subst e
  exact I1.fpOk (Nat.le_refl _) (I1.hok.fresh (Nat.le_refl _))
def alQ(ta:TA):TI:=fun σ H R=>ta σ H fun vs H1=>∃j:Int,vs=[.int j]/\ -(2^62)<=j/\j<2^62/\R (Itr 0 j.toNat) H1
def alT(ta:TA):TI:=fun σ H R=>ta σ H fun vs H1=>∃i j:Int,vs=[.int i,.int j]/\(-(2^62)<=i/\i<2^62/\ -(2^62)<=j/\j<2^62)/\R (Itr i (j-i).toNat) H1
theorem aiG{a:Expr}{ta:TA}{p pos:Pos}(hg:Gl X "range")(hm:X.mg "range"=none)(ha:PA X [a] ta)(hs:starEach [a] X.env=[(false,eval a X.env)]:=by rfl):PI X tg (.Call (.Name "range" p) [a] [] pos) (alQ ta):=by
 intro pins s σ H R I h
 refine Call_ (ac4 I hg hm boot_range (PyProof.Rows.callWith_type1 (thn (ha pos pins s σ H _ I h) fun us s1 ⟨vs,H1,I1,r1,q1⟩=>?_) hs rfl))
 obtain⟨j,e,q1,q2,q⟩:=q1
 subst e
 cases r1 with
 |cons r rr=>
  cases rr
  obtain⟨t,rfl⟩:=r
  exact call_range_1 (agC I1 (by omega) (by omega) q1 q2 (by simpa using q))
theorem aiL{a b:Expr}{ta:TA}{p pos:Pos}(hg:Gl X "range")(hm:X.mg "range"=none)(ha:PA X [a,b] ta)(hs:starEach [a,b] X.env=[(false,eval a X.env),(false,eval b X.env)]:=by rfl)(hs2:starEach [b] X.env=[(false,eval b X.env)]:=by rfl):
  PI X tg (.Call (.Name "range" p) [a,b] [] pos) (alT ta):=by
 intro pins s σ H R I h
 refine Call_ (ac4 I hg hm boot_range (PyProof.Rows.callWith_type1 (thn (ha pos pins s σ H _ I h) fun us s1 ⟨vs,H1,I1,r1,q1⟩=>?_) (by rw[hs,hs2]) (by rw[hs2];rfl)))
 obtain⟨i,j,e,⟨q1,q2,q3,q4⟩,q⟩:=q1
 subst e
 cases r1 with
 |cons r rr=>
  cases rr with
  |cons r' rr=>
   cases rr
   obtain⟨t,rfl⟩:=r
   obtain⟨t',rfl⟩:=r'
   exact call_range_2 (agC I1 q1 q2 q3 q4 q)
def arS(wi:TI)(g:TG)(tb:TS):TS:=fun D σ H=>wi σ H fun J H1=>∃W:Nat->Nat->St->Hp->Prop,(∃m,W 0 m σ H1)/\∀i m σ H,W i m σ H->
 (J.stop i H/\D.nx σ H)∨(J.go i H/\∃N:St->Hp->Prop,(∀σ' H',N σ' H'->∃m',m'<m/\W (i+1) m' σ' H')/\∀x H',J.yld i H x H'->g x σ H' fun σ2 H2=>tb {D with nx:=N,ct:=N,bk:=D.nx} σ2 H2)
def ac3(fp:List Addr)(h:Heap):List (Addr×Obj):=fp.filterMap fun b=>(h.get? b).map fun o=>(b,o)
theorem abP{fp:List Addr}{h:Heap}{b:Addr}{o:Obj}(hb:b∈fp)(e:h.get? b=some o):(b,o)∈ac3 fp h:=List.mem_filterMap.mpr ⟨b,hb,by rw[e];rfl⟩
theorem aiV{fp:List Addr}{h:Heap}{p:Addr×Obj}(hp:p∈ac3 fp h):p.1∈fp/\h.get? p.1=some p.2:=by
 obtain⟨b,hb,e⟩:=List.mem_filterMap.mp hp
 cases q:h.get? b with
 |none=>rw[q] at e;cases e
 |some o=>
  rw[q] at e
  have e':(b,o)=p:=Option.some.inj e
  subst e'
  exact⟨hb,q⟩
theorem Inv.pinned{pins:List (Addr×Obj)}{σ:St}{H:Hp}{s:Shared}{fp:List Addr}(I:Inv X pins σ H s)(hf:∀b∈fp,acR X pins H b)(ho:∀b∈fp,∃o,s.heap.get? b=some o/\∀v,o.data≠ .cell v):Inv X (pins++ac3 fp s.heap) σ H s:=
 I.pins_of fun p hp=>(List.mem_append.mp hp).elim (fun z=>I.pin p (List.mem_append_right _ z)) fun z=>by
  obtain⟨hb,e⟩:=aiV z
  obtain⟨f0,f1,f2,_⟩:=hf p.1 hb
  obtain⟨o,e',d⟩:=ho p.1 hb
  rw[e] at e';cases e'
  exact⟨e,f0,f1,f2,d⟩
theorem Inv.unpinned{pins pl:List (Addr×Obj)}{σ:St}{H:Hp}{s:Shared}(I:Inv X (pins++pl) σ H s):Inv X pins σ H s:=I.pins_of fun p hp=>I.pin p (List.mem_append_right _ (List.mem_append_left _ hp))
theorem am6{iter:Expr}{body:List Stmt}{wi:TI}{g:TG}{tb:TS}{pos:Pos}(hp:PassesOwn (model X.prog X.w) X.A X.env X.xe)(hc:X.calm=true)(hi:PI X tg iter wi)(hg:PG X tg g)(hb:PSs X body tb)
  (hs:∀x,foldedSetIterable iter X.env x=pure x:=by intro _;rfl):PS X (.For tg iter body [] pos) (arS wi g tb):=by
 intro pins s σ H D I h
 refine wpAny_For (thn (hi pins s σ H _ I h) fun v s1 h1=>thn h1 fun itv s2 h2=>?_) hs
 obtain⟨it,fp,tn,J,H2,e,I2,T,st2,f2,W,⟨m0,w0⟩,turn⟩:=h2
 subst e
 -- what stays true of the iterator's objects through the loop
 have stat:∀{H':Hp},(∀b∈fp,H' b=none)->∀b∈fp,acR X pins H' b:=fun hn b hb=>⟨hn b hb,(f2 b hb).2⟩
 refine codeAny_forLoop_any (fun n s'=>∃i σ' H',Inv X pins σ' H' s'/\tn i s'.heap/\(∀b∈fp,H' b=none)/\W i n σ' H') ?_ m0 ⟨0,σ,H2,I2,st2,fun b hb=>(f2 b hb).1,w0⟩
 rintro n s3 ⟨i,σ3,H3,I3,st3,fr3,w3⟩
 rcases turn i n σ3 H3 w3 with ⟨stop,qn⟩ | ⟨go,N,hN,step⟩
 ·refine wpAny_passesOwn hp (thn (T.done X rfl rfl rfl hc i pins s3 σ3 H3 X.xe I3 (stat fr3) st3 stop) fun r s4 ⟨hr,I4⟩=>?_)
  subst hr
  exact wpAny_execs_nil ⟨σ3,H3,I4,qn⟩
 ·refine wpAny_passesOwn hp (thn (T.item X rfl rfl rfl hc i pins s3 σ3 H3 X.xe I3 (stat fr3) st3 go) fun r s4 ⟨u,hr,h4⟩=>?_)
  subst hr
  refine wpAny_passesOwn hp (thn h4 fun _ s5 ⟨x,H5,I5,r5,y5,st5,fr5⟩=>?_)
  have I5':=I5.pinned (stat fr5) (T.obj _ _ st5)
  refine wpAny_passesOwn hp (thn (hg _ s5 σ3 H5 x u _ I5' r5 (step x H5 y5)) fun _ s6 ⟨σ6,H6,I6,q6⟩=>?_)
  refine wpAny_passesOwn hp (thn (hb _ s6 σ6 H6 _ I6 q6) fun f s7 q7=>?_)
  have again:∀{σ7:St} {H7:Hp},Inv X (pins++ac3 fp s5.heap) σ7 H7 s7->N σ7 H7->∃m,m<n/\∃i σ' H',Inv X pins σ' H' s7/\tn i s7.heap/\(∀b∈fp,H' b=none)/\W i m σ' H':=fun {σ7 H7} I7 n7=>by
   obtain⟨m',hm,w7⟩:=hN σ7 H7 n7
   refine⟨m',hm,i+1,σ7,H7,I7.unpinned,T.keep _ _ _ st5 fun b hb o e=>(I7.pin (b,o) (List.mem_append_right _ (List.mem_append_right _ (abP hb e)))).1,fun b hb=>?_,w7⟩
   obtain⟨o,e,d⟩:=T.obj _ _ st5 b hb
   exact (I7.pin (b,o) (List.mem_append_right _ (List.mem_append_right _ (abP hb e)))).2.1
  cases f with
  |next=>obtain⟨σ7,H7,I7,n7⟩:=q7;exact again I7 n7
  |cont=>obtain⟨σ7,H7,I7,n7⟩:=q7;exact again I7 n7
  |brk=>obtain⟨σ7,H7,I7,q7⟩:=q7;exact⟨σ7,H7,I7.unpinned,q7⟩
  |ret v=>obtain⟨x7,σ7,H7,I7,r7,q7⟩:=q7;exact⟨x7,σ7,H7,I7.unpinned,r7,q7⟩
end
theorem af2{K:PySem.W.Frag}{a:Addr}{xs:List V}{g:TG}{tb:TS}{D:Ends}{σ:St}{H:Hp}(Pv:Nat->St->Hp->Prop)(h0:Pv 0 σ H)(hl:∀i σ H,i<=xs.length->Pv i σ H->SqL K H a xs)
  (hs:∀i x σ H,xs[i]? =some x->Pv i σ H->g x σ H fun σ2 H2=>tb {D with nx:=Pv (i+1),ct:=Pv (i+1),bk:=D.nx} σ2 H2) (hd:∀σ H,Pv xs.length σ H->D.nx σ H):
  ∃W:Nat->Nat->St->Hp->Prop,(∃m,W 0 m σ H)/\∀i m σ H,W i m σ H->
   ((Itl K a).stop i H/\D.nx σ H)∨((Itl K a).go i H/\∃N:St->Hp->Prop,(∀σ' H',N σ' H'->∃m',m'<m/\W (i+1) m' σ' H')/\∀x H',(Itl K a).yld i H x H'->g x σ H' fun σ2 H2=>tb {D with nx:=N,ct:=N,bk:=D.nx} σ2 H2):=by
 refine⟨fun i m σ H=>m=xs.length-i/\i<=xs.length/\Pv i σ H,⟨xs.length,by simp,Nat.zero_le _,h0⟩,?_⟩
 rintro i m σ H ⟨rfl,hi,p⟩
 have q:=hl i σ H hi p
 by_cases hlt:i<xs.length
 ·refine .inr ⟨⟨xs,xs[i],q,by simp[hlt]⟩,Pv (i+1),fun σ' H' p'=>⟨xs.length-(i+1),by omega,rfl,hlt,p'⟩,fun x H' y=>?_⟩
  obtain⟨e,y⟩:=y
  subst e
  exact hs i x σ _ (y xs q) p
 ·have e:i=xs.length:=by omega
  subst e
  exact .inl ⟨⟨xs,q,Nat.le_refl _⟩,hd σ H p⟩
theorem aiH{lo:Int}{n:Nat}{g:TG}{tb:TS}{D:Ends}{σ:St}{H:Hp}(Pv:Nat->St->Hp->Prop)(h0:Pv 0 σ H)
  (hs:∀i σ H,i<n->Pv i σ H->g (.int (lo+i)) σ H fun σ2 H2=>tb {D with nx:=Pv (i+1),ct:=Pv (i+1),bk:=D.nx} σ2 H2) (hd:∀σ H,Pv n σ H->D.nx σ H):
  ∃W:Nat->Nat->St->Hp->Prop,(∃m,W 0 m σ H)/\∀i m σ H,W i m σ H->
   ((Itr lo n).stop i H/\D.nx σ H)∨((Itr lo n).go i H/\∃N:St->Hp->Prop,(∀σ' H',N σ' H'->∃m',m'<m/\W (i+1) m' σ' H')/\∀x H',(Itr lo n).yld i H x H'->g x σ H' fun σ2 H2=>tb {D with nx:=N,ct:=N,bk:=D.nx} σ2 H2):=by
 refine⟨fun i m σ H=>m=n-i/\i<=n/\Pv i σ H,⟨n,by simp,Nat.zero_le _,h0⟩,?_⟩
 rintro i m σ H ⟨rfl,hi,p⟩
 by_cases hlt:i<n
 ·refine .inr ⟨hlt,Pv (i+1),fun σ' H' p'=>⟨n-(i+1),by omega,rfl,hlt,p'⟩,fun x H' y=>?_⟩
  obtain⟨e,y⟩:=y
  subst e y
  exact hs i σ _ hlt p
 ·have e:i=n:=by omega
  subst e
  exact .inl ⟨Nat.le_refl _,hd σ H p⟩
abbrev R2:=V->V->Hp->VK->Prop
def OpR(X:Cx)(f:Value->Value->Sem Value)(r:R2):Prop:=
 ∀(pins:List (Addr×Obj)) (s:Shared) (σ:St) (H:Hp) (x y:V) (v u:Value) (Q:VK),Inv X pins σ H s->RelV x v->RelV y u->r x y H Q->
  wpAny (model X.prog X.w) X.A (f v u) (EP X pins σ Q) X.xe s
def UnR(X:Cx)(f:Value->Sem Value)(r:V->Hp->VK->Prop):Prop:=
 ∀(pins:List (Addr×Obj)) (s:Shared) (σ:St) (H:Hp) (x:V) (v:Value) (Q:VK),Inv X pins σ H s->RelV x v->r x H Q->
  wpAny (model X.prog X.w) X.A (f v) (EP X pins σ Q) X.xe s
def acF(X:Cx)(f:Value)(r:List V->Hp->VK->Prop):Prop:=
 ∀(pins:List (Addr×Obj)) (s:Shared) (σ:St) (H:Hp) (xs:List V) (us:List Value) (Q:VK),Inv X pins σ H s->Vals xs us->r xs H Q->
  wpAny (model X.prog X.w) X.A (call f us) (EP X pins σ Q) X.xe s
def tOp(r:R2)(ta tb:TE):TE:=fun σ H Q=>ta σ H fun x H1=>tb σ H1 fun y H2=>r x y H2 Q
def tUn(r:V->Hp->VK->Prop)(ta:TE):TE:=fun σ H Q=>ta σ H fun x H1=>r x H1 Q
def rI(C:Int->Int->Prop)(g:Int->Int->V):R2:=fun x y H Q=>∃i j,x=.int i/\y=.int j/\C i j/\Q (g i j) H
def rI0(g:Int->Int->V):R2:=fun x y H Q=>∃i j,x=.int i/\y=.int j/\Q (g i j) H
def rU(g:Int->V):V->Hp->VK->Prop:=fun x H Q=>∃i,x=.int i/\Q (g i) H
section
variable{X:Cx}{a b c:Expr}{ta tb tc:TE}{pos:Pos}
theorem anN(ha:PE X a ta)(hb:PE X b tb){pins:List (Addr×Obj)}{s:Shared}{σ:St}{H:Hp}{R:V->V->Hp->Prop}(I:Inv X pins σ H s)
  (h:ta σ H fun x H1=>tb σ H1 fun y H2=>R x y H2) {Q:Value->Shared->Prop} {f:Value->Value->Sem Value}
  (hf:∀v u s2 x y H2,Inv X pins σ H2 s2->RelV x v->RelV y u->R x y H2->wpAny (model X.prog X.w) X.A (f v u) Q X.xe s2):
  wpAny (model X.prog X.w) X.A (eval a X.env) (fun v s₁=>wpAny (model X.prog X.w) X.A (eval b X.env) (fun u s₂=>wpAny (model X.prog X.w) X.A (f v u) Q X.xe s₂) X.xe s₁) X.xe s:=by
 refine thn (ha pins s σ H _ I h) fun v s1 ⟨x,H1,I1,r1,q1⟩=>?_
 refine thn (hb pins s1 σ H1 _ I1 q1) fun u s2 ⟨y,H2,I2,r2,q2⟩=>?_
 exact hf v u s2 x y H2 I2 r1 r2 q2
theorem ao1{op:Operator}{r:R2}(ho:OpR X (binaryOp op) r)(ha:PE X a ta)(hb:PE X b tb):PE X (.BinOp a op b pos) (tOp r ta tb):=by
 intro pins s σ H Q I h
 exact wpAny_BinOp (anN ha hb I h fun v u s2 x y H2 I2 rx ry q=>ho pins s2 σ H2 x y v u Q I2 rx ry q)
theorem aqV{op:UnaryOp}{r:V->Hp->VK->Prop}(ho:UnR X (unaryOp op) r)(ha:PE X a ta):PE X (.UnaryOp op a pos) (tUn r ta):=by
 intro pins s σ H Q I h
 exact UnaryOp_ (thn (ha pins s σ H _ I h) fun v s1 ⟨x,H1,I1,r1,q1⟩=>ho pins s1 σ H1 x v Q I1 r1 q1)
theorem opI{f:Value->Value->Sem Value}{C:Int->Int->Prop}{g:Int->Int->Int}
  (rule:∀(i j:Int) (t u:Tok) (s:Shared) (Q:Value->Shared->Prop) (E:Value->Shared->Prop),C i j->Q (.int (g i j) s.toks) {s with toks:=s.toks+1}->wpAny (model X.prog X.w) X.A (f (.int i t) (.int j u)) Q E s):
  OpR X f (rI C fun i j=>.int (g i j)):=by
 intro pins s σ H x y v u Q I rx ry h
 obtain⟨i,j,rfl,rfl,hc,q⟩:=h
 obtain⟨t,rfl⟩:=rx
 obtain⟨t',rfl⟩:=ry
 exact rule i j t t' s _ _ hc ⟨.int (g i j),H,I.tok _,⟨_,rfl⟩,q⟩
theorem anC{f:Value->Value->Sem Value}{g:Int->Int->Int}
  (rule:∀(i j:Int) (t u:Tok) (s:Shared) (Q:Value->Shared->Prop) (E:Value->Shared->Prop),Q (.int (g i j) s.toks) {s with toks:=s.toks+1}->wpAny (model X.prog X.w) X.A (f (.int i t) (.int j u)) Q E s):
  OpR X f (rI0 fun i j=>.int (g i j)):=by
 intro pins s σ H x y v u Q I rx ry h
 obtain⟨i,j,rfl,rfl,q⟩:=h
 obtain⟨t,rfl⟩:=rx
 obtain⟨t',rfl⟩:=ry
 exact rule i j t t' s _ _ ⟨.int (g i j),H,I.tok _,⟨_,rfl⟩,q⟩
theorem am4{f:Value->Value->Sem Value}{g:Int->Int->Bool}
  (rule:∀(i j:Int) (t u:Tok) (s:Shared) (Q:Value->Shared->Prop) (E:Value->Shared->Prop),Q (.bool (g i j)) s->wpAny (model X.prog X.w) X.A (f (.int i t) (.int j u)) Q E s):
  OpR X f (rI0 fun i j=>.bl (g i j)):=by
 intro pins s σ H x y v u Q I rx ry h
 obtain⟨i,j,rfl,rfl,q⟩:=h
 obtain⟨t,rfl⟩:=rx
 obtain⟨t',rfl⟩:=ry
 exact rule i j t t' s _ _ ⟨.bl (g i j),H,I,rfl,q⟩
def apN(i j:Int):Prop:=0<j/\j<1073741824
def akU(i j:Int):Prop:=0<=j/\j<=1000000/\i.natAbs<2^64
def CMul(i j:Int):Prop:=(-(2^64)<i/\i<2^64)∨(-(2^64)<j/\j<2^64)
theorem CMul.ok{i j:Int}(h:CMul i j):IntMulOk i j:=by
 rcases h with ⟨h1,h2⟩ | ⟨h1,h2⟩
 ·exact .of_left (intBits_le_64 h1 h2)
 ·exact .of_right (intBits_le_64 h1 h2)
theorem amV:OpR X (binaryOp .Add) (rI0 fun i j=>.int (i+j)):=anC fun _ _ _ _ _ _ _ q=>add_int q
theorem amZ:OpR X (binaryOp .Sub) (rI0 fun i j=>.int (i-j)):=anC fun _ _ _ _ _ _ _ q=>sub_int q
theorem am5:OpR X (binaryOp .Mult) (rI CMul fun i j=>.int (i*j)):=opI fun _ _ _ _ _ _ _ hc q=>mul_int q hc.ok
theorem akX:OpR X (binaryOp .FloorDiv) (rI apN fun i j=>.int (i / j)):=opI fun i j _ _ _ _ _ hc q=>by
 have h1:(0:Int)<j:=hc.1
 have h2:j<1073741824:=hc.2
 exact floordiv_int (by omega) (by rw[Int.fdiv_eq_ediv_of_nonneg i (by omega)];exact q) (.inl (PyProof.noPylong_small (by omega)))
theorem amU:OpR X (binaryOp .Mod) (rI (fun _ j=>0<j) fun i j=>.int (i%j)):=opI fun i j _ _ _ _ _ hc q=>by
 have h1:(0:Int)<j:=hc
 exact mod_int' (by omega) (by rw[Int.fmod_eq_emod_of_nonneg i (by omega)];exact q)
theorem anK:OpR X (binaryOp .Pow) (rI akU fun i j=>.int (i^j.toNat)):=opI fun _ _ _ _ _ _ _ hc q=>pow_int_small hc.1 hc.2.1 hc.2.2 q
theorem am0:OpR X (binaryOp .LShift) (rI akU fun i j=>.int (i*2^j.toNat)):=opI fun _ _ _ _ _ _ _ hc q=>lshift_int_small hc.1 hc.2.1 hc.2.2 q
theorem aoV:OpR X (binaryOp .BitOr) (rI0 fun i j=>.int (Builtin.bitOr i j)):=anC fun _ _ _ _ _ _ _ q=>or_int q
theorem unI{f:Value->Sem Value}{g:Int->Int}
  (rule:∀(i:Int) (t:Tok) (s:Shared) (Q:Value->Shared->Prop) (E:Value->Shared->Prop),Q (.int (g i) s.toks) {s with toks:=s.toks+1}->wpAny (model X.prog X.w) X.A (f (.int i t)) Q E s):
  UnR X f (rU fun i=>.int (g i)):=by
 intro pins s σ H x v Q I rx h
 obtain⟨i,rfl,q⟩:=h
 obtain⟨t,rfl⟩:=rx
 exact rule i t s _ _ ⟨.int (g i),H,I.tok _,⟨_,rfl⟩,q⟩
theorem anP:UnR X (unaryOp .USub) (rU fun i=>.int (-i)):=unI fun _ _ _ _ _ q=>neg_int q
end
def aqR:V->V->Bool
 |.non,.non=>true | .non,.int _=>true | .int _,.non=>true | .non,.bl _=>true | .bl _,.non=>true | .non,.str _=>true | .str _,.non=>true
 |.int _,.int _=>true | .bl _,.bl _=>true | .str _,.str _=>true | .byt _,.byt _=>true
 |.int _,.str _=>true | .str _,.int _=>true | .bl _,.str _=>true | .str _,.bl _=>true
 |_,_=>false
def rEq:R2:=fun x y H Q=>aqR x y=true/\Q (.bl (decide (x=y))) H
def rNe:R2:=fun x y H Q=>aqR x y=true/\Q (.bl (!decide (x=y))) H
theorem ahK{i j:Int}:decide (V.int i=V.int j)=(i==j):=by
 rw[Bool.eq_iff_iff]
 simp
theorem ajT{i j:Bool}:decide (V.bl i=V.bl j)=(i==j):=by
 rw[Bool.eq_iff_iff]
 simp
theorem ahQ{i j:Str}:decide (V.str i=V.str j)=(i==j):=by
 rw[Bool.eq_iff_iff]
 simp
theorem ahH{i j:Array UInt8}:decide (V.byt i=V.byt j)=(i.toList==j.toList):=by
 rw[Bool.eq_iff_iff]
 cases i
 cases j
 simp
section
variable{X:Cx}{a b c:Expr}{ta tb tc:TE}{pos:Pos}
theorem aaL{pins:List (Addr×Obj)}{σ:St}{H:Hp}{s:Shared}{Q:VK}{k k':Bool}(I:Inv X pins σ H s)(q:Q (.bl k) H)(e:k=k'):EP X pins σ Q (.bool k') s:=by
 subst e
 exact⟨.bl k,H,I,rfl,q⟩
theorem aoW:OpR X (compareOp .Eq) rEq:=by
 intro pins s σ H x y v u Q I rx ry h
 obtain⟨hs,q⟩:=h
 cases x with
 |non=>
  cases rx
  cases y with
  |non=>cases ry;exact PySem.EqNone.eq_none_none (aaL I q (by simp))
  |bl j=>cases ry;exact PySem.EqNone.eq_none_bool (aaL I q (by simp))
  |int j=>obtain⟨t',rfl⟩:=ry;exact PySem.EqNone.eq_none_int (aaL I q (by simp))
  |str j=>obtain⟨t',rfl⟩:=ry;exact PySem.EqNone.eq_none_str (aaL I q (by simp))
  |_=>exact absurd (show false=true from hs) Bool.false_ne_true
 |bl i=>
  cases rx
  cases y with
  |non=>cases ry;exact PySem.EqNone.eq_bool_none (aaL I q (by simp))
  |bl j=>cases ry;exact eq_bool (aaL I q ajT)
  |str j=>obtain⟨t',rfl⟩:=ry;exact PySem.EqMixed.eq_bool_str (aaL I q (by simp))
  |_=>exact absurd (show false=true from hs) Bool.false_ne_true
 |int i=>
  obtain⟨t,rfl⟩:=rx
  cases y with
  |non=>cases ry;exact PySem.EqNone.eq_int_none (aaL I q (by simp))
  |int j=>obtain⟨t',rfl⟩:=ry;exact eq_int (aaL I q ahK)
  |str j=>obtain⟨t',rfl⟩:=ry;exact PySem.EqMixed.eq_int_str (aaL I q (by simp))
  |_=>exact absurd (show false=true from hs) Bool.false_ne_true
 |str i=>
  obtain⟨t,rfl⟩:=rx
  cases y with
  |non=>cases ry;exact PySem.EqNone.eq_str_none (aaL I q (by simp))
  |bl j=>cases ry;exact PySem.EqMixed.eq_str_bool (aaL I q (by simp))
  |int j=>obtain⟨t',rfl⟩:=ry;exact PySem.EqMixed.eq_str_int (aaL I q (by simp))
  |str j=>obtain⟨t',rfl⟩:=ry;exact eq_str (aaL I q ahQ)
  |_=>exact absurd (show false=true from hs) Bool.false_ne_true
 |byt i=>
  obtain⟨t,rfl⟩:=rx
  cases y with
  |byt j=>obtain⟨t',rfl⟩:=ry;exact PySem.W.eq_bytes (aaL I q ahH)
  |_=>exact absurd (show false=true from hs) Bool.false_ne_true
 |_=>cases y<;>exact absurd (show false=true from hs) Bool.false_ne_true
theorem apD:OpR X (compareOp .NotEq) rNe:=by
 intro pins s σ H x y v u Q I rx ry h
 obtain⟨hs,q⟩:=h
 cases x with
 |non=>
  cases rx
  cases y with
  |non=>cases ry;exact PySem.EqNone.ne_none_none (aaL I q (by simp))
  |bl j=>cases ry;exact PySem.EqNone.ne_none_bool (aaL I q (by simp))
  |int j=>obtain⟨t',rfl⟩:=ry;exact PySem.EqNone.ne_none_int (aaL I q (by simp))
  |str j=>obtain⟨t',rfl⟩:=ry;exact PySem.EqNone.ne_none_str (aaL I q (by simp))
  |_=>exact absurd (show false=true from hs) Bool.false_ne_true
 |bl i=>
  cases rx
  cases y with
  |non=>cases ry;exact PySem.EqNone.ne_bool_none (aaL I q (by simp))
  |bl j=>cases ry;exact ne_bool (aaL I q (congrArg not ajT))
  |str j=>obtain⟨t',rfl⟩:=ry;exact PySem.EqMixed.ne_bool_str (aaL I q (by simp))
  |_=>exact absurd (show false=true from hs) Bool.false_ne_true
 |int i=>
  obtain⟨t,rfl⟩:=rx
  cases y with
  |non=>cases ry;exact PySem.EqNone.ne_int_none (aaL I q (by simp))
  |int j=>obtain⟨t',rfl⟩:=ry;exact ne_int (aaL I q (congrArg not ahK))
  |str j=>obtain⟨t',rfl⟩:=ry;exact PySem.EqMixed.ne_int_str (aaL I q (by simp))
  |_=>exact absurd (show false=true from hs) Bool.false_ne_true
 |str i=>
  obtain⟨t,rfl⟩:=rx
  cases y with
  |non=>cases ry;exact PySem.EqNone.ne_str_none (aaL I q (by simp))
  |bl j=>cases ry;exact PySem.EqMixed.ne_str_bool (aaL I q (by simp))
  |int j=>obtain⟨t',rfl⟩:=ry;exact PySem.EqMixed.ne_str_int (aaL I q (by simp))
  |str j=>obtain⟨t',rfl⟩:=ry;exact ne_str (aaL I q (congrArg not ahQ))
  |_=>exact absurd (show false=true from hs) Bool.false_ne_true
 |byt i=>
  obtain⟨t,rfl⟩:=rx
  cases y with
  |byt j=>obtain⟨t',rfl⟩:=ry;exact PySem.W.ne_bytes (aaL I q (congrArg not ahH))
  |_=>exact absurd (show false=true from hs) Bool.false_ne_true
 |_=>cases y<;>exact absurd (show false=true from hs) Bool.false_ne_true
theorem arI:OpR X (compareOp .Lt) (rI0 fun i j=>.bl (decide (i<j))):=am4 fun _ _ _ _ _ _ _ q=>lt_int q
theorem apS:OpR X (compareOp .LtE) (rI0 fun i j=>.bl (decide (i<=j))):=am4 fun _ _ _ _ _ _ _ q=>le_int q
theorem an7:OpR X (compareOp .Gt) (rI0 fun i j=>.bl (decide (j<i))):=am4 fun _ _ _ _ _ _ _ q=>gt_int q
theorem aiJ:OpR X (compareOp .In) (fun x y H Q=>∃i j,x=.str i/\y=.str j/\Q (.bl (!(Builtin.Str.occurrences j i 0 j.length 1).isEmpty)) H):=by
 intro pins s σ H x y v u Q I rx ry h
 obtain⟨i,j,rfl,rfl,q⟩:=h
 obtain⟨t,rfl⟩:=rx
 obtain⟨t',rfl⟩:=ry
 exact in_str (aaL I q rfl)
theorem anD:OpR X (compareOp .Is) (fun x y H Q=>y=.non/\Q (.bl (decide (x=.non))) H):=by
 intro pins s σ H x y v u Q I rx ry h
 obtain⟨rfl,q⟩:=h
 cases ry
 refine is_none_gen (aaL I q ?_)
 cases x<;>first
  |(cases rx;rfl)
  |(obtain⟨t,rfl⟩:=rx;rfl)
theorem ai0(b:Expr){op:CmpOp}(h:op≠ .In:=by decide)(h2:op≠ .NotIn:=by decide):behindInMarks op b=false:=by
 have e1:(op==CmpOp.In)=false:=by cases op<;>first | rfl | exact absurd rfl h
 have e2:(op==CmpOp.NotIn)=false:=by cases op<;>first | rfl | exact absurd rfl h2
 cases b<;>simp[behindInMarks,e1,e2]
theorem akI{op:CmpOp}{r:R2}(ho:OpR X (compareOp op) r)(ha:PE X a ta)(hb:PE X b tb)(hm:behindInMarks op b=false):PE X (.Compare a [op] [b] pos) (tOp r ta tb):=by
 intro pins s σ H Q I h
 exact wpAny_Compare1 (anN ha hb I h fun v u s2 x y H2 I2 rx ry q=>ho pins s2 σ H2 x y v u Q I2 rx ry q) hm
def ahM(t:TE):TT:=fun σ H Q=>t σ H fun x H'=>∃k,x=.bl k/\Q k H'
theorem ak7{op:CmpOp}{r:R2}(ho:OpR X (compareOp op) r)(ha:PE X a ta)(hb:PE X b tb)(hm:behindInMarks op b=false):PT X (.Compare a [op] [b] pos) (ahM (tOp r ta tb)):=by
 intro pins s σ H Q I h
 refine wpAny_isTrue_Compare1 (thn (ha pins s σ H _ I h) fun v s1 ⟨x,H1,I1,r1,q1⟩=>thn (hb pins s1 σ H1 _ I1 q1) fun u s2 ⟨y,H2,I2,r2,q2⟩=>
  thn (ho pins s2 σ H2 x y v u _ I2 r1 r2 q2) fun c s3 ⟨z,H3,I3,r3,k,e,q3⟩=>?_) hm
 subst e
 cases r3
 exact wpAny_truthy_bool ⟨H3,I3,q3⟩
def ajO(r r':R2)(ta tb tc:TE):TE:=fun σ H Q=>ta σ H fun x H1=>tb σ H1 fun y H2=>r x y H2 fun z H3=>∃k,z=.bl k/\
 (if k=true then tc σ H3 fun w' H4=>r' y w' H4 Q else Q (.bl false) H3)
theorem ajD{op op':CmpOp}{r r':R2}(ho:OpR X (compareOp op) r)(ho':OpR X (compareOp op') r')(ha:PE X a ta)(hb:PE X b tb)(hc:PE X c tc)
  (hm:lastMarks [op,op'] [b,c]=false:=by with_unfolding_all rfl):PT X (.Compare a [op,op'] [b,c] pos) (ahM (ajO r r' ta tb tc)):=by
 intro pins s σ H Q I h
 refine isTrue_chain (thn (ha pins s σ H _ I h) fun v s1 ⟨x,H1,I1,r1,q1⟩=>test_link (thn (hb pins s1 σ H1 _ I1 q1) fun u s2 ⟨y,H2,I2,r2,q2⟩=>
  thn (ho pins s2 σ H2 x y v u _ I2 r1 r2 q2) fun d s3 ⟨z,H3,I3,r3,k,e,q3⟩=>?_)) hm
 subst e
 cases r3
 refine wpAny_truthy_bool ?_
 cases k with
 |false=>
  obtain⟨k',e',q'⟩:=q3
  cases e'
  exact ite_ff ⟨H3,I3,q'⟩
 |true=>
  refine ite_tt (test_last (thn (hc pins s3 σ H3 _ I3 q3) fun w' s4 ⟨z',H4,I4,r4,q4⟩=>thn (ho' pins s4 σ H4 y z' u w' _ I4 r2 r4 q4) fun d' s5 ⟨z2,H5,I5,r5,k2,e2,q5⟩=>?_))
  subst e2
  cases r5
  exact wpAny_truthy_bool ⟨H5,I5,q5⟩
theorem ac1:(sizeLine:Nat)<2^63:=by rw[sizeLine_eq];decide
theorem ag1:OpR X (binaryOp .Add) (fun x y H Q=>∃i j,x=.str i/\y=.str j/\i.length+j.length<=sizeLine/\Q (.str (i++j)) H):=by
 intro pins s σ H x y v u Q I rx ry h
 obtain⟨i,j,rfl,rfl,hz,q⟩:=h
 obtain⟨t,rfl⟩:=rx
 obtain⟨t',rfl⟩:=ry
 exact add_str (fun t' tk=>⟨.str (i++j),H,I.tok _,⟨_,rfl⟩,q⟩) hz
theorem abX{x:V}{us:List Value}(r:Vals [x] us):∃u,us=[u]/\RelV x u:=by
 cases r with
 |cons r1 r2=>cases r2;exact⟨_,rfl,r1⟩
theorem aeZ{x y:V}{us:List Value}(r:Vals [x,y] us):∃u w',us=[u,w']/\RelV x u/\RelV y w':=by
 cases r with
 |cons r1 r2=>
  cases r2 with
  |cons r3 r4=>cases r4;exact⟨_,_,rfl,r1,r3⟩
theorem ai5:acF X (.builtin "abs") (fun xs H Q=>∃i,xs=[.int i]/\Q (.int (if i<0 then -i else i)) H):=by
 intro pins s σ H xs us Q I r h
 obtain⟨i,rfl,q⟩:=h
 obtain⟨u,rfl,t,rfl⟩:=abX r
 exact call_abs_int fun u tk=>⟨.int (if i<0 then -i else i),H,I.tok _,⟨_,rfl⟩,q⟩
theorem aiI(hc:X.calm=true):acF X (.builtin "max") (fun xs H Q=>∃i j,xs=[.int i,.int j]/\Q (.int (if j>i then j else i)) H):=by
 intro pins s σ H xs us Q I r h
 obtain⟨i,j,rfl,q⟩:=h
 obtain⟨u,w',rfl,⟨t,rfl⟩,⟨t',rfl⟩⟩:=aeZ r
 refine max_two_ints (I.ok.hd hc) fun h' tk k=>⟨_,H,I.kept k,?_,q⟩
 by_cases hj:j>i
 ·rw[if_pos hj,if_pos hj];exact⟨_,rfl⟩
 ·rw[if_neg hj,if_neg hj];exact⟨_,rfl⟩
theorem ah9(hc:X.calm=true):acF X (.builtin "min") (fun xs H Q=>∃i j,xs=[.int i,.int j]/\Q (.int (if j<i then j else i)) H):=by
 intro pins s σ H xs us Q I r h
 obtain⟨i,j,rfl,q⟩:=h
 obtain⟨u,w',rfl,⟨t,rfl⟩,⟨t',rfl⟩⟩:=aeZ r
 refine min_two_ints (I.ok.hd hc) fun h' tk k=>⟨_,H,I.kept k,?_,q⟩
 by_cases hj:j<i
 ·rw[if_pos hj,if_pos hj];exact⟨_,rfl⟩
 ·rw[if_neg hj,if_neg hj];exact⟨_,rfl⟩
theorem ac0:acF X (.type "str") (fun xs H Q=>∃i,xs=[.int i]/\i.natAbs.log2<1920/\Q (.str (toString i)) H):=by
 intro pins s σ H xs us Q I r h
 obtain⟨i,rfl,hz,q⟩:=h
 obtain⟨u,rfl,t,rfl⟩:=abX r
 exact PySem.P.str_of_int hz ⟨.str _,H,I.tok _,⟨_,rfl⟩,q⟩
end
theorem aiD{h:Heap}{dx:Addr}{mA:Str->Option Value}(n:h.Ns1 dx mA):∃od,h.get? dx=some od/\∀name,PySem.W.lookIn name od=some (mA name):=by
 obtain⟨o,es,ep,ho,hd,hk,_,hm⟩:=n
 refine⟨o,ho,fun name=>?_⟩
 have e:=hm name
 unfold nsFind findBy at e
 rw[←Array.find?_toList] at e
 unfold PySem.W.lookIn
 rw[hd]
 dsimp only
 split
 ·rename_i y q
  rw[q] at e
  exact congrArg some e
 ·rename_i q
  rw[q] at e
  have a:es.toList.any (·.refKey)=false:=by
   rw[List.any_eq_false]
   intro y hy
   obtain⟨z,t,hkey⟩:=hk y (Array.mem_toList_iff.mp hy)
   simp[DictEntry.refKey,hkey]
  have a':¬es.toList.any (·.refKey)=true:=by rw[a];exact Bool.false_ne_true
  rw[if_neg a']
  exact congrArg some e
section
variable{prog:Program}{w:World}{A:Around}{E:Value->Shared->Prop}{s:Shared}{K:PySem.W.Frag}{x dx C f:Addr}{mA:Str->Option Value}{name:Str}{v:Value}
end
def amD(f:Str)(v:V):List (Str×V)->List (Str×V)
 |[]=>[(f,v)]
 |(g,x)::r=>if g=f then (g,v)::r else (g,x)::amD f v r
theorem aiB{v:V}{u:Value}(r:RelV v u):PySem.W.handedIn u=true:=by
 cases v with
 |non=>cases (show u=Value.none from r);rfl
 |bl b=>cases (show u=Value.bool b from r);rfl
 |int i=>obtain⟨t,e⟩:=(show ∃t,u=Value.int i t from r);cases e;rfl
 |str x=>obtain⟨t,e⟩:=(show ∃t,u=Value.str x t from r);cases e;rfl
 |byt b=>obtain⟨t,e⟩:=(show ∃t,u=Value.bytes b t from r);cases e;rfl
 |flt b=>obtain⟨t,e⟩:=(show ∃t,u=Value.float b t from r);cases e;rfl
 |ref a=>cases (show u=Value.ref a from r);rfl
 |ty n=>cases (show u=Value.type n from r);rfl
section
variable{P:Program}{w:World}{H H':Hp}{h h':Heap}{a C dx:Addr}{fs fs':List (Str×V)}
end
structure Meth(K:PySem.W.Frag)(C:Addr)(m:Str)(f:Addr):Prop where
 at_:PySem.W.findIn K (.ref C) m=some (some (.ref f))
 fn:PySem.W.isFn K (.ref f)=true
 kp:PySem.W.keepIn K (.ref f)=true
section
variable{X:Cx}{pins:List (Addr×Obj)}{σ:St}{H:Hp}{s:Shared}{a C dx:Addr}{fs:List (Str×V)}{f:Str}{v:V}{A:Around}{E:Value->Shared->Prop}
theorem alI{prog:Program}{w:World}{env:Env}{e:Expr}{f:Str}{pos:Pos}{s:Shared}{Q:Value->Shared->Prop}(hb:attributeBase e f env (eval e env)=eval e env)
  (h:wpAny (model prog w) A (eval e env) (fun o s₁=>wpAny (model prog w) A (getAttr o f true) Q E s₁) E s):wpAny (model prog w) A (eval (.Attribute e f pos) env) Q E s:=
 Attribute_any_ h (by rw[arm_eval_Attribute,hb])
end
section
variable{X:Cx}{o e value:Expr}{f:Str}{pos pos' tpos:Pos}{ta tv:TE}
end
section
variable{X:Cx}{pins:List (Addr×Obj)}{σ:St}{H:Hp}{s:Shared}{A:Around}{E:Value->Shared->Prop}{Q:Value->Shared->Prop}{c:Value}{b:Bool}
end
structure Room(k:Nat)(A:Around):Prop where
 hd:A.handled=none
 dp:A.depth+3*k+5<recursionLimit
 un:A.units+16*k+200<cLine
theorem Room.mono{j k:Nat}{A:Around}(r:Room k A)(h:j<=k):Room j A:=⟨r.hd,by have:=r.dp;omega,by have:=r.un;omega⟩
theorem Room.deeper{k:Nat}{A:Around}(r:Room (k+1) A)(env:Env):Room k (A.deeper env):=
 ⟨r.hd,by have:=r.dp;show A.depth+1+3*k+5<_;omega,by have:=r.un;show A.units+3+16*k+200<_;omega⟩
theorem agS{A:Around}{C:Addr}{us:List Value}{kw:List (Str×Value)}:(A.under (.builtin "type.__call__" ⟨.ref C::us,kw⟩)).depth=A.depth+1:=by
 first | rfl | simp[Around.under,Code.weight,Code.isCreation,Code.isGuard,Code.isCaller,Code.frames,Code.isFrame,guardIds]
theorem ag0{A:Around}{C:Addr}{us:List Value}{kw:List (Str×Value)}:(A.under (.builtin "type.__call__" ⟨.ref C::us,kw⟩)).units=A.units+1:=by
 first | rfl | simp[Around.under,Code.cUnits,Code.frames,Code.isFrame]
theorem Room.make{k:Nat}{A:Around}(r:Room (k+1) A)(C:Addr)(us:List Value)(kw:List (Str×Value)):Room k (A.under (.builtin "type.__call__" ⟨.ref C::us,kw⟩)):=
 ⟨r.hd,by have:=r.dp;rw[agS];omega,by have:=r.un;rw[ag0];omega⟩
theorem Room.depth{k:Nat}{A:Around}(r:Room k A):A.depth<recursionLimit:=by have:=r.dp;omega
def aiC:TA:=fun _ H Q=>Q [] H
def aeQ(ta:TE)(tr:TA):TA:=fun σ H Q=>ta σ H fun x H1=>tr σ H1 fun xs H2=>Q (x::xs) H2
section
variable{X:Cx}{e:Expr}{es:List Expr}{te:TE}{t:TA}{pos:Pos}
theorem ac6:PA X [] aiC:=fun _ _ _ _ H Q I h=>Calls.spliced_nil ⟨[],H,I,.nil,h⟩
theorem ab8(ha:PE X e te)(hr:PA X es t)(hs:starEach (e::es) X.env=(false,eval e X.env)::starEach es X.env:=by rfl):PA X (e::es) (aeQ te t):=by
 intro pos pins s σ H Q I h
 rw[hs]
 show wpAny _ _ (spliced ((false,eval e X.env)::backTo pos (starEach es X.env))) _ _ s
 refine Calls.spliced_cons (thn (ha pins s σ H _ I h) fun u s1 ⟨x,H1,I1,r1,q1⟩=>?_)
 exact thn (hr pos pins s1 σ H1 _ I1 q1) fun us s2 ⟨xs,H2,I2,r2,q2⟩=>⟨x::xs,H2,I2,.cons r1 r2,q2⟩
def aq1(t:TA):TE:=fun σ H Q=>t σ H fun xs H1=>xs.length<=sizeLine/\∀p,H1 p=none->Q (.ref p) (upd H1 p (.tup xs))
def aoM(t:TA):TE:=fun σ H Q=>t σ H fun xs H1=>xs.length<=sizeLine/\∀p,H1 p=none->Q (.ref p) (upd H1 p (.lst xs))
theorem amK{x1}(h:PA X es t):PE X (.Tuple es x1 pos) (aq1 t):=by
 intro pins s σ H Q I hq
 refine wpAny_Tuple_spliced (thn (h pos pins s σ H _ I hq) fun us s1 ⟨xs,H1,I1,r,z,q⟩=>⟨by rw[←r.length];exact z,?_⟩)
 have hf:H1 s1.heap.objs.size=none:=I1.hok.fresh (Nat.le_refl _)
 refine⟨.ref s1.heap.objs.size,upd H1 s1.heap.objs.size (.tup xs),I1.laid (t':=s1.toks) (fun b u e=>Heap.get?_push_of_some _ e) (Nat.le_refl _) ?_,rfl,q _ hf⟩
 exact⟨z,us,r,⟨_,Heap.get?_push_size _ rfl,rfl,_,rfl⟩⟩
theorem am9(h:PA X es t):PE X (.List es pos) (aoM t):=by
 intro pins s σ H Q I hq
 refine wpAny_List_spliced (thn (h pos pins s σ H _ I hq) fun us s1 ⟨xs,H1,I1,r,z,q⟩=>⟨by rw[←r.length];exact z,?_⟩)
 have hf:H1 s1.heap.objs.size=none:=I1.hok.fresh (Nat.le_refl _)
 refine⟨.ref s1.heap.objs.size,upd H1 s1.heap.objs.size (.lst xs),I1.laid (t':=s1.toks) (fun b u e=>Heap.get?_push_of_some _ e) (Nat.le_refl _) ?_,rfl,q _ hf⟩
 exact⟨z,us,0,r,Heap.get?_push_size _ rfl⟩
end
abbrev Sp:=List V->Hp->VK->XK->Prop
abbrev CXT:=List Env->Hp->Shared->XK->Value->Shared->Prop
structure Env0(P:Program)(w:World)(K:PySem.W.Frag)(mg:Str->Option Value)(base:Heap)(A:Around)(outer:List Env)(s:Shared)(H:Hp):Prop where
 frames:A.frames=some outer
 mod:Mod K mg base
 bs:∀b o,base.get? b=some o->s.heap.get? b=some o/\H b=none
 bsz:base.objs.size<=s.heap.objs.size
 funs:s.heap.FunFrames base outer
 frf:∀b∈frs outer,H b=none
 hok:HOk P w H s.heap
 bare:AllBare s.gens
def CE(outer:List Env)(P:Program)(w:World)(H:Hp)(s:Shared)(Q:VK)(u:Value)(s':Shared):Prop:=
 ∃v H',s'.os=s.os/\AllBare s'.gens/\Un (frs outer) [] H H' s.heap s'.heap/\HOk P w H' s'.heap/\RelV v u/\Q v H'
def CR(CX:CXT)(outer:List Env)(P:Program)(w:World)(H:Hp)(s:Shared)(Q:VK)(E:XK)(r:Result)(s':Shared):Prop:=
 match r with
 |.ok (.ret u)=>CE outer P w H s Q u s'
 |.ok _=>False
 |.error e=>CX outer H s E e s'
structure FnOk(P:Program)(w:World)(K:PySem.W.Frag)(mg:Str->Option Value)(base:Heap)(CX:CXT)(k:Nat)(f:Addr)(fd:FuncData)(ps:List Str)(sp:Sp):Prop where
 len:∀vs H Q E,sp vs H Q E->vs.length=ps.length
 run:∀(A:Around) (outer:List Env) (s:Shared) (H:Hp) (args:Args) (us:List Value) (vs:List V) (Q:VK) (E:XK),Room k A->Env0 P w K mg base A outer s H->BindsTo s fd args (ps.zip us)->Vals vs us->sp vs H Q E->
  codeAny (model P w) A (.call (.ref f) args) (CR CX outer P w H s Q E) s
theorem Env0.make{P:Program}{w:World}{K:PySem.W.Frag}{mg:Str->Option Value}{base:Heap}{A:Around}{outer:List Env}{s:Shared}{H:Hp}(e:Env0 P w K mg base A outer s H)(C:Addr)(us:List Value)(kw:List (Str×Value)):
  Env0 P w K mg base (A.under (.builtin "type.__call__" ⟨.ref C::us,kw⟩)) outer s H:=⟨by first | exact e.frames | (simpa [Around.under,Code.envs,Code.isFrame,pushEnvs] using e.frames),e.mod,e.bs,e.bsz,e.funs,e.frf,e.hok,e.bare⟩
section
variable{X:Cx}{pins:List (Addr×Obj)}{σ:St}{H:Hp}{s s':Shared}
theorem Inv.env0(I:Inv X pins σ H s):Env0 X.prog X.w X.K X.mg X.base X.A X.stack s H:=
 ⟨I.ok.frames,I.ok.mod,I.bs,Nat.le_trans I.ok.bsz I.sz,I.stack,I.stkFree,I.hok,I.bare⟩
theorem Inv.after{Q:VK}{u:Value}(I:Inv X pins σ H s)(h:CE X.stack X.prog X.w H s Q u s'):EP X pins σ Q u s':=by
 obtain⟨v,H',os,bare,un,hok,r,q⟩:=h
 obtain⟨hh,g,d,t,os'⟩:=s'
 obtain rfl:os'=s.os:=os
 exact⟨v,H',I.call (h':=hh) (g':=g) (d':=d) (t':=t) (ch:=[]) un hok bare (fun b z=>absurd z (by simp)),r,q⟩
end
def agA(sp:Sp)(dvs:List V)(E:XK)(t:TA):TE:=fun σ H Q=>t σ H fun vs H1=>sp (vs++dvs) H1 Q E
def Binds(K:PySem.W.Frag)(fd:FuncData)(ps:List Str)(ds:List Value):Prop:=
 ∀(s:Shared) (us:List Value),K.In s.heap->(us++ds).length=ps.length->BindsTo s fd ⟨us,[]⟩ (ps.zip (us++ds))
theorem Binds.all{K:PySem.W.Frag}{fd:FuncData}{ps:List Str}(h:∀us:List Value,us.length=ps.length->bindArgs fd ⟨us,[]⟩=pure (ps.zip us)):Binds K fd ps []:=fun s us _ hl=>by
 rw[List.append_nil] at hl ⊢
 exact .of_eq (h us hl)
def aeE(CX:CXT)(X:Cx)(E:XK):Prop:=∀(pins:List (Addr×Obj)) (σ:St) (H:Hp) (s:Shared) (e:Value) (s':Shared),Inv X pins σ H s->CX X.stack H s E e s'->X.xe e s'
section
variable{X:Cx}{CX:CXT}{k:Nat}{f C:Addr}{fd:FuncData}{ps:List Str}{sp:Sp}{dvs:List V}{ds:List Value}{E:XK}{x m:Str}{p pos apos:Pos}{e o:Expr}{es:List Expr}{ta:TE}{t:TA}
theorem anJ{pins:List (Addr×Obj)}{σ:St}{H:Hp}{s:Shared}{Q:VK}{us:List Value}{vs:List V}(F:FnOk X.prog X.w X.K X.mg X.base CX k f fd ps sp)(hr:Room k X.A)(hb:Binds X.K fd ps ds)(hd:Vals dvs ds)(hx:aeE CX X E)
  (I:Inv X pins σ H s) (r:Vals vs us) (h:sp (vs++dvs) H Q E):wpAny (model X.prog X.w) X.A (call (.ref f) us) (EP X pins σ Q) X.xe s:=by
 have r2:Vals (vs++dvs) (us++ds):=r.append hd
 have hl:(us++ds).length=ps.length:=by rw[←r2.length];exact F.len _ _ _ _ h
 refine wpAny_call (codeAny_mono (F.run X.A X.stack s H ⟨us,[]⟩ (us++ds) (vs++dvs) Q E hr I.env0 (hb s us I.kIn hl) r2 h) fun r s' hq=>?_)
 cases r with
 |error e=>exact hx pins σ H s e s' I hq
 |ok fl=>
  cases fl with
  |ret u=>exact I.after hq
  |next=>exact False.elim hq
  |brk=>exact False.elim hq
  |cont=>exact False.elim hq
theorem ahU(F:FnOk X.prog X.w X.K X.mg X.base CX k f fd ps sp)(hr:Room k X.A)(hg:Gl X x)(hm:X.mg x=some (.ref f))(hk:PySem.W.keepIn X.K (.ref f)=true)(hb:Binds X.K fd ps ds)(hd:Vals dvs ds)(hx:aeE CX X E)
  (ha:PA X (e::es) t) (hdb:(x==("__debug__":Str))=false:=by decide) (he:starEach (e::es) X.env=(false,eval e X.env)::starEach es X.env:=by rfl) (hpl:(backTo pos (starEach es X.env)).any (·.1)=false:=by rfl):
  PE X (.Call (.Name x p) (e::es) [] pos) (agA sp dvs E t):=by
 intro pins s σ H Q I h
 refine wpAny_Call_Name_kw (ab7 I hg hm ?_ hdb)
 refine PySem.W.callWith_K (h₀:=X.base) I.ok.mod.kin hk (thn (ha pos pins s σ H _ I h) fun us s1 ⟨vs,H1,I1,r,q⟩=>⟨I1.kIn,?_⟩) he hpl
 exact anJ F hr hb hd hx I1 r q
structure Mk(K:PySem.W.Frag)(C f:Addr):Prop where
 makes:PySem.W.makesIn K C=true
 init:PySem.W.findIn K (.ref C) "__init__"=some (some (.ref f))
 fn:PySem.W.isFn K (.ref f)=true
 kp:PySem.W.keepIn K (.ref C)=true
end
section
variable{X:Cx}{CX:CXT}{k:Nat}{f C:Addr}{fd:FuncData}{ps ks:List Str}{sp:Sp}{E:XK}{x m:Str}{p pos apos kpos:Pos}{e o:Expr}{es:List Expr}{kws:List Keyword}{te ta:TE}{t tk:TA}{nm:Option Str}
variable{g:List Value->List Value->List Value}{gV:List V->List V->List V}
end
structure FnScope(N P:List Str)(sc:Scope):Prop where
 kind:sc.kind=.function
 co:sc.isCoroutine=false
 gen:sc.isGenerator=false
 nd:N.Nodup
 pre:N.take P.length=P
 par:∀x∈P,sc.names.lookup x=some .local∨sc.names.lookup x=some .cell
 nofree:∀y∈sc.names,y.2≠ .free
theorem ae0{kindOf:Str->Option NameKind}{x:Str}:∀{binds:List (Str×Value)} {m:Str->Option Value},(∀v,(x,v)∉binds)->bindL kindOf binds m x=m x
 |[],_,_=>rfl
 |(n,v)::r,m,h=>by
  unfold bindL
  rw[ae0 fun w hw=>h w (List.mem_cons_of_mem _ hw)]
  split
  ·have:x≠n:=by rintro rfl;exact h v List.mem_cons_self
   simp[this]
  ·rfl
theorem ae2{kindOf:Str->Option NameKind}{x:Str}:∀{binds:List (Str×Value)} {m:Str->Option Value},(∀v,(x,v)∉binds)->bindC kindOf binds m x=m x
 |[],_,_=>rfl
 |(n,v)::r,m,h=>by
  unfold bindC
  rw[ae2 fun w hw=>h w (List.mem_cons_of_mem _ hw)]
  split
  ·rfl
  ·have:x≠n:=by rintro rfl;exact h v List.mem_cons_self
   simp[this]
theorem aeS{kindOf:Str->Option NameKind}{x:Str}{v:Value}:∀{P:List Str} {vs:List Value} {i:Nat} {m:Str->Option Value},P.Nodup->P[i]? =some x->vs[i]? =some v->kindOf x=some .local->
  bindL kindOf (P.zip vs) m x=some v
 |[],_,_,_,_,h,_,_=>by simp at h
 |_::_,[],_,_,_,_,h,_=>by simp at h
 |p::P,w::vs,0,m,nd,h1,h2,hk=>by
  simp at h1 h2;subst h1;subst h2
  show bindL kindOf ((p,w)::P.zip vs) m p=_
  unfold bindL
  rw[ae0 fun v hv=>(List.nodup_cons.mp nd).1 (List.of_mem_zip hv).1,if_pos hk]
  simp
 |p::P,w::vs,i+1,m,nd,h1,h2,hk=>by
  show bindL kindOf ((p,w)::P.zip vs) m x=_
  unfold bindL
  exact aeS (i:=i) (List.nodup_cons.mp nd).2 (by simpa using h1) (by simpa using h2) hk
theorem aeP{kindOf:Str->Option NameKind}{x:Str}{v:Value}:∀{P:List Str} {vs:List Value} {i:Nat} {m:Str->Option Value},P.Nodup->P[i]? =some x->vs[i]? =some v->kindOf x≠some .local->
  bindC kindOf (P.zip vs) m x=some v
 |[],_,_,_,_,h,_,_=>by simp at h
 |_::_,[],_,_,_,_,h,_=>by simp at h
 |p::P,w::vs,0,m,nd,h1,h2,hk=>by
  simp at h1 h2;subst h1;subst h2
  show bindC kindOf ((p,w)::P.zip vs) m p=_
  unfold bindC
  rw[ae2 fun v hv=>(List.nodup_cons.mp nd).1 (List.of_mem_zip hv).1,if_neg hk]
  simp
 |p::P,w::vs,i+1,m,nd,h1,h2,hk=>by
  show bindC kindOf ((p,w)::P.zip vs) m x=_
  unfold bindC
  exact aeP (i:=i) (List.nodup_cons.mp nd).2 (by simpa using h1) (by simpa using h2) hk
def abC(N:List Str)(vs:List V):St:=vs.map some++List.replicate (N.length-vs.length) none
def abT(CX:CXT)(P:Program)(w:World)(K:PySem.W.Frag)(mg:Str->Option Value)(base:Heap)(N:List Str)(qual:Str)(scope:Scope)(f:Addr)(cd:Value)(A:Around)(outer:List Env)(s:Shared)(H:Hp)(E:XK):Cx where
 prog:=P
 w:=w
 K:=K
 mg:=mg
 base:=base
 A:=A.deeper (envOfC qual scope s.heap.objs.size f cd)
 N:=N
 s₀:=s
 H₀:=H
 env:=envOfC qual scope s.heap.objs.size f cd
 outer:=outer
 stack:=envOfC qual scope s.heap.objs.size f cd::outer
 ex:=[]
 calm:=true
 fn:=fun _=>true
 pn:=[]
 xe:=fun e s'=>wpAny (model P w) (A.deeper (envOfC qual scope s.heap.objs.size f cd)) (leaving (envOfC qual scope s.heap.objs.size f cd) e) (fun _ s''=>CX outer H s E e s'') (fun e' s''=>CX outer H s E e' s'') s'
theorem agJ{sc:Scope}{n:Nat}{x:Str}(h:sc.names.lookup x=some .cell):∃c,(cellsFrom n sc.names []).lookup x=some c:=by
 have q:=PySem.W.cellsFrom_some sc.names n [] (.inl h)
 exact Option.isSome_iff_exists.mp q
theorem aeW{CX:CXT}{P:Program}{w:World}{K:PySem.W.Frag}{mg:Str->Option Value}{base:Heap}{N ps:List Str}{qual:Str}{scope:Scope}{f:Addr}{cd:Value}{A:Around}{outer:List Env}{s s1:Shared}{H:Hp}{E:XK}{us:List Value}{vs:List V}
  (S:FnScope N ps scope) (hd:A.handled=none) (e0:Env0 P w K mg base A outer s H) (hl:vs.length=ps.length) (r:Vals vs us)
  (x:InCallC s s.heap.objs.size (bindL (envOfC qual scope s.heap.objs.size f cd).kindOf (ps.zip us) fun _=>none) (cellsFrom (s.heap.objs.size+1) scope.names []) (bindC (envOfC qual scope s.heap.objs.size f cd).kindOf (ps.zip us) fun _=>none) s1):
  Inv (abT CX P w K mg base N qual scope f cd A outer s H E) [] (abC N vs) H s1:=by
 have hpl:ps.length<=N.length:=by have:=congrArg List.length S.pre;rw[List.length_take] at this;omega
 obtain⟨h1,tk,rfl,hk⟩:=x.done
 have noA:∀b:Addr,b∉(abT CX P w K mg base N qual scope f cd A outer s H E).ex:=fun b z=>absurd (show b∈([]:List Addr) from z) (by simp)
 refine⟨⟨e0.mod,S.kind,rfl,rfl,Nat.le_refl _,fun y z c h1 h2=>?_,fun y hy=>?_,fun y c _ h=>?_,fun _=>hd,Around.frames_deeper e0.frames,.inr ⟨rfl,rfl⟩,fun b z=>absurd z (noA b),e0.bs,e0.bsz,fun b _ _=>noA b,fun b z=>absurd z (noA b),e0.funs,e0.frf⟩,
  rfl,e0.bare,Un.kept hk,⟨_,x.toInCall.ns,fun i y v h1 h2 h3=>?_⟩,fun y c h=>⟨_,x.cell y c h⟩,e0.hok.fresh (Nat.le_refl _),fun y c h=>?_,fun p hp=>absurd (show p∈([]:List (Addr×Obj)) from hp) (by simp),e0.hok.kept hk,?_⟩
 ·exact name_of_addr x.apart (PySem.mem_of_lookup h1) (PySem.mem_of_lookup h2)
 ·have hy:scope.names.lookup y=some .cell∨scope.names.lookup y=some .free:=hy
  rcases hy with hy | hy
  ·exact agJ hy
  ·exact absurd rfl (S.nofree _ (PySem.mem_of_lookup hy))
 ·exact Nat.le_of_lt (x.above y c (PySem.mem_of_lookup h))
 ·have hi:i<vs.length:=by
   unfold abC at h2
   by_cases hi:i<vs.length
   ·exact hi
   ·rw[List.getElem?_append_right (by simpa using hi)] at h2
    rw[List.getElem?_replicate] at h2
    split at h2<;>cases h2
  have ha:vs[i]? =some v:=by
   unfold abC at h2
   rw[List.getElem?_append_left (by simpa using hi),List.getElem?_map] at h2
   cases e:vs[i]? with
   |none=>rw[e] at h2;cases h2
   |some a=>rw[e] at h2;cases h2;rfl
  obtain⟨u,hu,rv⟩:=r.get ha
  have hp:ps[i]? =some y:=by
   rw[←S.pre,List.getElem?_take_of_lt (by omega)];exact h1
  have ndP:ps.Nodup:=by rw[←S.pre];exact S.nd.sublist (List.take_sublist _ _)
  refine⟨u,rv,?_⟩
  rcases S.par y (List.mem_of_getElem? hp) with k | k
  ·exact .inl ⟨k,aeS ndP hp hu k⟩
  ·obtain⟨c,e⟩:=agJ (n:=s.heap.objs.size+1) k
   refine .inr ⟨.inl k,c,e,?_⟩
   have q:=x.cell y c e
   rw[aeP ndP hp hu (by show scope.names.lookup y≠_;rw[k];decide)] at q
   exact q
 ·exact e0.hok.fresh (Nat.le_of_lt (x.above y c (PySem.mem_of_lookup h)))
 ·unfold abC
  show _=N.length
  rw[List.length_append,List.length_map,List.length_replicate]
  omega
theorem al1{CX:CXT}{P:Program}{w:World}{K:PySem.W.Frag}{mg:Str->Option Value}{base:Heap}{k:Nat}{f:Addr}{name qual:Str}{params:Arguments}{body:List Stmt}{scope:Scope}{dV kV doc pm cdv ct oc:Value}{an od:Option Addr}
  {osl:Array (Option Value)} {N ps:List Str} {sp:Sp} (lk:K.lookup f=some ⟨oc,od,.func (PySem.W.fnOf name qual params body scope dV kV doc pm an cdv ct),osl⟩) (hcd:PySem.W.codeIn K cdv qual=true) (S:FnScope N ps scope)
  (len:∀vs H Q E,sp vs H Q E->vs.length=ps.length)
  (hbody:∀(A:Around) (outer:List Env) (s:Shared) (H:Hp) (vs:List V) (Q:VK) (E:XK),Room k (A.deeper (envOfC qual scope s.heap.objs.size f cdv))->sp vs H Q E->
   ∃t,PSs (abT CX P w K mg base N qual scope f cdv A outer s H E) body t/\t {nx:=fun _ H'=>Q .non H',rt:=Q} (abC N vs) H):
  FnOk P w K mg base CX (k+1) f (PySem.W.fnOf name qual params body scope dV kV doc pm an cdv ct) ps sp:=by
 refine⟨len,fun A outer s H args us vs Q E hr e0 hb r hsp=>?_⟩
 have hl:=len _ _ _ _ hsp
 have KX:K.In s.heap:=e0.mod.kin.keeps fun b o e=>(e0.bs b o e).1
 have lim:s.heap.NoLimit:=e0.mod.nolimit.keeps fun b o e=>(e0.bs b o e).1
 have hkind:∀y∈ps.zip us,scope.names.lookup y.1=some .local∨(scope.names.lookup y.1=some .cell/\((cellsFrom (s.heap.objs.size+1) scope.names []).lookup y.1).isSome=true):=fun ⟨n,v⟩ hy=>by
  rcases S.par n (List.of_mem_zip hy).1 with q | q
  ·exact .inl q
  ·exact .inr ⟨q,PySem.W.cellsFrom_some _ _ _ (.inl q)⟩
 refine codeAny_call_function hr.depth (KX _ _ lk) rfl S.co S.gen rfl (PySem.W.codeRec_of KX hcd) (hb _ _ _ _ ?_)
 refine wpAny_newFunctionEnv_cells S.kind hkind fun env he s1 x=>?_
 subst he
 refine⟨lim.keeps x.toInCall.keep,codeAny_func ?_⟩
 obtain⟨t,ht,hq⟩:=hbody A outer s H vs Q E (hr.deeper _) hsp
 have I:Inv (abT CX P w K mg base N qual scope f cdv A outer s H E) [] (abC N vs) H s1:=aeW S hr.hd e0 hl r x
 refine wpAny_mono (ht [] s1 (abC N vs) H _ I hq) (fun fl s' hs=>?_) fun e s' hs=>hs
 have fin:∀{σ':St} {H':Hp} {v:V} {u:Value},Inv (abT CX P w K mg base N qual scope f cdv A outer s H E) [] σ' H' s'->RelV v u->Q v H'->CE outer P w H s Q u s':=
  fun {σ' H' v u} J rv q=>⟨v,H',J.os,J.bare,J.base,J.hok,rv,q⟩
 cases fl with
 |ret u=>
  obtain⟨v,σ',H',J,rv,q⟩:=hs
  exact fin J rv q
 |next=>
  obtain⟨σ',H',J,q⟩:=hs
  exact fin (v:=V.non) (u:=Value.none) J rfl q
 |brk=>
  obtain⟨_,_,_,q⟩:=hs
  exact False.elim q
 |cont=>
  obtain⟨_,_,_,q⟩:=hs
  exact False.elim q
section
variable{X:Cx}{x:Str}{p pos:Pos}{e:Expr}{es:List Expr}{t:TA}{id T:String}{r:List V->Hp->VK->Prop}
def tCB(r:List V->Hp->VK->Prop)(t:TA):TE:=fun σ H Q=>t σ H fun vs H1=>r vs H1 Q
theorem ajE(hc:acF X (.builtin id) r)(hg:Gl X x)(hm:X.mg x=none)(hv:bootBuiltins x=some (.builtin id))(ha:PA X (e::es) t)(hn:x≠"__name__":=by decide)(hdb:(x==("__debug__":Str))=false:=by decide)
  (he:starEach (e::es) X.env=(false,eval e X.env)::starEach es X.env:=by rfl) (hpl:(backTo pos (starEach es X.env)).any (·.1)=false:=by rfl):PE X (.Call (.Name x p) (e::es) [] pos) (tCB r t):=by
 intro pins s σ H Q I h
 refine wpAny_Call_Name_kw (ac4 I hg hm hv ?_ hn hdb)
 exact PyProof.Rows.callWith_builtin1 (thn (ha pos pins s σ H _ I h) fun us s1 ⟨vs,H1,I1,r1,q1⟩=>hc pins s1 σ H1 vs us Q I1 r1 q1) he hpl
theorem ah8(hc:acF X (.type T) r)(hg:Gl X x)(hm:X.mg x=none)(hv:bootBuiltins x=some (.type T))(ha:PA X (e::es) t)(hn:x≠"__name__":=by decide)(hdb:(x==("__debug__":Str))=false:=by decide)
  (he:starEach (e::es) X.env=(false,eval e X.env)::starEach es X.env:=by rfl) (hpl:(backTo pos (starEach es X.env)).any (·.1)=false:=by rfl):PE X (.Call (.Name x p) (e::es) [] pos) (tCB r t):=by
 intro pins s σ H Q I h
 refine wpAny_Call_Name_kw (ac4 I hg hm hv ?_ hn hdb)
 exact PyProof.Rows.callWith_type1 (thn (ha pos pins s σ H _ I h) fun us s1 ⟨vs,H1,I1,r1,q1⟩=>hc pins s1 σ H1 vs us Q I1 r1 q1) he hpl
end
end L2
namespace HT
open PySem PyProof.Rows
section
open PySem.SeqAt
open PySem.AutoSeq1 (wpAny_loadPart')
open PySem.MeetsSeq PySem.MeetsSeq2 PySem.MeetsSeq3
end
section
variable{prog:Program}{w:World}{A:Around}{E:Value->Shared->Prop}{s:Shared}
def sIx(n d:Nat):Option Int->Nat
 |none=>d
 |some v=>if v<0 then (v+(n:Int)).toNat else min v.toNat n
end
end HT
namespace L2
open PySem PySem.Spec PyProof.Rows
abbrev TO:=St->Hp->(Option Int->Hp->Prop)->Prop
def PO(X:Cx)(e:Option Expr)(t:TO):Prop:=
 ∀(pins:List (Addr×Obj)) (s:Shared) (σ:St) (H:Hp) (Q:Option Int->Hp->Prop),Inv X pins σ H s->t σ H Q->
  wpAny (model X.prog X.w) X.A (evalPart e X.env) (fun u s'=>∃o H',Inv X pins σ H' s'/\IsPart u o/\Q o H') X.xe s
def ahZ:TO:=fun _ H Q=>Q none H
def al3(t:TE):TO:=fun σ H Q=>t σ H fun x H1=>∃i,x=.int i/\Q (some i) H1
section
variable{X:Cx}{e:Expr}{te:TE}{lo hi:Option Expr}{tl th:TO}{pos p2:Pos}
theorem ak4:PO X none ahZ:=by
 intro pins s σ H Q I h
 rw[evalPart_none]
 exact wpAny_pure ⟨none,H,I,.none,h⟩
theorem alN(h:PE X e te):PO X (some e) (al3 te):=by
 intro pins s σ H Q I hw
 rw[evalPart_some]
 refine thn (h pins s σ H _ I hw) fun u s1 ⟨x,H1,I1,r1,q1⟩=>?_
 obtain⟨i,rfl,q⟩:=q1
 obtain⟨t,rfl⟩:=r1
 exact⟨some i,H1,I1,.int i t,q⟩
def SlR(X:Cx)(r:V->Option Int->Option Int->Hp->VK->Prop):Prop:=
 ∀(pins:List (Addr×Obj)) (s:Shared) (σ:St) (H:Hp) (x:V) (v vl vu:Value) (lo hi:Option Int) (sl:Addr) (Q:VK),Inv X pins σ H s->RelV x v->s.heap.IsSliceOf sl vl vu .none->IsPart vl lo->IsPart vu hi->r x lo hi H Q->
  ∃T id,typeLookup (.type T) "__getitem__"=pure (some (.builtin id))/\s.TypeIs v T/\wpAny (model X.prog X.w) X.A (getItem v (.ref sl)) (EP X pins σ Q) X.xe s
def tSl(r:V->Option Int->Option Int->Hp->VK->Prop)(te:TE)(tl th:TO):TE:=fun σ H Q=>te σ H fun x H1=>tl σ H1 fun l H2=>th σ H2 fun u H3=>r x l u H3 Q
theorem ajK{r:V->Option Int->Option Int->Hp->VK->Prop}(hr:SlR X r)(he:PE X e te)(hl:PO X lo tl)(hu:PO X hi th):PE X (.Subscript e (.Slice lo hi none p2) pos) (tSl r te tl th):=by
 intro pins s σ H Q I h
 refine Subscript_ (thn (he pins s σ H _ I h) fun v s1 ⟨x,H1,I1,r1,q1⟩=>?_)
 refine wpAny_Slice (thn (hl pins s1 σ H1 _ I1 q1) fun vl s2 ⟨l,H2,I2,pl,q2⟩=>thn (hu pins s2 σ H2 _ I2 q2) fun vu s3 ⟨u,H3,I3,pu,q3⟩=>?_)
 rw[evalPart_none]
 refine wpAny_pure ?_
 have I4:Inv X pins σ H3 {s3 with heap:=s3.heap.push {cls:=.type "slice",data:=.fields #[vl,vu,.none]} }:=I3.kept (t':=s3.toks) fun b ob q=>Heap.get?_push_of_some _ q
 obtain⟨T,id,hT,ht,hg⟩:=hr pins {s3 with heap:=s3.heap.push {cls:=.type "slice",data:=.fields #[vl,vu,.none]} } σ H3 x v vl vu l u s3.heap.objs.size Q I4 r1 (Heap.IsSliceOf.new ..) pl pu q3
 show wpAny (model X.prog X.w) X.A (subscriptTail e (.Slice lo hi none p2) v (.ref s3.heap.objs.size)) (EP X pins σ Q) X.xe {s3 with heap:=s3.heap.push {cls:=.type "slice",data:=.fields #[vl,vu,.none]} }
 exact tail_any (ops:=[.ref s3.heap.objs.size,v]) ht hT hg (by with_unfolding_all rfl)
def agU(xs:List V)(lo hi:Option Int):List V:=(xs.drop (HT.sIx xs.length 0 lo)).take (HT.sIx xs.length xs.length hi-HT.sIx xs.length 0 lo)
theorem agL(xs:List V)(lo hi:Option Int):(agU xs lo hi).length<=xs.length:=by
 unfold agU
 rw[List.length_take,List.length_drop]
 omega
end
def ixN(n:Nat)(i:Int):Option Nat:=if 0<=i then (if i<n then some i.toNat else none) else if -(n:Int)<=i then some (i+n).toNat else none
def atI{α:Type}(xs:List α)(i:Int):Option α:=(ixN xs.length i).bind fun j=>xs[j]?
theorem ah4{n:Nat}{i:Int}{j:Nat}(h:ixN n i=some j):seqIndex? i n=some j/\j<n/\ -(n:Int)<=i/\i<n:=by
 unfold ixN at h
 by_cases h0:0<=i
 ·rw[if_pos h0] at h
  by_cases h1:i<n
  ·rw[if_pos h1] at h
   have e:i.toNat=j:=Option.some.inj h
   exact⟨by rw[seqIndex_of h0 h1,e],by omega,by omega,h1⟩
  ·rw[if_neg h1] at h;cases h
 ·rw[if_neg h0] at h
  by_cases h1: -(n:Int)<=i
  ·rw[if_pos h1] at h
   have e:(i+n).toNat=j:=Option.some.inj h
   exact⟨by rw[seqIndex_neg (by omega) h1,e],by omega,h1,by omega⟩
  ·rw[if_neg h1] at h;cases h
theorem afM{α:Type}{xs:List α}{i:Int}{v:α}(h:atI xs i=some v):∃j,seqIndex? i xs.length=some j/\xs[j]? =some v/\j<xs.length/\ -(xs.length:Int)<=i/\i<xs.length:=by
 unfold atI at h
 cases e:ixN xs.length i with
 |none=>rw[e] at h;cases h
 |some j=>
  rw[e] at h
  obtain⟨h1,h2,h3,h4⟩:=ah4 e
  exact⟨j,h1,h,h2,h3,h4⟩
theorem afX{α:Type}{xs:List α}{j:Nat}{v:α}(h:xs[j]? =some v):atI xs (j:Int)=some v:=by
 have hj:j<xs.length:=(List.getElem?_eq_some_iff.mp h).1
 have e:ixN xs.length (j:Int)=some j:=by
  unfold ixN
  rw[if_pos (by omega),if_pos (by omega)];simp
 unfold atI;rw[e];exact h
def ahI(b:Expr):Prop:=∀o i,subscripted b false o i=operate [o,i] (getItem o i)
def IxR(X:Cx)(r:R2):Prop:=
 ∀(value slice:Expr) (pins:List (Addr×Obj)) (s:Shared) (σ:St) (H:Hp) (x y:V) (v u:Value) (Q:VK),Inv X pins σ H s->RelV x v->RelV y u->r x y H Q->
  subscripted slice false v u=operate [v,u] (getItem v u)->wpAny (model X.prog X.w) X.A (subscriptTail value slice v u) (EP X pins σ Q) X.xe s
def MtR(X:Cx)(id:String)(r:V->List V->Hp->VK->Prop):Prop:=
 ∀(pins:List (Addr×Obj)) (s:Shared) (σ:St) (H:Hp) (x:V) (xs:List V) (v:Value) (us:List Value) (Q:VK),Inv X pins σ H s->RelV x v->Vals xs us->r x xs H Q->
  wpAny (model X.prog X.w) X.A (call (.builtin id) (v::us)) (EP X pins σ Q) X.xe s
section
variable{X:Cx}{a b:Expr}{ta tb:TE}{pos:Pos}
theorem ao3{r:R2}(hr:IxR X r)(ha:PE X a ta)(hb:PE X b tb)(hs:ahI b):PE X (.Subscript a b pos) (tOp r ta tb):=by
 intro pins s σ H Q I h
 exact Subscript_ (anN ha hb I h fun v u s2 x y H2 I2 rx ry q=>hr a b pins s2 σ H2 x y v u Q I2 rx ry q (hs _ _))
def am3(K:PySem.W.Frag):R2:=fun x y H Q=>∃p xs i v,x=.ref p/\y=.int i/\SqL K H p xs/\atI xs i=some v/\Q v H
def ao6(K:PySem.W.Frag):R2:=fun x y H Q=>∃p xs i v,x=.ref p/\y=.int i/\SqT K H p xs/\atI xs i=some v/\Q v H
def rIxS:R2:=fun x y H Q=>∃z i c,x=.str z/\y=.int i/\z.length<=sizeLine/\atI z.cps.toList i=some c/\Q (.str ⟨#[c]⟩) H
theorem akN:IxR X (am3 X.K):=by
 intro value slice pins s σ H x y v u Q I rx ry h hs
 obtain⟨p,xs,i,z,rfl,rfl,hq,he,q⟩:=h
 cases rx
 obtain⟨t,rfl⟩:=ry
 obtain⟨its,r,pl,hz⟩:=I.list hq
 obtain⟨j,h1,h2,h3,h4,h5⟩:=afM he
 obtain⟨w,ew,rw'⟩:=r.get h2
 have hl:=r.length
 have hn:=ac1
 have fin:EP X pins σ Q w s:=⟨z,H,I,rw',q⟩
 by_cases h0:0<=i
 ·have hj:i.toNat=j:=by
   rw[seqIndex_of h0 h5] at h1
   exact Option.some.inj h1
  exact item_listR pl.isList h0 (by omega) (by rw[hj];simpa using ew) fin hs
 ·have hj:(i+(its.toArray.size:Int)).toNat=j:=by
   rw[seqIndex_neg (by omega) h4] at h1
   rw[List.size_toArray,←hl]
   exact Option.some.inj h1
  exact subscriptTail_builtinR (x:=w) pl.isList.typeIs slot_list_getitem.lookup
   (wpAny_getItem_list_neg (Q:=fun r s'=>r=w/\EP X pins σ Q r s') pl.isList (by omega) (by rw[List.size_toArray]<;>omega) (by omega) (by rw[hj];simpa using ew) ⟨rfl,fin⟩) hs
theorem amM:IxR X (ao6 X.K):=by
 intro value slice pins s σ H x y v u Q I rx ry h hs
 obtain⟨p,xs,i,z,rfl,rfl,hq,he,q⟩:=h
 cases rx
 obtain⟨t,rfl⟩:=ry
 obtain⟨its,r,pl,hz⟩:=I.tuple hq
 obtain⟨j,h1,h2,h3,h4,h5⟩:=afM he
 obtain⟨w,ew,rw'⟩:=r.get h2
 have hl:=r.length
 have hn:=ac1
 have fin:EP X pins σ Q w s:=⟨z,H,I,rw',q⟩
 exact subscriptTail_builtinR (x:=w) pl.typeIs slot_tuple_getitem.lookup
  (getItem_tuple (j:=j) (Q:=fun r s'=>r=w/\EP X pins σ Q r s') pl (by omega) (by omega) (by rw[List.size_toArray,←hl];exact h1) (by simpa using ew) ⟨rfl,fin⟩) hs
theorem amX:IxR X rIxS:=by
 intro value slice pins s σ H x y v u Q I rx ry h hs
 obtain⟨z,i,c,rfl,rfl,hz,he,q⟩:=h
 obtain⟨t,rfl⟩:=rx
 obtain⟨t',rfl⟩:=ry
 obtain⟨j,h1,h2,h3,h4,h5⟩:=afM he
 have hl:z.cps.toList.length=z.length:=by simp[Str.length]
 rw[hl] at h1 h4 h5
 have hn:=ac1
 exact tail_any (typeIs_str s z t) slot_str_getitem.lookup (getItem_str (c:=c) (by
  have e1:decide (i< -(2^63:Int))=false:=decide_eq_false (by omega)
  have e2:decide (i ≥ 2^63)=false:=decide_eq_false (by omega)
  rw[e1,e2,Bool.or_false]) (by rw[h1];simpa using h2) ⟨.str ⟨#[c]⟩,H,I.tok _,⟨_,rfl⟩,q⟩) hs
theorem ahE(its:List Value)(n j:Nat)(u:Value):Obj.mapSeq (·.setIfInBounds j u) {cls:=.type "list",data:=.seq its.toArray n}={cls:=.type "list",data:=.seq (its.set j u).toArray n}:=by
 simp[Obj.mapSeq]
theorem Inv.lst{pins:List (Addr×Obj)}{σ:St}{H:Hp}{s:Shared}{p:Addr}{xs:List V}(I:Inv X pins σ H s)(h:H p=some (.lst xs)):
  ∃(its:List Value) (n:Nat),Vals xs its/\s.heap.get? p=some {cls:=.type "list",data:=.seq its.toArray n}/\xs.length<=sizeLine:=by
 obtain⟨z,its,n,r,e⟩:=I.hok p _ h
 exact⟨its,n,r,e,z⟩
theorem Inv.lstUpd{pins:List (Addr×Obj)}{σ:St}{H:Hp}{s:Shared}{p:Addr}{xs ys:List V}{its its':List Value}{n n':Nat}{f:Obj->Obj}(I:Inv X pins σ H s)(h:H p=some (.lst xs))
  (ho:s.heap.get? p=some {cls:=.type "list",data:=.seq its.toArray n}) (hf:f {cls:=.type "list",data:=.seq its.toArray n}={cls:=.type "list",data:=.seq its'.toArray n'}) (r:Vals ys its') (hz:ys.length<=sizeLine) (t:Nat):
  Inv X pins σ (upd H p (.lst ys)) {s with heap:=s.heap.update p f,toks:=t}:=by
 have e:(s.heap.update p f).get? p=some {cls:=.type "list",data:=.seq its'.toArray n'}:=by
  rw[Heap.get?_update_self f ho (by rw[hf]<;>rfl),hf]
 refine I.write (x:=p) (e:=p) (by rw[h];trivial) (.inl rfl) (fun b u hb q=>(Heap.get?_update_other _ _ (Ne.symm hb)).trans q) ⟨_,e⟩ ?_
 exact⟨hz,its',n',r,e⟩
def alY:V->V->V->Hp->(Hp->Prop)->Prop:=fun o i v H Q=>∃p xs k j,o=.ref p/\i=.int k/\H p=some (.lst xs)/\ixN xs.length k=some j/\Q (upd H p (.lst (xs.set j v)))
theorem akC:aoD X alY:=by
 intro pins s σ H o i v ov iv u Q I ro ri rv h
 obtain⟨p,xs,k,j,rfl,rfl,hp,hj,q⟩:=h
 cases ro
 obtain⟨t,rfl⟩:=ri
 obtain⟨its,n,r,ho,hz⟩:=I.lst hp
 obtain⟨h1,h2,h3,h4⟩:=ah4 hj
 have hl:=r.length
 have hn:=ac1
 have I':Inv X pins σ (upd H p (.lst (xs.set j v))) {s with heap:=s.heap.update p (Obj.mapSeq (·.setIfInBounds j u))}:=
  I.lstUpd hp ho (ahE its n j u) (r.set rv j) (by rw[List.length_set];exact hz) s.toks
 by_cases h0:0<=k
 ·have hk:k.toNat=j:=by
   rw[seqIndex_of h0 h4] at h1
   exact Option.some.inj h1
  exact PySem.W.ki_setAt ho h0 (by omega) (by rw[List.size_toArray,←hl];exact h4) (by rw[hk];exact⟨_,I',q⟩)
 ·have hk:(k+(its.toArray.size:Int)).toNat=j:=by
   rw[seqIndex_neg (by omega) h3] at h1
   rw[List.size_toArray,←hl]
   exact Option.some.inj h1
  exact PySem.W.ki_setBack ho (by omega) (by rw[List.size_toArray,←hl];exact h3) (by omega) (by rw[hk];exact⟨_,I',q⟩)
theorem afC(lo hi:Option Int)(n:Nat):(sliceBounds lo hi none n).1=((HT.sIx n 0 lo:Nat):Int)/\(sliceBounds lo hi none n).2.1=((HT.sIx n n hi:Nat):Int)/\(sliceBounds lo hi none n).2.2=1:=by
 refine⟨?_,?_,rfl⟩
 ·cases lo with
  |none=>simp[sliceBounds,HT.sIx]
  |some i=>
   simp only[sliceBounds,HT.sIx,Option.getD_none,show (1:Int)>0 by decide,if_true]
   by_cases h:i<0
   ·simp only[h,if_true]<;>omega
   ·simp only[h,if_false]<;>omega
 ·cases hi with
  |none=>simp[sliceBounds,HT.sIx]
  |some i=>
   simp only[sliceBounds,HT.sIx,Option.getD_none,show (1:Int)>0 by decide,if_true]
   by_cases h:i<0
   ·simp only[h,if_true]<;>omega
   ·simp only[h,if_false]<;>omega
theorem aeL(its:List Value)(lo hi:Option Int):slicePick its.toArray lo hi none=((its.drop (HT.sIx its.length 0 lo)).take (HT.sIx its.length its.length hi-HT.sIx its.length 0 lo)).toArray:=by
 obtain⟨h1,h2,h3⟩:=afC lo hi its.toArray.size
 unfold slicePick
 rw[h1,h2,h3]
 simp only[sliceRange_one,pick_run,List.size_toArray]<;>rfl
def ap6(K:PySem.W.Frag):V->Option Int->Option Int->Hp->VK->Prop:=fun x lo hi H Q=>∃a xs,x=.ref a/\SqL K H a xs/\∀p,H p=none->Q (.ref p) (upd H p (.lst (agU xs lo hi)))
theorem alO:SlR X (ap6 X.K):=by
 intro pins s σ H x v vl vu lo hi sl Q I rx hs pl pu h
 obtain⟨a,xs,rfl,hx,q⟩:=h
 cases rx
 obtain⟨its,r,ht,hz⟩:=I.list hx
 have hlen:=r.length
 refine⟨"list",_,slot_list_getitem.lookup,ht.isList.typeIs,?_⟩
 refine wpAny_getItem_list_slice ht.isList hs pl pu .none (by simp) ?_ (by rw[List.size_toArray]<;>omega)
 rw[aeL,←hlen]
 refine⟨.ref s.heap.objs.size,_,I.laid (t':=s.toks) (o:=.lst (agU xs lo hi)) (fun b ob q=>Heap.get?_push_of_some _ q) (Nat.le_refl _) ?_,rfl,q _ (I.hok.fresh (Nat.le_refl _))⟩
 exact⟨Nat.le_trans (agL xs lo hi) hz,_,0,(r.drop (HT.sIx xs.length 0 lo)).take (HT.sIx xs.length xs.length hi-HT.sIx xs.length 0 lo),Heap.get?_push_size _ rfl⟩
def ab4:V->Bool
 |.non=>true
 |.bl _=>true
 |.int _=>true
 |.str _=>true
 |_=>false
def eqV:V->V->Bool
 |.non,.non=>true
 |.bl a,.bl b=>a==b
 |.bl a,.int b=>(if a then 1 else 0)==b
 |.int a,.bl b=>a==(if b then 1 else 0)
 |.int a,.int b=>a==b
 |.str a,.str b=>a==b
 |_,_=>false
theorem amS{A:Around}{s:Shared}{y x:V}{u v:Value}(ry:RelV y u)(rx:RelV x v)(fy:ab4 y=true)(fx:ab4 x=true):SeqAt.EqAt A s u v (eqV y x):=by
 cases y with
 |non=>
  cases ry
  cases x with
  |non=>cases rx;exact SeqAt.EqAt.same _
  |bl b=>cases rx;exact SeqAt.EqAt.none_bool b
  |int b=>obtain⟨t,rfl⟩:=rx;exact SeqAt.EqAt.none_int b t
  |str b=>obtain⟨t,rfl⟩:=rx;exact SeqAt.EqAt.none_str b t
  |_=>exact absurd (show false=true from fx) Bool.false_ne_true
 |bl a=>
  cases ry
  cases x with
  |non=>cases rx;exact SeqAt.EqAt.bool_none a
  |bl b=>cases rx;exact SeqAt.EqAt.bool_bool a b
  |int b=>obtain⟨t,rfl⟩:=rx;exact SeqAt.EqAt.bool_int a b t
  |str b=>obtain⟨t,rfl⟩:=rx;exact SeqAt.EqAt.bool_str a b t
  |_=>exact absurd (show false=true from fx) Bool.false_ne_true
 |int a=>
  obtain⟨t',rfl⟩:=ry
  cases x with
  |non=>cases rx;exact SeqAt.EqAt.int_none a t'
  |bl b=>cases rx;exact SeqAt.EqAt.int_bool a t' b
  |int b=>obtain⟨t,rfl⟩:=rx;exact SeqAt.EqAt.int_int a t' b t
  |str b=>obtain⟨t,rfl⟩:=rx;exact SeqAt.EqAt.int_str a t' b t
  |_=>exact absurd (show false=true from fx) Bool.false_ne_true
 |str a=>
  obtain⟨t',rfl⟩:=ry
  cases x with
  |non=>cases rx;exact SeqAt.EqAt.str_none a t'
  |bl b=>cases rx;exact SeqAt.EqAt.str_bool a t' b
  |int b=>obtain⟨t,rfl⟩:=rx;exact SeqAt.EqAt.str_int a t' b t
  |str b=>obtain⟨t,rfl⟩:=rx;exact SeqAt.EqAt.str_str a t' b t
  |_=>exact absurd (show false=true from fx) Bool.false_ne_true
 |_=>exact absurd (show false=true from fy) Bool.false_ne_true
def eqU(x:V)(u:Value):Bool:=match u with
 |.none=>eqV .non x
 |.bool b=>eqV (.bl b) x
 |.int i _=>eqV (.int i) x
 |.str z _=>eqV (.str z) x
 |_=>false
theorem ajC{x y:V}{u:Value}(r:RelV y u)(f:ab4 y=true):eqU x u=eqV y x:=by
 cases y with
 |non=>cases r;rfl
 |bl b=>cases r;rfl
 |int i=>obtain⟨t,rfl⟩:=r;rfl
 |str z=>obtain⟨t,rfl⟩:=r;rfl
 |_=>exact absurd (show false=true from f) Bool.false_ne_true
theorem afT{x:V}:∀{xs:List V} {us:List Value},Vals xs us->xs.all ab4=true->us.any (eqU x)=xs.any fun y=>eqV y x
 |_,_,.nil,_=>rfl
 |y::xs,u::us,.cons r t,f=>by
  rw[List.all_cons,Bool.and_eq_true] at f
  rw[List.any_cons,List.any_cons,ajC r f.1,afT t f.2]
theorem ad4{A:Around}{s:Shared}{x:V}{v:Value}(rx:RelV x v)(fx:ab4 x=true):∀{xs:List V} {us:List Value},Vals xs us->xs.all ab4=true->∀u∈us,SeqAt.EqAt A s u v (eqU x u)
 |_,_,.nil,_=>fun u hu=>by cases hu
 |y::xs,u::us,.cons r t,f=>fun u' hu=>by
  rw[List.all_cons,Bool.and_eq_true] at f
  rcases List.mem_cons.mp hu with rfl | hu
  ·rw[ajC r f.1];exact amS r rx f.1 fx
  ·exact ad4 rx fx t f.2 u' hu
def inV(x:V)(xs:List V):Bool:=xs.any fun y=>eqV y x
def rIn(K:PySem.W.Frag)(neg:Bool):R2:=fun x y H Q=>∃p xs,y=.ref p/\(SqL K H p xs∨SqT K H p xs)/\ab4 x=true/\xs.all ab4=true/\Q (.bl (if neg then !inV x xs else inV x xs)) H
theorem aiW:OpR X (compareOp .In) (rIn X.K false):=by
 intro pins s σ H x y v u Q I rx ry h
 obtain⟨p,xs,rfl,hq,fx,fs,q⟩:=h
 cases ry
 rcases hq with hq | hq
 ·obtain⟨its,r,pl,hz⟩:=I.list hq
  refine SeqAt.in_listAt (eqU x) pl.isList (fun w hw=>ad4 rx fx r fs w (by simpa using hw)) ⟨.bl _,H,I,rfl,?_⟩
  rw[show its.toArray.any (eqU x)=its.any (eqU x) by simp,afT r fs]
  exact q
 ·obtain⟨its,r,pl,hz⟩:=I.tuple hq
  refine SeqAt.in_tupleAt (eqU x) pl (fun w hw=>ad4 rx fx r fs w (by simpa using hw)) ⟨.bl _,H,I,rfl,?_⟩
  rw[show its.toArray.any (eqU x)=its.any (eqU x) by simp,afT r fs]
  exact q
theorem afB:acF X (.builtin "len") (fun xs H Q=>∃p ys,xs=[.ref p]/\(SqL X.K H p ys∨SqT X.K H p ys)/\Q (.int ys.length) H):=by
 intro pins s σ H xs us Q I r h
 obtain⟨p,ys,rfl,hq,q⟩:=h
 obtain⟨u,rfl,rx⟩:=abX r
 cases rx
 have hn:=ac1
 rcases hq with hq | hq
 ·obtain⟨its,r',pl,hz⟩:=I.list hq
  have hlen:=r'.length
  exact Calls.call_len_list pl.isList (by simp only[List.size_toArray]<;>omega) ⟨.int ys.length,H,I.tok _,⟨s.toks+1,by rw[List.size_toArray,hlen]⟩,q⟩
 ·obtain⟨its,r',pl,hz⟩:=I.tuple hq
  have hlen:=r'.length
  exact len_tuple pl (by simp only[List.size_toArray]<;>omega) ⟨.int ys.length,H,I.tok _,⟨s.toks+1,by rw[List.size_toArray,hlen]⟩,q⟩
theorem afS:acF X (.builtin "len") (fun xs H Q=>∃z,xs=[.str z]/\z.length<=sizeLine/\Q (.int z.length) H):=by
 intro pins s σ H xs us Q I r h
 obtain⟨z,rfl,hz,q⟩:=h
 obtain⟨u,rfl,t,rfl⟩:=abX r
 have hn:=ac1
 exact len_str (by omega) ⟨.int z.length,H,I.tok _,⟨_,rfl⟩,q⟩
theorem afU:acF X (.type "list") (fun xs H Q=>∃p ys,xs=[.ref p]/\(SqL X.K H p ys∨SqT X.K H p ys)/\∀l,H l=none->Q (.ref l) (upd H l (.lst ys))):=by
 intro pins s σ H xs us Q I r h
 obtain⟨p,ys,rfl,hq,q⟩:=h
 obtain⟨u,rfl,rx⟩:=abX r
 cases rx
 have fin:∀(its:List Value),Vals ys its->ys.length<=sizeLine->∀(h':Heap) (c':Nat),(∀b o',s.heap.get? b=some o'->h'.get? b=some o')->
   h'.get? s.heap.objs.size=some {cls:=.type "list",dict:=none,data:=.seq its.toArray c',slots:= #[]}->EP X pins σ Q (.ref s.heap.objs.size) {s with heap:=h'}:=fun its r' hz h' c' kp e=>
  ⟨.ref s.heap.objs.size,_,I.laid (t':=s.toks) kp (Nat.le_refl _) (show ObjOk X.prog X.w _ h' _ (.lst ys) from ⟨hz,its,c',r',e⟩),rfl,q _ (I.hok.fresh (Nat.le_refl _))⟩
 rcases hq with hq | hq
 ·obtain⟨its,r',pl,hz⟩:=I.list hq
  have hlen:=r'.length
  obtain⟨o,ho,hc,n,hd⟩:=pl.isList
  exact call_list_seq p (.inl rfl) ho hc hd (fun h' c' kp e=>fin its r' hz h' c' kp e) (by simp only[List.size_toArray]<;>omega)
 ·obtain⟨its,r',pl,hz⟩:=I.tuple hq
  have hlen:=r'.length
  obtain⟨o,ho,hc,n,hd⟩:=pl
  exact call_list_seq p (.inr rfl) ho hc hd (fun h' c' kp e=>fin its r' hz h' c' kp e) (by simp only[List.size_toArray]<;>omega)
def tyV(K:PySem.W.Frag)(T:String)(x:V)(H:Hp):Prop:=match x with
 |.str _=>T="str"
 |.int _=>T="int"
 |.ref p=>(T="list"/\∃xs,SqL K H p xs)∨(T="tuple"/\∃o,K.lookup p=some o/\o.cls=.type "tuple"/\o.dict=none)∨
   (T="dict"/\((∃kvs,H p=some (.dK kvs))∨∃kvs,H p=some (.dT kvs)))∨(T="set"/\∃S n,H p=some (.set S n))
 |_=>False
theorem anR{pins:List (Addr×Obj)}{σ:St}{H:Hp}{s:Shared}{T:String}{x:V}{v:Value}(I:Inv X pins σ H s)(r:RelV x v)(ty:tyV X.K T x H):
  s.TypeIs v T/\∀a,v=.ref a->∃ob,s.heap.get? a=some ob/\ob.dict=none:=by
 cases x with
 |str z=>
  obtain⟨t,rfl⟩:=r
  cases (show T="str" from ty)
  exact⟨typeIs_str s z t,fun _ e=>nomatch e⟩
 |int i=>
  obtain⟨t,rfl⟩:=r
  cases (show T="int" from ty)
  exact⟨typeIs_int s i t,fun _ e=>nomatch e⟩
 |ref p=>
  cases r
  rcases ty with ⟨rfl,xs,hq⟩ | ⟨rfl,o,hk,hc,hd⟩ | ⟨rfl,hk⟩ | ⟨rfl,S,n,hk⟩
  ·obtain⟨its,_,pl,_⟩:=I.list hq
   refine⟨pl.isList.typeIs,fun a e=>?_⟩
   cases e
   obtain⟨o,n,e,c,hd,_⟩:=pl
   exact⟨o,e,hd⟩
  ·refine⟨⟨o,I.kIn p o hk,hc⟩,fun a e=>?_⟩
   cases e
   exact⟨o,I.kIn _ o hk,hd⟩
  ·have z:∃o,s.heap.get? p=some o/\o.ExactDict:=by
    rcases hk with ⟨kvs,hk⟩ | ⟨kvs,hk⟩
    ·obtain⟨_,_,_,_,o,_,_,e,ex,_⟩:=I.hok p _ hk
     exact⟨o,e,ex⟩
    ·obtain⟨_,_,_,_,o,_,_,e,ex,_⟩:=I.hok p _ hk
     exact⟨o,e,ex⟩
   obtain⟨o,e,ex⟩:=z
   refine⟨⟨o,e,ex.1⟩,fun a e2=>?_⟩
   cases e2
   exact⟨o,e,ex.2.1⟩
  ·obtain⟨o,_,_,_,e,ex,_⟩:=I.hok p _ hk
   refine⟨⟨o,e,ex.1⟩,fun a e2=>?_⟩
   cases e2
   exact⟨o,e,ex.2.1⟩
 |_=>exact False.elim ty
def tBM(K:PySem.W.Frag)(T:String)(r:V->List V->Hp->VK->Prop)(to:TE)(t:TA):TE:=fun σ H Q=>to σ H fun x H1=>tyV K T x H1/\t σ H1 fun xs H2=>r x xs H2 Q
variable{o e:Expr}{es:List Expr}{to:TE}{t:TA}{name:Str}{apos cpos:Pos}{T id:String}{r:V->List V->Hp->VK->Prop}
theorem ajL(pa:PlainAttrs T)(slot:Slot T name id)(hty:typeOf (.builtin id)=pure (.type "method_descriptor"))(hm:MtR X id r)(ho:PE X o to)(ha:PA X (e::es) t)
  (hbase:attributeBase o name X.env (eval o X.env)=eval o X.env:=by rfl)
  (hfew:((backTo cpos (starEach (e::es) X.env)).all (fun x=> !x.1)&&(backToKw cpos (keywordEach [] X.env)).all (fun x=>x.1.isSome)
   &&decide ((e::es).length+([]:List Keyword).length+(if ([]:List Keyword).isEmpty then 0 else 1)<30))=true:=by rfl)
  (hline:(apos.endLine==cpos.line)=true:=by rfl) (hs:starEach (e::es) X.env=(false,eval e X.env)::starEach es X.env:=by rfl) (hplain:(backTo cpos (starEach es X.env)).any (·.1)=false:=by rfl):
  PE X (.Call (.Attribute o name apos) (e::es) [] cpos) (tBM X.K T r to t):=by
 intro pins s σ H Q I h
 refine wpAny_Call_method_late hbase hfew hline rfl (thn (ho pins s σ H _ I h) fun v s1 ⟨x,H1,I1,r1,ty,q1⟩=>?_)
 obtain⟨h1,h2⟩:=anR I1 r1 ty
 refine⟨T,id,pa,slot,hty,h1,h2,?_⟩
 have hA:=ha cpos pins s1 σ H1 _ I1 q1
 rw[hs] at hA ⊢
 refine Calls.callWith_builtin (by show (false||(backTo cpos (starEach es X.env)).any (·.1))=false;rw[hplain]<;>rfl) (Calls.evalArgs_plain ?_)
 exact thn hA fun us s2 ⟨vs,H2,I2,r2,q2⟩=>hm pins s2 σ H2 x vs v us Q I2 r1 r2 q2
/- xs.append(e),list.index on a module's tuple .. are MtR facts of 06m -/
end
def MtM(X:Cx)(id:String)(r:V->List V->Hp->VK->Prop):Prop:=
 ∀(pins:List (Addr×Obj)) (s:Shared) (σ:St) (H:Hp) (x:V) (xs:List V) (v:Value) (us:List Value) (Q:VK),Inv X pins σ H s->RelV x v->Vals xs us->r x xs H Q->
  wpAny (model X.prog X.w) X.A (call (.builtin id) (v::us)) (EP X pins σ Q) X.xe s
theorem Vals.one:∀{x:V} {us:List Value},Vals [x] us->∃u,us=[u]/\RelV x u
 |_,_,.cons r .nil=>⟨_,rfl,r⟩
theorem Vals.two:∀{x y:V} {us:List Value},Vals [x,y] us->∃u v,us=[u,v]/\RelV x u/\RelV y v
 |_,_,_,.cons r (.cons q .nil)=>⟨_,_,rfl,r,q⟩
theorem Vals.rep{xs:List V}{us:List Value}(h:Vals xs us):∀k:Nat,Vals (List.replicate k xs).flatten (List.replicate k us).flatten
 |0=>.nil
 |k+1=>by
  rw[List.replicate_succ,List.replicate_succ,List.flatten_cons,List.flatten_cons]
  exact Vals.append h (Vals.rep h k)
theorem aeR(its:List Value):∀(k:Nat) (acc:List Value),
  List.foldl (fun x1 x2=>x1++x2) acc.toArray (List.replicate k its.toArray)=(acc++(List.replicate k its).flatten).toArray
 |0,acc=>by simp
 |k+1,acc=>by
  have e:acc.toArray++its.toArray=(acc++its).toArray:=by simp
  have e2:(acc++its)++(List.replicate k its).flatten=acc++(List.replicate (k+1) its).flatten:=by
   rw[List.replicate_succ,List.flatten_cons,List.append_assoc]
  rw[←e2,←aeR its k (acc++its),←e,List.replicate_succ,List.foldl_cons]
section
variable{X:Cx}{pins:List (Addr×Obj)}{σ:St}{H:Hp}{s:Shared}{l b:Addr}{xs ys zs:List V}
theorem Inv.lset{its its':List Value}{n:Nat}{f:Array Value->Array Value}{t':Nat}(I:Inv X pins σ H s)(hH:H l=some (.lst xs))
  (e:s.heap.get? l=some {cls:=.type "list",data:=.seq its.toArray n}) (hf:f its.toArray=its'.toArray) (hv:Vals ys its') (hz:ys.length<=sizeLine):
  Inv X pins σ (upd H l (.lst ys)) {s with heap:=s.heap.update l (Obj.mapSeq f),toks:=t'}:=by
 have q:=PySem.IsL.update e f
 rw[hf] at q
 refine I.write (x:=l) (e:=l) (by rw[hH];exact trivial) (.inl rfl) (fun b' u hb hu=>(Heap.get?_update_other s.heap (Obj.mapSeq f) (Ne.symm hb)).trans hu) ⟨_,q⟩ ?_
 exact⟨hz,its',_,hv,q⟩
theorem Inv.lnew{its:List Value}{t':Nat}(I:Inv X pins σ H s)(hv:Vals ys its)(hz:ys.length<=sizeLine):
  Inv X pins σ (upd H s.heap.objs.size (.lst ys)) {s with heap:=s.heap.push {cls:=.type "list",data:=.seq its.toArray},toks:=t'}:=
 I.laid (fun _ _ q=>Heap.get?_push_of_some _ q) (Nat.le_refl _) ⟨hz,its,0,hv,Heap.get?_push_size _ rfl⟩
theorem Inv.fresh(I:Inv X pins σ H s):H s.heap.objs.size=none:=I.hok.fresh (Nat.le_refl _)
theorem Inv.lstM(I:Inv X pins σ H s)(hH:H l=some (.lst xs)):xs.length<=sizeLine/\∃(its:List Value) (n:Nat),Vals xs its/\xs.length=its.length/\s.heap.get? l=some {cls:=.type "list",data:=.seq its.toArray n}:=by
 obtain⟨z,its,n,r,e⟩:=I.hok l _ hH
 exact⟨z,its,n,r,r.length,e⟩
theorem ajP{n:Nat}(h:n<=sizeLine):Builtin.List.listTooLong n=false:=by
 unfold Builtin.List.listTooLong
 exact decide_eq_false (by omega)
end
section
variable{X:Cx}
def ahP:V->List V->Hp->VK->Prop:=fun x vs H Q=>∃l xs y,x=.ref l/\vs=[y]/\H l=some (.lst xs)/\xs.length<sizeLine/\Q .non (upd H l (.lst (xs++[y])))
theorem ae7:MtM X "list.append" ahP:=by
 intro pins s σ H x vs v us Q I rx rv h
 obtain⟨l,xs,y,rfl,rfl,hH,hz,q⟩:=h
 cases rx
 obtain⟨u,rfl,ru⟩:=rv.one
 obtain⟨z,its,n,r,hl,e⟩:=I.lstM hH
 refine call_meets F.slot_list_append ⟨_,e,rfl⟩ F.entry_list_append (F.args_list_append_2 _ _) (PySem.list_append l its.toArray n u (by rw[List.size_toArray];omega)) ⟨e,?_⟩
 refine⟨.non,_,I.lset (its':=its++[u]) hH e (by simp) (r.append (.cons ru .nil)) ?_,rfl,q⟩
 rw[List.length_append,List.length_singleton]
 omega
def arT:R2:=fun x y H Q=>∃l b xs zs,x=.ref l/\y=.ref b/\H l=some (.lst xs)/\H b=some (.lst zs)/\xs.length+zs.length<=sizeLine/\∀p,H p=none->Q (.ref p) (upd H p (.lst (xs++zs)))
theorem anH:OpR X (binaryOp .Add) arT:=by
 intro pins s σ H x y v u Q I rx ry h
 obtain⟨l,b,xs,zs,rfl,rfl,hH,hB,hz,q⟩:=h
 cases rx
 cases ry
 obtain⟨z,its,n,r,hl,e⟩:=I.lstM hH
 obtain⟨z2,its2,n2,r2,hl2,e2⟩:=I.lstM hB
 refine PySem.P.add_list e e2 ?_ (by rw[List.size_toArray,List.size_toArray];omega)
 have ea:its.toArray++its2.toArray=(its++its2).toArray:=by simp
 rw[ea]
 exact⟨.ref _,_,I.lnew (t':=s.toks) (r.append r2) (by rw[List.length_append];omega),rfl,q _ I.fresh⟩
def ap7:R2:=fun x y H Q=>∃l k xs,x=.ref l/\y=.int k/\H l=some (.lst xs)/\ -(2^63)<=k/\k<2^63/\xs.length*k.toNat<=sizeLine/\
 ∀p,H p=none->Q (.ref p) (upd H p (.lst (List.replicate k.toNat xs).flatten))
theorem akV{α:Type}(xs:List α)(k:Nat):(List.replicate k xs).flatten.length=k*xs.length:=by
 induction k with
 |zero=>simp
 |succ k ih=>rw[List.replicate_succ,List.flatten_cons,List.length_append,ih,Nat.succ_mul,Nat.add_comm]
theorem anT:OpR X (binaryOp .Mult) ap7:=by
 intro pins s σ H x y v u Q I rx ry h
 obtain⟨l,k,xs,rfl,rfl,hH,h1,h2,hz,q⟩:=h
 cases rx
 obtain⟨t,rfl⟩:=ry
 obtain⟨z,its,n,r,hl,e⟩:=I.lstM hH
 have hlen:its.toArray.size*k.toNat<=sizeLine:=by rw[List.size_toArray,←hl];exact hz
 have hcap:¬its.toArray.size*k.toNat>(2^63-1) / 8:=by
  have:(sizeLine:Nat)<=(2^63-1) / 8:=by decide
  omega
 have hfit:¬(!Builtin.List.listFitsIndex k)=true:=by
  rw[fitsIndex_both h1 h2]
  exact Bool.false_ne_true
 have hlong:¬Builtin.List.listTooLong (its.toArray.size*k.toNat)=true:=by
  rw[ajP hlen]
  exact Bool.false_ne_true
 have hnew:List.foldl (fun x1 x2=>x1++x2) #[] (List.replicate (if its.toArray.isEmpty=true then 0 else k.toNat) its.toArray)=(List.replicate k.toNat its).flatten.toArray:=by
  have f0:∀m:Nat,List.foldl (fun x1 x2=>x1++x2) #[] (List.replicate m its.toArray)=(List.replicate m its).flatten.toArray:=fun m=>by
   have:=aeR its m []
   rw[List.nil_append] at this
   exact this
  rw[f0]
  cases its with
  |nil=>simp
  |cons a r'=>rw[if_neg (by simp)]
 refine wpAny_binaryOp_repeat_ref (T:="list") (U:="int") (by decide) ⟨_,e,rfl⟩ (fun s'=>typeIs_int s' k t) noFill_list_mul F.fills_int_mul F.slot_int_rmul repeat_list F.slot_int_index.lookup
  (call_meets F.slot_int_rmul (typeIs_int s k t) F.entry_int_rmul (F.args_int_rmul_2 _ _) (int___rmul___int_list k t l its.toArray n)
   ⟨e,rfl,⟨_,e,rfl⟩,call_meets F.slot_list_mul ⟨_,e,rfl⟩ F.entry_list_mul (F.args_list_mul_2 _ _) (AutoListH.list___mul___list_int_3 l its.toArray n k t hfit hcap hlong) ⟨e,?_⟩⟩)
 rw[hnew]
 exact⟨.ref _,_,I.lnew (t':=s.toks) (r.rep k.toNat) (by rw[akV,Nat.mul_comm];exact hz),rfl,q _ I.fresh⟩
end
section
variable{prog:Program}{w:World}{A:Around}{E:Value->Shared->Prop}{s:Shared}
end
section
variable{X:Cx}
end
end L2
namespace Att
open PySem PySem.W PySem.Calls PyProof.Rows
theorem adM{P:Params}{h:Heap}:∀(ns:List Int) (vs:List Value),WellAll P h vs (ns.map WData.int)->IntsAre vs ns:=by
 intro ns
 induction ns with
 |nil=>
  intro vs w
  rw[List.map_nil] at w
  cases w
  exact .nil
 |cons n ns ih=>
  intro vs w
  rw[List.map_cons] at w
  cases w with
  |cons a b=>
   cases a
   exact .cons _ _ (ih _ b)
theorem aiA{l:OpenLaw}{n:Nat}(hn:l.most=some n){P:Params}{h:Heap}{args:List WData}{vals:List Value}
  (hpre:l.row.toRowW.claim.pre args=true) (hwl:WellAll P h vals args):
  ∃a vs ns,vals=[Value.ref a]/\args=[WData.list (ns.map WData.int)]/\h.get? a=some {cls:=.type "list",data:=.seq vs.toArray}/\IntsAre vs ns/\ns.length<=n:=by
 have hsh:WShape.hasAll [] args [.list .int]=true:=(pre_splitW hpre).1
 have hc:l.pre.holds [] {args:=args}=true:=(pre_splitW hpre).2
 obtain⟨d,r,rfl,h1,h2⟩:=hasAllW_cons hsh
 obtain rfl:=hasAllW_nil h2
 obtain⟨xs,rfl,h3⟩:=hasW_list h1
 obtain⟨ns,rfl⟩:=items_int h3
 have hlen:ns.length<=n:=by
  unfold OpenLaw.pre at hc
  have h4:(WTm.not (.lt (.lit (.int (n:Int))) (.len (.arg 0)))).holds [] {args:=[.list (ns.map .int)]}=true:=by
   have h4:=(holds_andW hc).1
   rw[hn] at h4
   exact h4
  have h5:=condW_of h4 (w_not (w_lt w_lit (w_len_list (w_arg rfl))))
  rw[List.length_map] at h5
  refine Nat.le_of_not_lt fun q=>?_
  have q':(n:Int)<((ns.length:Nat):Int):=by omega
  first
   |(rw[decide_eq_true q'] at h5;exact absurd h5 (by decide))
   |(simp at h5;omega)
 cases hwl with
 |cons w1 w2=>
  cases w2
  cases w1 with
  |list ho hall=>exact⟨_,_,ns,rfl,rfl,ho,adM ns _ hall,hlen⟩
theorem aiU(l:OpenLaw)(args:List WData):l.row.toRowW.claim.post args (.bool true) args=true:=
 postW_of (r:=l.row.toRowW) (X:=(true==true))
  (show WShape.has [] (.bool true) .bool=true by first | rfl | decide | simp[WShape.has,WShape.arms,WShape.armsAll])
  (show (WTm.eq .res (.lit (.bool true))).value [] {args:=args,res:=some (.bool true),after:=args}=some (.bool (true==true)) from w_eq_bool (w_res rfl) w_lit) rfl
theorem attach_call{l:OpenLaw}{n:Nat}{q:Program}{loose:List Str}{XP:(Str->Option Value)->Heap->Prop}{YP:World->Heap->Prop}{d:DefRec}
  (hn:l.most=some n) (hdf:d.params.defaults=[])
  (call:∀(w:World) (s₀ s₁:Shared) (mg mb:Str->Option Value) (fa:Addr) (o:Obj) (pm cd doc:Value) (a:Addr) (vs:List Value) (ns:List Int),
   Ground q loose [] XP w s₀ mg mb s₁.heap->YP w s₁.heap->
   s₁.heap.get? fa=some o->o.data=.func (docDef d.name d.params d.body d.scope pm cd doc)->s₁.heap.CodeRec cd d.name->mg d.name=some (.ref fa)->
   s₁.heap.get? a=some {cls:=.type "list",data:=.seq vs.toArray}->IntsAre vs ns->ns.length<=n->s₁.gens= #[]->
   codeAny (model l.prog w) callerA (.call (.ref fa) ⟨[.ref a],[]⟩) (fun r s'=>r=.ok (.ret (.bool true))/\OldK s₁.heap s'.heap/\s'.os=s₁.os/\AllBare s'.gens) s₁):
  WalkO q loose XP YP l.row.toRowW d [] (fun f vs=>PySem.call f vs):=by
 intro w s₀ s₁ mg mb G Y fa o pm cd doc dV kV ho hd hcd hD hmg hg args vals as hpre hlay hrd hwl hlo
 obtain rfl:dV=.none:=Dflts.none hD hdf
 obtain rfl:kV=.none:=Dflts.noKw hD
 obtain⟨a,vs,ns,rfl,rfl,hobj,hints,hlen⟩:=aiA hn hpre hwl
 refine enter_call (codeAny_mono (call w s₀ s₁ mg mb fa o pm cd doc a vs ns G Y ho (fd_plain hd) hcd hmg hobj hints hlen hg) fun r s' hq=>?_)
 obtain⟨rfl,h2,h3,h4⟩:=hq
 exact⟨.inl ⟨.bool true,.bool true,[],rfl,fun _=>rfl,.bool true,aiU l _,fun _=>⟨List.Pairwise.nil,fun _ hm=>(nomatch hm)⟩⟩,h2,h3,h4⟩
section
variable{prog:Program}{w:World}{A:Around}{E:Value->Shared->Prop}{s:Shared}{K:Frag}
end
end Att
namespace L2
open PySem PySem.Spec PyProof.Rows
theorem aeX:∀{vs:List Value} {ns:List Int},IntsAre vs ns->Vals (ns.map V.int) vs
 |_,_,.nil=>.nil
 |_,_,.cons n t h=>.cons ⟨t,rfl⟩ (aeX h)
def am1(H:Hp):Prop:=∀b,H b=none∨∃o xs,H b=some (.frz o (.lst xs))
theorem ajU{P:Program}{w:World}{K:PySem.W.Frag}{mg mb:Str->Option Value}{CX:CXT}{k:Nat}{fa a:Addr}{fd:FuncData}{x:Str}{sp:Sp}{s₁:Shared}{vs:List Value}{ns:List Int}
  (KX:K.In s₁.heap) (hns:s₁.heap.Ns mainGlobals mg) (hb:s₁.heap.Ns builtinsNs mb) (hbb:∀x:Str,x≠"__name__"->mb x=bootBuiltins x) (hlim:s₁.heap.NoLimit) (hg:s₁.gens= #[])
  (ha:s₁.heap.get? a=some {cls:=.type "list",data:=.seq vs.toArray}) (hi:IntsAre vs ns) (hl:ns.length<=sizeLine) (hr:Room k callerA)
  (F:∀base:Heap,K.In base->base.Ns mainGlobals mg->FnOk P w K mg base CX k fa fd [x] sp) (hbind:∀(s:Shared) (u:Value),BindsTo s fd ⟨[u],[]⟩ [(x,u)])
  (hsp:∀H:Hp,am1 H->SqL K H a (ns.map V.int)->sp [.ref a] H (fun v _=>v=.bl true) fun _ _ _=>False)
  (hCX:∀H e s',CX [] H s₁ (fun _ _ _=>False) e s'->False):
  codeAny (model P w) callerA (.call (.ref fa) ⟨[.ref a],[]⟩) (fun r s'=>r=.ok (.ret (.bool true))/\OldK s₁.heap s'.heap/\s'.os=s₁.os/\AllBare s'.gens) s₁:=by
 have rv:=aeX hi
 have lenV:=hi.length
 -- from an abstract heap in which nothing but the script may be tracked
 have core:∀H:Hp,am1 H->SqL K H a (ns.map V.int)->HOk P w H s₁.heap->(∀b,H b≠none->b=a)->(H a≠none->K.lookup a=none)->
   codeAny (model P w) callerA (.call (.ref fa) ⟨[.ref a],[]⟩) (fun r s'=>r=.ok (.ret (.bool true))/\OldK s₁.heap s'.heap/\s'.os=s₁.os/\AllBare s'.gens) s₁:=by
  intro H hO hS hok hA hK
  have base_of:∀{b:Addr} {o:Obj},s₁.heap.get? b=some o->H b=none->(afL s₁.heap H).get? b=some o:=fun e n=>ajA e n
  have noA:∀{b:Addr} {o:Obj} {es:Array DictEntry} {ep:Nat},s₁.heap.get? b=some o->o.data=.dict es ep->H b=none:=fun {b o es ep} e d=>by
   cases q:H b with
   |none=>rfl
   |some u=>
    have e':b=a:=hA b (by rw[q];simp)
    subst e'
    rw[ha] at e;cases e
    have d':Data.seq vs.toArray _=Data.dict es ep:=d
    cases d'
  have nsK:∀{b:Addr} {m:Str->Option Value},s₁.heap.Ns b m->(afL s₁.heap H).Ns b m:=fun {b m} ⟨o,es,ep,e,d,r⟩=>⟨o,es,ep,base_of e (noA e d),d,r⟩
  have hKb:K.In (afL s₁.heap H):=fun b o e=>base_of (KX b o e) (by
   cases q:H b with
   |none=>rfl
   |some u=>
    have e':b=a:=hA b (by rw[q];simp)
    subst e'
    rw[hK (by rw[q];simp)] at e;cases e)
  have hM:Mod K mg (afL s₁.heap H):=⟨hKb,nsK hns,⟨mb,nsK hb,hbb⟩,let ⟨mc,h1,h2⟩:=hlim;⟨mc,nsK h1,h2⟩⟩
  have e0:Env0 P w K mg (afL s₁.heap H) callerA [] s₁ H:=⟨rfl,hM,fun b o e=>alC e,Nat.le_of_eq (ah5 _ _),trivial,fun b hb=>absurd (show b∈([]:List Addr) from hb) (by simp),hok,.of_eq hg⟩
  refine codeAny_mono ((F _ hKb (nsK hns)).run callerA [] s₁ H ⟨[.ref a],[]⟩ [.ref a] [.ref a] _ _ hr e0 (hbind s₁ (.ref a)) (.cons rfl .nil) (hsp H hO hS)) fun r s' h=>?_
  cases r with
  |error e=>exact (hCX H e s' h).elim
  |ok fl=>
   cases fl with
   |next=>exact False.elim h
   |brk=>exact False.elim h
   |cont=>exact False.elim h
   |ret u=>
    obtain⟨v,H',os,bare,un,hok',r',q⟩:=h
    have q':v=.bl true:=q
    subst q'
    obtain rfl:u=Value.bool true:=r'
    refine⟨rfl,OldK.of_keep fun b o e=>?_,os,bare⟩
    cases q:H b with
    |none=>exact un.keep b o e q (by intro z;exact absurd (show b∈([]:List Addr) from z) (by simp)) (by simp)
    |some u=>
     rcases hO b with z | ⟨ob,xs,z⟩
     ·rw[q] at z;cases z
     ·have z2:=un.frzs b ob _ z
      obtain⟨e1,_⟩:=hok b _ z
      obtain⟨e2,_⟩:=hok' b _ z2
      rw[e] at e1;cases e1
      exact e2
 cases hk:K.lookup a with
 |some o=>
  -- the script is one of the module's own objects
  have e:=KX a o hk
  rw[ha] at e
  cases e
  refine core (fun _=>none) (fun _=>.inl rfl) (.inr ⟨_,vs.toArray,_,hk,rfl,rfl,rfl,by rw[List.size_toArray,lenV];exact hl,by simpa using rv⟩) (fun b u z=>by have z':(none:Option HO)=some u:=z;cases z') (fun b z=>absurd rfl z) fun z=>absurd rfl z
 |none=>
  refine core (fun b=>if b=a then some (.frz {cls:=.type "list",data:=.seq vs.toArray} (.lst (ns.map V.int))) else none) (fun b=>?_) (.inl (.inr ⟨{cls:=.type "list",data:=.seq vs.toArray},if_pos rfl⟩)) (fun b u z=>?_) (fun b z=>?_) fun _=>hk
  ·by_cases hb:b=a
   ·exact .inr ⟨_,_,if_pos hb⟩
   ·exact .inl (if_neg hb)
  ·by_cases hb:b=a
   ·have z':=(if_pos hb).symm.trans z
    cases z'
    subst hb
    exact⟨ha,by rw[List.length_map];exact hl,vs,_,rv,ha⟩
   ·have z':=(if_neg hb).symm.trans z
    cases z'
  ·by_cases hb:b=a
   ·exact hb
   ·exact absurd (if_neg hb) z
theorem walk_of{l:PySem.W.OpenLaw}{n k:Nat}{q:Program}{loose:List Str}{XP:(Str->Option Value)->Heap->Prop}{YP:World->Heap->Prop}{d:DefRec}{K:Params->PySem.W.Frag}{CX:World->CXT}{sp:World->Sp}{x:Str}
  (hn:l.most=some n) (hn2:n<=sizeLine) (hdf:d.params.defaults=[]) (hr:Room k callerA)
  (hY:∀(w:World) (h:Heap),YP w h->(K w.params).In h)
  (F:∀(w:World) (mg:Str->Option Value) (fa:Addr) (h:Heap),(K w.params).In h->h.Ns mainGlobals mg->mg d.name=some (.ref fa)->
   ∃fd:FuncData,(∀(s:Shared) (u:Value),BindsTo s fd ⟨[u],[]⟩ [(x,u)])/\
    ∀base:Heap,(K w.params).In base->base.Ns mainGlobals mg->FnOk l.prog w (K w.params) mg base (CX w) k fa fd [x] (sp w))
  (hsp:∀(w:World) (H:Hp) (a:Addr) (ns:List Int),ns.length<=n->am1 H->SqL (K w.params) H a (ns.map V.int)->sp w [.ref a] H (fun v _=>v=.bl true) fun _ _ _=>False)
  (hCX:∀(w:World) (H:Hp) (s:Shared) (e:Value) (s':Shared),CX w [] H s (fun _ _ _=>False) e s'->False):
  PySem.W.WalkO q loose XP YP l.row.toRowW d [] (fun f vs=>PySem.call f vs):=by
 refine Att.attach_call hn hdf fun w s₀ s₁ mg mb fa o pm cd doc a vs ns G Y ho hd hcd hmg hobj hints hlen hg=>?_
 have KX:=hY w _ Y
 obtain⟨fd,hb,hF⟩:=F w mg fa _ KX G.T.g hmg
 exact ajU KX G.T.g G.T.b G.T.builtins G.T.nolimit hg hobj hints (Nat.le_trans hlen hn2) hr hF hb (fun H hO hS=>hsp w H a ns hlen hO hS) fun H e s'=>hCX w H s₁ e s'
end L2
/- THE LAST THEOREM (shape;LID,My.* are yours):
 My.Adr:a structure of the addresses that your layer names (classes,functions);My.Txt K t:a structure (Prop) of the equations over K;
 My.txt_mk:{K} {implicit addresses ..} (e1:nsIn K mainGlobals "law"=some (some (.ref f))) (e2:K.lookup f=some ⟨oc,od,.func (fnOf "law" "law" params body scope dV kV doc pm an cdv ct),sl⟩) (e3:codeIn K cdv "law"=true) .. :∃t,My.Txt K t
set_option maxRecDepth 100000 in
set_option maxHeartbeats 0 in
theorem PySem.Challenge.cw_LID_holds : PySem.Challenge.rw_LID.Holds := by
 w_on;o_law;k_head;(case hw=>w_witness2)
 k_fill
 refine L2.walk_of (l:=PySem.Challenge.rw_LID) (n:=63) (k:=40) (x:="script") (CX:=fun w=>..) (sp:=fun _=>My.sp_law) rfl (by decide) rfl ⟨rfl,by decide,by decide⟩ (fun w h Y=>PySem.W.kIn_of Y) ?F ?S ?C
 case F=>
  intro w mg fa h KX G hmg
  have T:∃t,My.Txt (L2.KOf KX) t:=by
   dsimp only[L2.KOf]                          -- K must stand as «<heap const> w.params» for k_is
   refine' My.txt_mk ?e1 ?e2 ?e3 ..
   (case e1=>PySem.W.k_is)                    -- in the order:a name->its address->its object->its parts
   (case e2=>PySem.W.k_is)
   ..
  obtain⟨t,T⟩:=T
  have e0:=hmg.symm.trans (PySem.W.mg_of KX G T.law)
  cases e0                                       -- fa is the law's own address
  exact⟨_,fun s u=>.of_eq rfl,fun base kb nb=>My.law_fn T kb nb⟩     -- if «.of_eq rfl» comes too early:refine' ⟨_,?b,fun base kb nb=>My.law_fn T kb nb⟩;exact fun s u=>.of_eq rfl
 case S=>exact fun w H a ns hl hO hS=>..
 case C=>exact ..
(the tactic k_is has no namespace:write k_is) -/
namespace L2
open PySem PySem.Spec PyProof.Rows
def ak8(s:Stmt)(j:Nat):Stmt:=match s with
 |.ClassDef _ _ _ body _ _ _ _ _ _ _=>body.getD j (.Pass ⟨0,0,0,0⟩)
 |_=>.Pass ⟨0,0,0,0⟩
def abD(s:Stmt):Arguments:=match s with
 |.FunctionDef _ a _ _ _ _ _ _ _ _=>a
 |_=>{posonlyargs:=[],args:=[],vararg:=none,kwonlyargs:=[],kw_defaults:=[],kwarg:=none,defaults:=[]}
def aaS(s:Stmt):List Stmt:=match s with
 |.FunctionDef _ _ b _ _ _ _ _ _ _=>b
 |_=>[]
def aaD(s:Stmt):Scope:=match s with
 |.FunctionDef _ _ _ _ _ _ sc _ _ _=>sc
 |_=>{kind:=.function,names:=[],isGenerator:=false,isCoroutine:=false}
abbrev CX0:CXT:=fun _ _ _ _ _ _=>False
abbrev E0:XK:=fun _ _ _=>False
theorem aoX{X:Cx}:aeE CX0 X E0:=fun _ _ _ _ _ _ _ h=>h.elim
structure Fun(K:PySem.W.Frag)(x qual:Str)(st:Stmt)(f:Addr)(fd:FuncData):Prop where
 ex:∃(oc:Value) (od:Option Addr) (kV doc pm:Value) (an:Option Addr) (cdv ct:Value) (osl:Array (Option Value)),
  fd=PySem.W.fnOf x qual (abD st) (aaS st) (aaD st) .none kV doc pm an cdv ct/\K.lookup f=some ⟨oc,od,.func fd,osl⟩/\PySem.W.codeIn K cdv qual=true
 kp:PySem.W.keepIn K (.ref f)=true
section
variable{P:Program}{w:World}{K:PySem.W.Frag}{mg:Str->Option Value}{base:Heap}
theorem Fun.ok{x qual:Str}{st:Stmt}{f:Addr}{fd:FuncData}{N ps:List Str}{k:Nat}{sp:Sp}(F:Fun K x qual st f fd)(S:FnScope N ps (aaD st))(len:∀vs H Q E,sp vs H Q E->vs.length=ps.length)
  (hbody:∀(cdv:Value) (A:Around) (outer:List Env) (s:Shared) (H:Hp) (vs:List V) (Q:VK) (E:XK),Room k (A.deeper (envOfC qual (aaD st) s.heap.objs.size f cdv))->sp vs H Q E->
   ∃t,PSs (abT CX0 P w K mg base N qual (aaD st) f cdv A outer s H E).nox (aaS st) t/\t {nx:=fun _ H'=>Q .non H',rt:=Q} (abC N vs) H):FnOk P w K mg base CX0 (k+1) f fd ps sp:=by
 obtain⟨oc,od,kV,doc,pm,an,cdv,ct,osl,rfl,lk,hcd⟩:=F.ex
 refine al1 lk hcd S len fun A outer s H vs Q E hr hsp=>?_
 obtain⟨t,h,q⟩:=hbody cdv A outer s H vs Q E hr hsp
 exact⟨t,h.nox,q⟩
theorem Fun.binds{x qual:Str}{st:Stmt}{f:Addr}{fd:FuncData}{ps:List Str}(F:Fun K x qual st f fd)
  (h:∀(kV doc pm:Value) (an:Option Addr) (cdv ct:Value) (us:List Value),us.length=ps.length->bindArgs (PySem.W.fnOf x qual (abD st) (aaS st) (aaD st) .none kV doc pm an cdv ct) ⟨us,[]⟩=pure (ps.zip us)):Binds K fd ps []:=by
 obtain⟨oc,od,kV,doc,pm,an,cdv,ct,osl,rfl,lk,hcd⟩:=F.ex
 exact .all (h kV doc pm an cdv ct)
theorem ag5{x qual:Str}{st:Stmt}{f:Addr}{oc:Value}{od an:Option Addr}{osl:Array (Option Value)}{kV doc pm cdv ct:Value}(l:K.lookup f=some ⟨oc,od,.func (PySem.W.fnOf x qual (abD st) (aaS st) (aaD st) .none kV doc pm an cdv ct),osl⟩)
  (c:PySem.W.codeIn K cdv qual=true) (k:PySem.W.keepIn K (.ref f)=true):Fun K x qual st f (PySem.W.fnOf x qual (abD st) (aaS st) (aaD st) .none kV doc pm an cdv ct):=⟨⟨oc,od,kV,doc,pm,an,cdv,ct,osl,rfl,l,c⟩,k⟩
end
section
variable{X:Cx}
end
theorem aa2{A B:Prop}(h:B):if false=true then A else B:=by
 rw[if_neg Bool.false_ne_true]
 exact h
theorem abY{A B:Prop}(h:A):if true=true then A else B:=by
 rw[if_pos rfl]
 exact h
theorem anG{c A B:Prop}[Decidable c](h1:c->A)(h2:¬c->B):if c then A else B:=by
 by_cases h:c
 ·rw[if_pos h]
  exact h1 h
 ·rw[if_neg h]
  exact h2 h
def Same(H H':Hp):Prop:=∀b o,H b=some o->H' b=some o
theorem Same.refl(H:Hp):Same H H:=fun _ _ h=>h
theorem Same.trans{H H1 H2:Hp}(a:Same H H1)(b:Same H1 H2):Same H H2:=fun c o h=>b c o (a c o h)
theorem Same.free{H H':Hp}(e:Same H H'){l:Addr}(h:H' l=Option.none):H l=Option.none:=by
 cases q:H l with
 |none=>rfl
 |some o=>
  rw[e l o q] at h
  cases h
theorem Same.seq{K:PySem.W.Frag}{H H':Hp}{a:Addr}{xs:List V}(e:Same H H')(h:SqL K H a xs):SqL K H' a xs:=by
 rcases h with (h | ⟨o,h⟩) | h
 ·exact .inl (.inl (e _ _ h))
 ·exact .inl (.inr ⟨o,e _ _ h⟩)
 ·exact .inr h
section
variable{X:Cx}
end
structure Df(P:Program)(w:World)(K:PySem.W.Frag)(mg:Str->Option Value)(base:Heap)(x:Str)(k:Nat)(ps:List Str)(sp:Sp):Prop where
 ex:∃(f:Addr) (fd:FuncData),FnOk P w K mg base CX0 k f fd ps sp/\Binds K fd ps []/\mg x=some (.ref f)/\PySem.W.keepIn K (.ref f)=true
structure Fn(K:PySem.W.Frag)(mg:Str->Option Value)(x:Str)(st:Stmt)(ps:List Str):Prop where
 ex:∃(f:Addr) (fd:FuncData),Fun K x x st f fd/\Binds K fd ps []/\mg x=some (.ref f)
section
variable{P:Program}{w:World}{K:PySem.W.Frag}{mg:Str->Option Value}{base:Heap}{x:Str}{st:Stmt}{ps N:List Str}{k:Nat}{sp:Sp}
theorem Fn.df(F:Fn K mg x st ps)(S:FnScope N ps (aaD st))(len:∀vs H Q E,sp vs H Q E->vs.length=ps.length)
  (hbody:∀(f:Addr) (cdv:Value) (A:Around) (outer:List Env) (s:Shared) (H:Hp) (vs:List V) (Q:VK) (E:XK),Room k (A.deeper (envOfC x (aaD st) s.heap.objs.size f cdv))->sp vs H Q E->
   ∃t,PSs (abT CX0 P w K mg base N x (aaD st) f cdv A outer s H E).nox (aaS st) t/\t {nx:=fun _ H'=>Q .non H',rt:=Q} (abC N vs) H):Df P w K mg base x (k+1) ps sp:=by
 obtain⟨f,fd,F1,hb,hm⟩:=F.ex
 exact⟨⟨f,fd,F1.ok S len (hbody f),hb,hm,F1.kp⟩⟩
theorem aa5{h:Heap}{f:Addr}{oc:Value}{od an:Option Addr}{osl:Array (Option Value)}{kV doc pm cdv ct:Value}(X:K.In h)(G:h.Ns mainGlobals mg)
  (a:PySem.W.nsIn K mainGlobals x=some (some (.ref f))) (l:K.lookup f=some ⟨oc,od,.func (PySem.W.fnOf x x (abD st) (aaS st) (aaD st) .none kV doc pm an cdv ct),osl⟩)
  (c:PySem.W.codeIn K cdv x=true) (k:PySem.W.keepIn K (.ref f)=true)
  (hb:∀(kV doc pm:Value) (an:Option Addr) (cdv ct:Value) (us:List Value),us.length=ps.length->bindArgs (PySem.W.fnOf x x (abD st) (aaS st) (aaD st) .none kV doc pm an cdv ct) ⟨us,[]⟩=pure (ps.zip us)):Fn K mg x st ps:=by
 have F:=ag5 (st:=st) l c k
 exact⟨⟨f,_,F,F.binds (ps:=ps) hb,PySem.W.mg_of X G a⟩⟩
end
section
variable{X:Cx}
theorem aj1{x:Str}{k k':Nat}{ps:List Str}{sp:Sp}{e:Expr}{es:List Expr}{t:TA}{p pos:Pos}(D:Df X.prog X.w X.K X.mg X.base x k ps sp)(hr:Room k' X.A)(ha:PA X (e::es) t)(hk:k<=k':=by decide)(hg:Gl X x:=by rfl)
  (hdb:(x==("__debug__":Str))=false:=by decide) (he:starEach (e::es) X.env=(false,eval e X.env)::starEach es X.env:=by rfl) (hpl:(backTo pos (starEach es X.env)).any (·.1)=false:=by rfl):
  PE X (.Call (.Name x p) (e::es) [] pos) (agA sp [] E0 t):=by
 obtain⟨f,fd,F,hb,hm,kp⟩:=D.ex
 exact ahU F (hr.mono hk) hg hm kp hb .nil aoX ha hdb he hpl
end
theorem aaB{H:Hp}{p:Addr}(h:H p=none)(o:HO):Same H (upd H p o):=fun b u q=>by rw[aaH (aaG q h)];exact q
theorem int_eq{a b:Int}:(V.int a=V.int b)↔a=b:=⟨fun h=>V.int.inj h,fun h=>by rw[h]⟩
theorem ifI{a b:Int}{A B:Prop}(h1:a=b->A)(h2:¬a=b->B):if decide (V.int a=V.int b)=true then A else B:=
 anG (fun c=>h1 (int_eq.mp (of_decide_eq_true c))) (fun c=>h2 fun e=>c (decide_eq_true (int_eq.mpr e)))
theorem ifD{c:Prop}[Decidable c]{A B:Prop}(h1:c->A)(h2:¬c->B):if decide c=true then A else B:=
 anG (fun q=>h1 (of_decide_eq_true q)) (fun q=>h2 fun e=>q (decide_eq_true e))
theorem ao8{a b:Int}{A B:Prop}(e:a=b)(h:B):if (!decide (V.int a=V.int b))=true then A else B:=by
 rw[decide_eq_true (int_eq.mpr e)];exact aa2 h
def agF:Expr->Option Int
 |.Constant (.int i) _ _=>some i
 |_=>none
def al0(is:List Int):TA:=fun _ H Q=>Q (is.map V.int) H
theorem ah2{X:Cx}:∀{es:List Expr} (is:List Int),es.map agF=is.map some->PA X es (al0 is)
 |[],[],_=>ac6
 |[],_::_,h=>by cases h
 |_::_,[],h=>by cases h
 |e::es,i::is,h=>by
  have h1:agF e=some i:=(List.cons.inj h).1
  have h2:es.map agF=is.map some:=(List.cons.inj h).2
  obtain⟨j,pos,rfl⟩:∃j pos,e=.Constant (.int i) j pos:=by
   unfold agF at h1
   split at h1
   ·cases h1
    exact⟨_,_,rfl⟩
   ·cases h1
  exact ab8 ajM (ah2 is h2)
structure Clos(X:Cx)(scope:Scope)(cl:List (Str×Addr)):Prop where
 is:closureFor scope X.env=pure cl
 sub:∀y c,cl.lookup y=some c->X.env.cells.lookup y=some c
 has:∀y,scope.names.lookup y=some .free->∃c,cl.lookup y=some c
 nocell:∀y∈scope.names,y.2≠ .cell
 kind:scope.kind=.function
 names:∀y∈scope.names,y.2=.local->scope.names.lookup y.1=some .local
def aaT(X:Cx)(N:List Str)(scope:Scope)(cl:List (Str×Addr))(C:Addr)(ex:List Addr)(pins:List (Addr×Obj))(s:Shared)(H:Hp):Cx:=
 {X with N:=N,s₀:=s,H₀:=H,env:=compEnvC scope cl C X.env,outer:=X.stack,stack:=X.stack,ex:=ex,fn:=fun _=>false,pn:=X.pn++pins,xe:=fun _ _=>False}
def aa8(js:List Nat)(σ:St):St:=js.map fun j=>(σ[j]?).getD none
def ahL(ifs:List Expr)(env:Env):Sem Bool:=
 forIn ifs true fun c r=>if r=true then (do let ok ←isTrue c env (eval c env);pure (ForInStep.yield ok)) else pure (ForInStep.yield r)
def PF(X:Cx)(ifs:List Expr)(t:TT):Prop:=
 ∀(pins:List (Addr×Obj)) (s:Shared) (σ:St) (H:Hp) (Q:Bool->Hp->Prop),Inv X pins σ H s->t σ H Q->
  wpAny (model X.prog X.w) X.A (ahL ifs X.env) (TP X pins σ Q) X.xe s
def ap9:TT:=fun _ H Q=>Q true H
theorem anX{X:Cx}:PF X [] ap9:=fun _ _ _ H _ I h=>wpAny_tests_nil ⟨H,I,h⟩
def ah0(J:It)(js:List Nat)(σ:St)(tt:TT)(te:TE)(Q:VK)(H1:Hp):Prop:=∀D,H1 D=none->∃W:Nat->Nat->Hp->Prop,(∃m,W 0 m (upd H1 D (.lst [])))/\∀i m H2,W i m H2->
 (J.stop i H2/\Q (.ref D) H2)∨(J.go i H2/\∀v H3,J.yld i H2 v H3->tt (some v::aa8 js σ) H3 fun b H4=>if b=true then
  te (some v::aa8 js σ) H4 fun y H5=>∃ys,H5 D=some (.lst ys)/\ys.length<sizeLine/\∃m',m'<m/\W (i+1) m' (upd H5 D (.lst (ys++[y])))
  else ∃m',m'<m/\W (i+1) m' H4)
def ajG(wi:TI)(js:List Nat)(tt:TT)(te:TE):TE:=fun σ H Q=>wi σ H fun J H1=>ah0 J js σ tt te Q H1
def afD(env:Env)(n:Str)(k:NameKind):NameKind:=if (k==NameKind.free&&env.scope.kind== .function&&env.kindOf n==some .cell) then .cell else k
theorem akH{env:Env}{n:Str}{k:NameKind}:(if (k==NameKind.free&&env.scope.kind== .function&&env.kindOf n==some .cell) then (n,NameKind.cell) else (n,k))=(n,afD env n k):=by
 unfold afD
 split<;>rfl
theorem ab0{env:Env}:∀(names:List (Str×NameKind)) (x:Str),(relabel {kind:=.function,names:=names,isGenerator:=false,isCoroutine:=false} env).names.lookup x=(names.lookup x).map (afD env x)
 |[],_=>rfl
 |(n,k)::r,x=>by
  have ih:=ab0 (env:=env) r x
  unfold relabel at ih ⊢
  dsimp only at ih ⊢
  rw[List.map_cons]
  dsimp only
  rw[akH,List.lookup_cons,List.lookup_cons,ih]
  cases hx:x==n with
  |true=>
   have e:x=n:=by simpa using hx
   rw[e]
   rfl
  |false=>rfl
theorem acO{env:Env}(scope:Scope)(x:Str):(relabel scope env).names.lookup x=(scope.names.lookup x).map (afD env x):=ab0 scope.names x
theorem aiT{env:Env}{x:Str}{o:Option NameKind}(hc:o≠some .cell)(h:o.map (afD env x)=some .cell∨o.map (afD env x)=some .free):o=some .free:=by
 cases o with
 |none=>rcases h with h | h<;>cases h
 |some k=>
  by_cases e:k=.free
  ·rw[e]
  ·have z:afD env x k=k:=by
    unfold afD
    have e':(k==NameKind.free)=false:=by simpa using e
    rw[e']
    rfl
   rw[Option.map_some,z] at h
   rcases h with h | h
   ·exact absurd h hc
   ·exact h
theorem ae8{env:Env}{scope:Scope}{x:Str}(h:scope.names.lookup x=some .free):(relabel scope env).names.lookup x=some .cell∨(relabel scope env).names.lookup x=some .free:=by
 rw[acO,h,Option.map_some]
 unfold afD
 split
 ·exact .inl rfl
 ·exact .inr rfl
section
variable{X:Cx}{elt iter:Expr}{x:Str}{px pos:Pos}{ifs:List Expr}{scope:Scope}{cl:List (Str×Addr)}{N':List Str}{js:List Nat}{tt:TT}{te:TE}
theorem ahC{pins:List (Addr×Obj)}{σ:St}{H:Hp}{s s4:Shared}{fp:List Addr}{C:Addr}{m4:Str->Option Value}(hcl:Clos X scope cl)(hN:js.map (fun j=>X.N[j]?)=N'.map some)
  (hk:N'.all (fun y=>(X.env.kindOf y==some .cell)||(X.env.kindOf y==some .free))=true) (hf:N'.all (fun y=>scope.names.lookup y==some .free)=true)
  (I:Inv X pins σ H s) (hfp:∀b∈fp,acR X pins H b/\b<s.heap.objs.size) (hC:C=s.heap.objs.size) (ho:s4.os=s.os) (hg:s4.gens=s.gens) (hkeep:∀b o,s.heap.get? b=some o->s4.heap.get? b=some o) (hn:s4.heap.Ns C m4):
  Inv (aaT X (x::N') scope cl C fp pins s H) [] (none::aa8 js σ) H s4:=by
 have hne:∀b o,s.heap.get? b=some o->b≠C:=fun b o e=>by rw[hC];exact Nat.ne_of_lt (Heap.lt_size e)
 refine⟨⟨I.ok.mod,hcl.kind,I.ok.glob,I.ok.blt,Nat.le_of_eq hC.symm,fun y z c h1 h2=>I.ok.inj y z c (hcl.sub y c h1) (hcl.sub z c h2),fun y hy=>hcl.has y (aiT (fun z=>hcl.nocell _ (PySem.mem_of_lookup z) rfl) (by rw[←acO];exact hy)),fun y c h _=>(nomatch h),I.ok.hd,I.ok.frames,.inl rfl,fun b hb=>⟨?_,fun y c e=>(hfp b hb).1.2.2.2.2.1 y c (hcl.sub y c e)⟩,
  I.bs,Nat.le_trans I.ok.bsz I.sz,fun b o e hb=>?_,fun b hb hz=>?_,I.stack,I.stkFree⟩,ho,by rw[hg];exact I.bare,Un.kept hkeep,⟨m4,hn,fun i y v h1 h2 h3=>?_⟩,fun y c e=>?_,?_,fun y c e=>I.freeC y c (hcl.sub y c e),fun p hp=>?_,I.hok.kept hkeep,?_⟩
 ·rw[hC];exact Nat.ne_of_lt (hfp b hb).2
 ·rcases (hfp b hb).1.2.2.2.1 with z | z
  ·exact I.ok.noex b o e z
  ·exact absurd (Nat.lt_of_lt_of_le (Heap.lt_size e) (Nat.le_trans I.ok.bsz z)) (Nat.lt_irrefl _)
 ·rcases List.mem_cons.mp (I.stkSub b hz) with z | z
  ·exact (hfp b hb).1.2.1 z
  ·exact (hfp b hb).1.2.2.1 z
 ·match i,h1,h2 with
  |0,_,h2=>exact nomatch h2
  |i+1,h1,h2=>
   have h1:N'[i]? =some y:=h1
   have h2:(aa8 js σ)[i]? =some (some v):=h2
   have hy:y∈N':=List.mem_of_getElem? h1
   have q:(js.map (fun j=>X.N[j]?))[i]? =some (some y):=by rw[hN,List.getElem?_map,h1];rfl
   rw[List.getElem?_map] at q
   cases ej:js[i]? with
   |none=>rw[ej] at q;cases q
   |some j=>
    rw[ej] at q
    have q:X.N[j]? =some y:=Option.some.inj q
    unfold aa8 at h2
    rw[List.getElem?_map,ej] at h2
    have h2:(σ[j]?).getD none=some v:=Option.some.inj h2
    have h2:σ[j]? =some (some v):=by
     cases e:σ[j]? with
     |none=>rw[e] at h2;cases h2
     |some o=>rw[e] at h2;exact congrArg some h2
    have kk:=List.all_eq_true.mp hk y hy
    have kk:X.env.kindOf y=some .cell∨X.env.kindOf y=some .free:=by simpa using kk
    have ff:=List.all_eq_true.mp hf y hy
    have ff:scope.names.lookup y=some .free:=by simpa using ff
    obtain⟨m,_,hl⟩:=I.loc
    obtain⟨u,r,l⟩:=hl j y v q h2 (by rcases kk with z | z;exact .inr (.inl z);exact .inr (.inr z))
    refine⟨u,r,.inr ⟨ae8 ff,?_⟩⟩
    obtain⟨c,hc⟩:=hcl.has y ff
    rcases l with ⟨z,_⟩ | ⟨_,c',e',cell⟩
    ·rcases kk with k | k<;>(rw[k] at z;cases z)
    ·rw[hcl.sub y c hc] at e'
     cases e'
     exact⟨c,hc,cell.keeps hkeep⟩
 ·obtain⟨v,q⟩:=I.cell y c (hcl.sub y c e)
  exact⟨v,q.keeps hkeep⟩
 ·show H C=none
  rw[hC]
  exact I.hok.fresh (Nat.le_refl _)
 ·have hp:p∈X.pn++pins:=by
   have hp:p∈(X.pn++pins)++[]:=hp
   rwa [List.append_nil] at hp
  obtain⟨e,n,ne,nf,d⟩:=I.pin p hp
  refine⟨hkeep _ _ e,n,hne _ _ e,fun z=>?_,d⟩
  rcases List.mem_cons.mp (I.stkSub p.1 z) with z | z
  ·exact ne z
  ·exact nf z
 ·show (aa8 js σ).length+1=N'.length+1
  have q:=congrArg List.length hN
  rw[List.length_map,List.length_map] at q
  unfold aa8
  rw[List.length_map,q]
end
theorem agR{prog:Program}{w:World}{A:Around}{R:Result->Shared->Prop}{s:Shared}{elt tg iter:Expr}{ifs:List Expr}{scope:Scope}{pos:Pos}{it acc:Value}{env:Env}{EN:Value->Shared->Prop}
  (hEN:EN=notedBy (model prog w) A env fun e s'=>R (.error e) s') (B:Nat->Shared->Prop)
  (turn:∀n s,B n s->wpAny (model prog w) A (pyNext it) (fun r s₁=>match r with
   |none=>R (.ok .next) s₁
   |some v=>wpAny (model prog w) A (letOwnedTupleGo tg it v) (fun _ s₂=>wpAny (model prog w) A (assign tg env v) (fun _ s₃=>
     wpAny (model prog w) A (ahL ifs env) (fun ok s₄=>
      if ok=true then wpAny (model prog w) A (eval elt env) (fun z s₅=>wpAny (model prog w) A (call (.builtin "list.append") [acc,z]) (fun _ s₆=>∃m,m<n/\B m s₆) EN s₅) EN s₄
      else ∃m,m<n/\B m s₄) EN s₃) EN s₂) EN s₁) EN s) (n:Nat) (h:B n s):
  codeAny (model prog w) A (.compLoop (.ListComp elt [⟨tg,iter,ifs,0⟩] scope pos) 0 it acc env) R s:=by
 subst hEN
 refine codeAny_loop rfl B (fun n s hI=>?_) n h
 refine wpAny_noted (m:=compTurn (.ListComp elt [⟨tg,iter,ifs,0⟩] scope pos) 0 it acc env) ?_
 rw[compTurn_list]
 refine wpAny_bind (wpAny_standAt (wpAny_bind (wpAny_mono (turn n s hI) (fun r s₁ h₁=>?_) fun _ _ z=>z)))
 cases r with
 |none=>exact wpAny_pure h₁
 |some v=>
  refine wpAny_bind (wpAny_mono h₁ (fun _ s₂ h₂=>?_) fun _ _ z=>z)
  refine wpAny_bind (wpAny_mono h₂ (fun _ s₃ h₃=>?_) fun _ _ z=>z)
  refine wpAny_bind (wpAny_mono h₃ (fun ok s₄ h₄=>?_) fun _ _ z=>z)
  cases ok with
  |false=>exact wpAny_pure ⟨rfl,h₄⟩
  |true=>
   refine wpAny_bind (wpAny_bind (wpAny_mono h₄ (fun z s₅ h₅=>?_) fun _ _ q=>q))
   exact wpAny_bind (wpAny_mono h₅ (fun _ s₆ h₆=>wpAny_pure (wpAny_pure ⟨rfl,h₆⟩)) fun _ _ q=>q)
section
variable{X:Cx}{elt iter:Expr}{x:Str}{px pos:Pos}{ifs:List Expr}{scope:Scope}{cl:List (Str×Addr)}{N':List Str}{js:List Nat}{tt:TT}{te:TE}
theorem akE{pins:List (Addr×Obj)}{σ σ':St}{H H':Hp}{s s':Shared}{fp:List Addr}{C:Addr}(I:Inv X pins σ H s)(hfp:∀b∈fp,acR X pins H b)(J:Inv (aaT X (x::N') scope cl C fp pins s H) [] σ' H' s'):Inv X pins σ H' s':=
 I.call' (ch:=fp) J.os J.base J.hok J.bare fun b hb=>⟨(hfp b hb).2.2.2.1,(hfp b hb).2.1,(hfp b hb).2.2.2.2.1,(hfp b hb).2.2.2.2.2⟩
theorem aeD{pins:List (Addr×Obj)}{σ:St}{H:Hp}{s:Shared}{Q:VK}{RR:Value->Addr->Result->Shared->Prop}{J:It}{fp:List Addr}{it:Addr}{tn:Nat->Heap->Prop}
  (hcl:Clos X scope cl) (hx:scope.names.lookup x=some .local) (hnd:(x::N').Nodup) (hN:js.map (fun j=>X.N[j]?)=N'.map some)
  (hk:N'.all (fun y=>(X.env.kindOf y==some .cell)||(X.env.kindOf y==some .free))=true) (hf:N'.all (fun y=>scope.names.lookup y==some .free)=true) (hc:X.calm=true)
  (ht:∀(C:Addr) (ex:List Addr) (pins:List (Addr×Obj)) (s:Shared) (H:Hp),PF (aaT X (x::N') scope cl C ex pins s H) ifs tt)
  (he:∀(C:Addr) (ex:List Addr) (pins:List (Addr×Obj)) (s:Shared) (H:Hp),PE (aaT X (x::N') scope cl C ex pins s H) elt te)
  (I:Inv X pins σ H s) (T:Turn X.prog X.w X.K (.Name x px) J fp it tn) (st:tn 0 s.heap) (hfp:∀b∈fp,acR X pins H b)
  (q:∀D,H D=none->∃W:Nat->Nat->Hp->Prop,(∃m,W 0 m (upd H D (.lst [])))/\∀i m H2,W i m H2->
   (J.stop i H2/\Q (.ref D) H2)∨(J.go i H2/\∀v H3,J.yld i H2 v H3->tt (some v::aa8 js σ) H3 fun b H4=>if b=true then
    te (some v::aa8 js σ) H4 fun y H5=>∃ys,H5 D=some (.lst ys)/\ys.length<sizeLine/\∃m',m'<m/\W (i+1) m' (upd H5 D (.lst (ys++[y])))
    else ∃m',m'<m/\W (i+1) m' H4))
  (hRR:∀(D C:Addr) (s':Shared) (H':Hp) (m:Str->Option Value),Inv X pins σ H' s'->H' C=none->C≠X.env.locals->X.s₀.heap.objs.size<=C->(∀y c,X.env.cells.lookup y=some c->c≠C)->(∀p∈X.pn++pins,p.1≠C)->s'.heap.Ns C m->Q (.ref D) H'->RR (.ref D) C (.ok .next) s'):
  wpAny (model X.prog X.w) X.A (newList []) (fun acc s₃=>wpAny (model X.prog X.w) X.A (newFunctionEnv scope X.env.globals cl [] X.env.qual none .none (some X.env)) (fun cenv s₄=>
   codeAny (model X.prog X.w) X.A (.compStart (.ListComp elt [⟨.Name x px,iter,ifs,0⟩] scope pos) 0 (.ref it) acc {cenv with scope:=relabel scope X.env}) (RR acc cenv.locals) s₄) X.xe s₃) X.xe s:=by
 refine wpAny_newObj_type ?_
 have hD:H s.heap.objs.size=none:=I.hok.fresh (Nat.le_refl _)
 have I3:Inv X pins σ (upd H s.heap.objs.size (.lst [])) {s with heap:=s.heap.push {cls:=.type "list",dict:=none,data:=.seq ([]:List Value).toArray} }:=I.lnew (its:=[]) (t':=s.toks) .nil (Nat.zero_le _)
 have hfp3:∀b∈fp,acR X pins (upd H s.heap.objs.size (.lst [])) b/\b<(s.heap.push {cls:=.type "list",dict:=none,data:=.seq ([]:List Value).toArray}).objs.size:=fun b hb=>by
  obtain⟨o,ho,_⟩:=T.obj 0 _ st b hb
  have hlt:=Heap.lt_size ho
  obtain⟨f0,f1⟩:=hfp b hb
  exact⟨⟨by rw[aaH (Nat.ne_of_lt hlt)];exact f0,f1⟩,by rw[Heap.size_push];exact Nat.lt_succ_of_lt hlt⟩
 have st3:tn 0 (s.heap.push {cls:=.type "list",dict:=none,data:=.seq ([]:List Value).toArray}):=T.keep _ _ _ st fun b _ o e=>Heap.get?_push_of_some _ e
 obtain⟨W,⟨m0,w0⟩,turn⟩:=q s.heap.objs.size hD
 generalize hs3:({s with heap:=s.heap.push {cls:=.type "list",dict:=none,data:=.seq ([]:List Value).toArray} }:Shared)=s3 at I3 ⊢
 have hh3:s.heap.push {cls:=.type "list",dict:=none,data:=.seq ([]:List Value).toArray}=s3.heap:=by rw[←hs3]
 rw[hh3] at hfp3 st3
 generalize s.heap.objs.size=D at I3 hfp3 w0 turn hD ⊢
 generalize upd H D (.lst [])=H3 at I3 hfp3 w0
 refine wpAny_newFunctionEnv hcl.nocell (by intro y hy;simp at hy) (fun h₁ hns₁ hsb₁=>?_) hcl.kind
 have hkeep:∀b o,s3.heap.get? b=some o->h₁.get? b=some o:=fun b o e=>hsb₁.extBut b o (Nat.ne_of_lt (Heap.lt_size e)) (Heap.get?_push_of_some _ e)
 have J4:Inv (aaT X (x::N') scope cl s3.heap.objs.size fp pins s3 H3) [] (none::aa8 js σ) H3 {s3 with heap:=h₁,toks:=s3.toks+([]:List (Str×Value)).length}:=
  ahC hcl hN hk hf I3 hfp3 rfl rfl rfl hkeep hns₁
 have st4:tn 0 h₁:=T.keep _ _ _ st3 fun b _ o e=>hkeep b o e
 have cell':∀{s':Shared} {σ':St} {H':Hp},Inv (aaT X (x::N') scope cl s3.heap.objs.size fp pins s3 H3) [] σ' H' s'->Q (.ref D) H'->RR (.ref D) s3.heap.objs.size (.ok .next) s':=fun {s' σ' H'} J hq=>by
  obtain⟨m,hn,_⟩:=J.loc
  refine hRR D _ s' H' m (akE I3 (fun b hb=>(hfp3 b hb).1) J) J.free (Nat.ne_of_gt I3.lt) I3.sz (fun y c e z=>?_) (fun p hp z=>?_) hn hq
  ·obtain⟨v,k⟩:=I3.cell y c e
   exact absurd k.lt (by rw[z];exact Nat.lt_irrefl _)
  ·exact absurd (Heap.lt_size (I3.pin p hp).1) (by rw[z];exact Nat.lt_irrefl _)
 have fpX:∀{H':Hp},(∀b∈fp,H' b=none)->∀b∈fp,acR (aaT X (x::N') scope cl s3.heap.objs.size fp pins s3 H3) [] H' b:=fun {H'} hn b hb=>by
  obtain⟨⟨f0,f1,f2,f3,f4,f5⟩,flt⟩:=hfp3 b hb
  refine⟨hn b hb,Nat.ne_of_lt flt,fun z=>?_,.inl hb,fun y c e=>f4 y c (hcl.sub y c e),fun p hp=>?_⟩
  ·rcases List.mem_cons.mp (I3.stkSub b z) with z | z
   ·exact f1 z
   ·exact f2 z
  ·have hp:p∈(X.pn++pins)++[]:=hp
   rw[List.append_nil] at hp
   exact f5 p hp
 have loop:∀s₄:Shared,s₄={s3 with heap:=h₁,toks:=s3.toks+([]:List (Str×Value)).length}->
   codeAny (model X.prog X.w) X.A (.compLoop (.ListComp elt [⟨.Name x px,iter,ifs,0⟩] scope pos) 0 (.ref it) (.ref D) (compEnvC scope cl s3.heap.objs.size X.env)) (RR (.ref D) s3.heap.objs.size) s₄:=by
  rintro s₄ rfl
  refine agR rfl (fun n s'=>∃i σ0 H',Inv (aaT X (x::N') scope cl s3.heap.objs.size fp pins s3 H3) [] (σ0::aa8 js σ) H' s'/\tn i s'.heap/\(∀b∈fp,H' b=none)/\W i n H') ?_ m0 ⟨0,none,H3,J4,st4,fun b hb=>(hfp3 b hb).1.1,w0⟩
  rintro n s5 ⟨i,σ0,H5,J5,st5,fr5,w5⟩
  rcases turn i n H5 w5 with ⟨stop,qn⟩ | ⟨go,step⟩
  ·refine wpAny_mono (T.done (aaT X (x::N') scope cl s3.heap.objs.size fp pins s3 H3) rfl rfl rfl hc i [] s5 _ H5 (fun _ _=>False) J5 (fpX fr5) st5 stop) (fun r s6 ⟨hr,J6⟩=>?_) fun _ _ z=>z.elim
   subst hr
   exact cell' J6 qn
  ·refine wpAny_mono (T.item (aaT X (x::N') scope cl s3.heap.objs.size fp pins s3 H3) rfl rfl rfl hc i [] s5 _ H5 (fun _ _=>False) J5 (fpX fr5) st5 go) (fun r s6 ⟨u,hr,h6⟩=>?_) fun _ _ z=>z.elim
   subst hr
   refine wpAny_mono h6 (fun _ s6' h6'=>?_) fun _ _ z=>z.elim
   obtain⟨v,H6,J6,r6,y6,st6,fr6⟩:=h6'
   clear h6
   have J6':=J6.pinned (fpX fr6) (T.obj _ _ st6)
   show wpAny _ _ (assign (.Name x px) _ u) _ _ _
   refine wpAny_assign_Name (acU (i:=0) J6' hnd rfl (.inl (lookup_relabel_local hx)) r6 (fun s7 J7=>?_) (.inr (lookup_relabel_local hx)))
   have J7:Inv (aaT X (x::N') scope cl s3.heap.objs.size fp pins s3 H3) ([]++ac3 fp s6'.heap) (some v::aa8 js σ) H6 s7:=J7
   have again:∀{σ8:St} {H8:Hp} {s8:Shared},Inv (aaT X (x::N') scope cl s3.heap.objs.size fp pins s3 H3) ([]++ac3 fp s6'.heap) σ8 H8 s8->tn (i+1) s8.heap/\∀b∈fp,H8 b=none:=fun {σ8 H8 s8} J8=>by
    refine⟨T.keep _ _ _ st6 fun b hb o e=>(J8.pin (b,o) (List.mem_append_right _ (List.mem_append_right _ (abP hb e)))).1,fun b hb=>?_⟩
    obtain⟨o,e,d⟩:=T.obj _ _ st6 b hb
    exact (J8.pin (b,o) (List.mem_append_right _ (List.mem_append_right _ (abP hb e)))).2.1
   refine wpAny_mono (ht _ _ _ _ _ _ s7 _ H6 _ J7 (step v H6 y6)) (fun ok s8 ⟨H8,J8,q8⟩=>?_) fun _ _ z=>z.elim
   cases ok with
   |false=>
    obtain⟨m',hm,w8⟩:=(show ∃m',m'<n/\W (i+1) m' H8 from q8)
    obtain⟨a1,a2⟩:=again J8
    exact⟨m',hm,i+1,some v,H8,J8.unpinned,a1,a2,w8⟩
   |true=>
    refine wpAny_mono (he _ _ _ _ _ _ s8 _ H8 _ J8 q8) (fun y s9 ⟨z,H9,J9,r9,ys,hys,hlen,m',hm,w9⟩=>?_) fun _ _ z=>z.elim
    refine wpAny_mono (ae7 (X:=aaT X (x::N') scope cl s3.heap.objs.size fp pins s3 H3) _ s9 _ H9 (.ref D) [z] (.ref D) [y] (fun _ H10=>H10=upd H9 D (.lst (ys++[z]))) J9 rfl (.cons r9 .nil) ⟨D,ys,z,rfl,rfl,hys,hlen,rfl⟩) (fun _ s10 ⟨_,H10,J10,_,e10⟩=>?_) fun _ _ z=>z.elim
    subst e10
    obtain⟨a1,a2⟩:=again J10
    exact⟨m',hm,i+1,some v,_,J10.unpinned,a1,a2,w9⟩
 exact codeAny_compStart_list (loop _ rfl) (T.self _ 0 _ _ _ st4 (loop _ rfl))
theorem alH{wi:TI}(hcl:Clos X scope cl)(hx:scope.names.lookup x=some .local)(hnd:(x::N').Nodup)(hN:js.map (fun j=>X.N[j]?)=N'.map some)
  (hk:N'.all (fun y=>(X.env.kindOf y==some .cell)||(X.env.kindOf y==some .free))=true) (hf:N'.all (fun y=>scope.names.lookup y==some .free)=true) (hc:X.calm=true)
  (hi:PI X (.Name x px) iter wi)
  (ht:∀(C:Addr) (ex:List Addr) (pins:List (Addr×Obj)) (s:Shared) (H:Hp),PF (aaT X (x::N') scope cl C ex pins s H) ifs tt)
  (he:∀(C:Addr) (ex:List Addr) (pins:List (Addr×Obj)) (s:Shared) (H:Hp),PE (aaT X (x::N') scope cl C ex pins s H) elt te)
  (hs:∀x,foldedSetIterable iter X.env x=pure x:=by intro _;rfl):
  PE X (.ListComp elt [⟨.Name x px,iter,ifs,0⟩] scope pos) (ajG wi js tt te):=by
 intro pins s σ H Q I h
 rw[eval_ListComp]
 refine wpAny_comprehension_free (use:=none) rfl hs hcl.is hcl.kind hcl.names (thn (hi pins s σ H _ I h) fun xv s₁ h₁=>thn h₁ fun itv s₂ h₂=>?_)
 obtain⟨it,fp,tn,J,H2,rfl,I2,T,st,hfp,q⟩:=h₂
 refine aeD (RR:=fun acc C=>compPost (model X.prog X.w) X.A X.xe none (EP X pins σ Q) acc C) hcl hx hnd hN hk hf hc ht he I2 T st hfp q ?_
 intro D C s' H' m I' hC0 hCL hCs hCc hCp hn hq
 refine⟨m,hn,fun h' sb=>⟨.ref D,H',?_,rfl,hq⟩⟩
 exact I'.turned (t':=s'.toks) (fun b o hb e=>(sb.2 b hb).trans e) hC0 hCL (.inr hCs) hCc hCp
end
theorem acL(env:Env):∀(names:List (Str×NameKind)) (acc:List (Str×Addr)),names.all (fun y=>y.2 != .free||(env.cells.lookup y.1).isSome)=true->
  ∃cl:List (Str×Addr),(forIn (m:=Sem) names acc fun x r=>(do
   let (name,kind):=x
   if kind== .free then do let c ←cellOf env name;pure (ForInStep.yield ((name,c)::r)) else pure (ForInStep.yield r)))=(pure cl:Sem _)/\
   (∀y c,cl.lookup y=some c->env.cells.lookup y=some c∨acc.lookup y=some c)/\(∀y,(∃c,acc.lookup y=some c)->∃c,cl.lookup y=some c)/\(∀y,(y,NameKind.free)∈names->∃c,cl.lookup y=some c)
 |[],acc,_=>⟨acc,rfl,fun _ _ h=>.inr h,fun _ h=>h,fun _ h=>nomatch h⟩
 |(n,k)::r,acc,h=>by
  rw[List.all_cons,Bool.and_eq_true] at h
  by_cases hk:k=.free
  ·subst hk
   have h1:(env.cells.lookup n).isSome=true:=by simpa using h.1
   obtain⟨c,hc⟩:=Option.isSome_iff_exists.mp h1
   obtain⟨cl,e,p1,p2,p3⟩:=acL env r ((n,c)::acc) h.2
   refine⟨cl,?_,fun y c' hy=>?_,fun y hy=>?_,fun y hy=>?_⟩
   ·rw[←e]
    have q:cellOf env n=(pure c:Sem Addr):=by unfold cellOf;rw[hc]
    rw[List.forIn_cons]
    dsimp only
    rw[if_pos (show (NameKind.free==NameKind.free)=true from rfl),q]
    rfl
   ·rcases p1 y c' hy with z | z
    ·exact .inl z
    ·rw[List.lookup_cons] at z
     cases hyn:y==n with
     |true=>
      rw[hyn] at z
      have e1:y=n:=by simpa using hyn
      have e2:c=c':=by simpa using z
      rw[e1,←e2]
      exact .inl hc
     |false=>
      rw[hyn] at z
      exact .inr z
   ·refine p2 y ?_
    rw[List.lookup_cons]
    cases hyn:y==n with
    |true=>exact⟨c,rfl⟩
    |false=>exact hy
   ·rcases List.mem_cons.mp hy with z | z
    ·refine p2 y ⟨c,?_⟩
     have e1:y=n:=(Prod.mk.inj z).1
     rw[e1,List.lookup_cons]
     simp
    ·exact p3 y z
  ·obtain⟨cl,e,p1,p2,p3⟩:=acL env r acc h.2
   have hk':(k==NameKind.free)=false:=by simpa using hk
   refine⟨cl,?_,p1,p2,fun y hy=>?_⟩
   ·rw[←e]
    rw[List.forIn_cons]
    dsimp only
    rw[if_neg (by rw[hk'];exact Bool.false_ne_true)]
    rfl
   ·rcases List.mem_cons.mp hy with z | z
    ·exact absurd (Prod.mk.inj z).2.symm hk
    ·exact p3 y z
theorem ah3{X:Cx}{scope:Scope}(h:scope.names.all (fun y=>y.2 != .free||(X.env.cells.lookup y.1).isSome)=true)(h2:scope.names.all (fun y=>y.2 != .cell)=true)(h3:scope.kind=.function)
  (h4:scope.names.all (fun y=>y.2 != .local||scope.names.lookup y.1==some .local)=true):∃cl,Clos X scope cl:=by
 obtain⟨cl,e,p1,p2,p3⟩:=acL X.env scope.names [] h
 refine⟨cl,?_,fun y c hy=>?_,fun y hy=>p3 y (PySem.mem_of_lookup hy),fun y hy=>by simpa using List.all_eq_true.mp h2 y hy,h3,fun y hy hl=>?_⟩
 ·unfold closureFor
  exact Eq.trans (congrArg (fun t:Sem (List (Str×Addr))=>t >>=fun r=>(pure r:Sem (List (Str×Addr)))) e) rfl
 ·rcases p1 y c hy with z | z
  ·exact z
  ·simp at z
 ·have q:=List.all_eq_true.mp h4 y hy
  simpa [hl] using q
section
variable{js:List Nat}{σ:St}{tt:TT}{te:TE}{Q:VK}{H1:Hp}
theorem ahD{lo:Int}{n:Nat}(R:Nat->List V->Prop)(hn:n<=sizeLine)(h0:R 0 [])
  (hs:∀(i:Nat) (l:List V) (D:Addr) (H2:Hp) (E:V->Hp->Prop) (F:Hp->Prop),i<n->R i l->H1 D=none->Same H1 H2->H2 D=some (.lst l)->(∀y H5,Same H2 H5->R (i+1) (l++[y])->E y H5)->(∀H4,Same H2 H4->R (i+1) l->F H4)->
   tt (some (.int (lo+i))::aa8 js σ) H2 fun b H4=>if b=true then te (some (.int (lo+i))::aa8 js σ) H4 E else F H4)
  (hd:∀(D:Addr) (H2:Hp) (l:List V),R n l->H1 D=none->Same H1 H2->H2 D=some (.lst l)->Q (.ref D) H2):ah0 (Itr lo n) js σ tt te Q H1:=by
 intro D hD
 refine⟨fun i m H2=>m=n-i/\i<=n/\Same H1 H2/\∃l,H2 D=some (.lst l)/\l.length<=i/\R i l,⟨n,by simp,Nat.zero_le _,aaB hD _,[],aaA,Nat.le_refl _,h0⟩,?_⟩
 rintro i m H2 ⟨rfl,hi,s2,l,h2,hll,hR⟩
 by_cases hlt:i<n
 ·refine .inr ⟨hlt,fun v H3 y=>?_⟩
  obtain⟨e,ev⟩:=y
  subst e ev
  refine hs i l D _ _ _ hlt hR hD s2 h2 (fun z H5 s5 r5=>?_) (fun H4 s4 r4=>?_)
  ·refine⟨l,s5 _ _ h2,Nat.lt_of_le_of_lt hll (Nat.lt_of_lt_of_le hlt hn),n-(i+1),by omega,rfl,hlt,fun b o hb=>?_,l++[z],aaA,by rw[List.length_append,List.length_singleton];omega,r5⟩
   rw[aaH (aaG hb hD)]
   exact s5 _ _ (s2 _ _ hb)
  ·exact⟨n-(i+1),by omega,rfl,hlt,s2.trans s4,l,s4 _ _ h2,by omega,r4⟩
 ·have e:i=n:=by omega
  subst e
  exact .inl ⟨Nat.le_refl _,hd D H2 l hR hD s2 h2⟩
end
structure E(X:Cx)(e:Expr)(t:TE):Prop where
 h:PE X e t
structure T(X:Cx)(e:Expr)(t:TT):Prop where
 h:PT X e t
structure TW(X:Cx)(e:Expr)(t:TT):Prop where
 h:PW X e t
structure As(X:Cx)(es:List Expr)(t:TA):Prop where
 h:PA X es t
structure S(X:Cx)(st:Stmt)(t:TS):Prop where
 h:PS X st t
structure Ss(X:Cx)(sts:List Stmt)(t:TS):Prop where
 h:PSs X sts t
structure Il(X:Cx)(tg iter:Expr)(wi:TI):Prop where
 h:PI X tg iter wi
structure Gt(X:Cx)(tg:Expr)(t:TG):Prop where
 h:PG X tg t
structure Gts(X:Cx)(ts:List Expr)(t:TGs):Prop where
 h:PGs X ts t
structure Fs(X:Cx)(ifs:List Expr)(t:TT):Prop where
 h:PF X ifs t
structure Op2(X:Cx)(f:Value->Value->Sem Value)(r:R2):Prop where
 h:OpR X f r
structure Op1(X:Cx)(f:Value->Sem Value)(r:V->Hp->VK->Prop):Prop where
 h:UnR X f r
structure Cl1(X:Cx)(f:Value)(r:List V->Hp->VK->Prop):Prop where
 h:acF X f r
structure Ixs(X:Cx)(r:R2):Prop where
 h:IxR X r
section
variable{X:Cx}{a b c e:Expr}{pos p:Pos}{ta tb tc te:TE}{t u:TT}{rest es:List Expr}{tA:TA}{op op':CmpOp}{r r':R2}{x:Str}
theorem v_(i:Nat)(hN:X.N[i]? =some x:=by rfl)(hv:Vis X.env.scope x:=by first | exact Or.inl rfl | exact Or.inr (Or.inl rfl) | exact Or.inr (Or.inr rfl))(hd:(x==("__debug__":Str))=false:=by decide)(hcd:(x==("__classdict__":Str))=false:=by decide):
  E X (.Name x pos) (apE i):=⟨an2 hN hv hd hcd⟩
theorem eI{i j}:E X (.Constant (.int i) j pos) (tC (.int i)):=⟨ajM⟩
theorem eB{k j}:E X (.Constant (.bool k) j pos) (tC (.bl k)):=⟨aqF⟩
theorem eN{j}:E X (.Constant .none j pos) (tC .non):=⟨anB⟩
theorem eS{z j}:E X (.Constant (.str z) j pos) (tC (.str z)):=⟨aj4⟩
theorem eGl{v:V}{w':Value}(hm:X.mg x=some w')(q:RelV v w')(hg:Gl X x:=by rfl)(hd:(x==("__debug__":Str))=false:=by decide):E X (.Name x pos) (tC v):=⟨akT hg hm q hd⟩
theorem eTy{n:String}(hm:X.mg x=none)(hv:bootBuiltins x=some (.type n))(hg:Gl X x:=by rfl)(hn:x≠"__name__":=by decide)(hd:(x==("__debug__":Str))=false:=by decide):E X (.Name x pos) (tC (.ty n)):=⟨akM hg hm hv rfl hn hd⟩
theorem eOp{o:Operator}(ho:Op2 X (binaryOp o) r)(ha:E X a ta)(hb:E X b tb):E X (.BinOp a o b pos) (tOp r ta tb):=⟨ao1 ho.h ha.h hb.h⟩
theorem eUn{o:UnaryOp}{r1:V->Hp->VK->Prop}(ho:Op1 X (unaryOp o) r1)(ha:E X a ta):E X (.UnaryOp o a pos) (tUn r1 ta):=⟨aqV ho.h ha.h⟩
theorem af4(ho:Op2 X (compareOp op) r)(ha:E X a ta)(hb:E X b tb)(hm:behindInMarks op b=false:=by first | exact ai0 _ | rfl):E X (.Compare a [op] [b] pos) (tOp r ta tb):=⟨akI ho.h ha.h hb.h hm⟩
theorem tCh(ho:Op2 X (compareOp op) r)(ho':Op2 X (compareOp op') r')(ha:E X a ta)(hb:E X b tb)(hc:E X c tc)(hm:lastMarks [op,op'] [b,c]=false:=by with_unfolding_all rfl):T X (.Compare a [op,op'] [b,c] pos) (ahM (ajO r r' ta tb tc)):=⟨ajD ho.h ho'.h ha.h hb.h hc.h hm⟩
theorem ah6{o}(ha:E X a ta):E X (.BoolOp o [a] pos) ta:=⟨amN ha.h⟩
theorem alK(ha:E X a ta)(hb:E X (.BoolOp .And (b::rest) pos) tb):E X (.BoolOp .And (a::b::rest) pos) (al8 ta tb):=⟨anY ha.h hb.h⟩
theorem eOr(ha:E X a ta)(hb:E X (.BoolOp .Or (b::rest) pos) tb):E X (.BoolOp .Or (a::b::rest) pos) (an4 ta tb):=⟨arJ ha.h hb.h⟩
theorem eNot(ha:E X a ta):E X (.UnaryOp .Not a pos) (alR ta):=⟨amB ha.h⟩
theorem eIf(hc:T X c t)(ha:E X a ta)(hb:E X b tb):E X (.IfExp c a b pos) (tIf t ta tb):=⟨aj7 hc.h ha.h hb.h⟩
theorem tCm(ho:Op2 X (compareOp op) r)(ha:E X a ta)(hb:E X b tb)(hm:behindInMarks op b=false:=by first | exact ai0 _ | rfl):T X (.Compare a [op] [b] pos) (ahM (tOp r ta tb)):=⟨ak7 ho.h ha.h hb.h hm⟩
theorem tNo(ha:T X a t):T X (.UnaryOp .Not a pos) (ao2 t):=⟨anL ha.h⟩
theorem tVa(ha:E X e te)(he:∀whole,isTrue e X.env whole=(do let v ←whole;standAt e.pos;holding [v] (truthy v)):=by intro _;rfl):T X e (L2.tB te):=⟨anV ha.h he⟩
theorem agP(ha:T X a t):TW X (.BoolOp .Or [a] pos) t:=⟨al9 ha.h⟩
theorem wOr(ha:T X a t)(hb:TW X (.BoolOp .Or (b::rest) pos) u):TW X (.BoolOp .Or (a::b::rest) pos) (tOr t u):=⟨aoA ha.h hb.h⟩
theorem tW(ha:TW X e t):T X e t:=⟨ha.h.pt⟩
theorem aN:As X [] aiC:=⟨ac6⟩
theorem aC(ha:E X e te)(hr:As X es tA)(hs:starEach (e::es) X.env=(false,eval e X.env)::starEach es X.env:=by rfl):As X (e::es) (aeQ te tA):=⟨ab8 ha.h hr.h hs⟩
theorem ahV(is:List Int)(h:es.map agF=is.map some:=by rfl):As X es (al0 is):=⟨ah2 is h⟩
theorem abJ(ha:As X es tA):E X (.List es pos) (aoM tA):=⟨am9 ha.h⟩
theorem abI{k}(ha:As X es tA):E X (.Tuple es k pos) (aq1 tA):=⟨amK ha.h⟩
theorem eIx(hr:Ixs X r)(ha:E X a ta)(hb:E X b tb)(hs:ahI b:=by intro _ _;rfl):E X (.Subscript a b pos) (tOp r ta tb):=⟨ao3 hr.h ha.h hb.h hs⟩
theorem eD{k k':Nat}{ps:List Str}{sp:Sp}(D:Df X.prog X.w X.K X.mg X.base x k ps sp)(hr:Room k' X.A)(ha:As X (e::es) tA)(hk:k<=k':=by decide)(hg:Gl X x:=by rfl)
  (hdb:(x==("__debug__":Str))=false:=by decide) (he:starEach (e::es) X.env=(false,eval e X.env)::starEach es X.env:=by rfl) (hpl:(backTo pos (starEach es X.env)).any (·.1)=false:=by rfl):
  E X (.Call (.Name x p) (e::es) [] pos) (agA sp [] E0 tA):=⟨aj1 D hr ha.h hk hg hdb he hpl⟩
theorem eCB{id:String}{rc:List V->Hp->VK->Prop}(hc:Cl1 X (.builtin id) rc)(hm:X.mg x=none)(hv:bootBuiltins x=some (.builtin id))(ha:As X (e::es) tA)(hg:Gl X x:=by rfl)(hn:x≠"__name__":=by decide)(hdb:(x==("__debug__":Str))=false:=by decide)
  (he:starEach (e::es) X.env=(false,eval e X.env)::starEach es X.env:=by rfl) (hpl:(backTo pos (starEach es X.env)).any (·.1)=false:=by rfl):E X (.Call (.Name x p) (e::es) [] pos) (tCB rc tA):=⟨ajE hc.h hg hm hv ha.h hn hdb he hpl⟩
theorem eCT{n:String}{rc:List V->Hp->VK->Prop}(hc:Cl1 X (.type n) rc)(hm:X.mg x=none)(hv:bootBuiltins x=some (.type n))(ha:As X (e::es) tA)(hg:Gl X x:=by rfl)(hn:x≠"__name__":=by decide)(hdb:(x==("__debug__":Str))=false:=by decide)
  (he:starEach (e::es) X.env=(false,eval e X.env)::starEach es X.env:=by rfl) (hpl:(backTo pos (starEach es X.env)).any (·.1)=false:=by rfl):E X (.Call (.Name x p) (e::es) [] pos) (tCB rc tA):=⟨ah8 hc.h hg hm hv ha.h hn hdb he hpl⟩
end
section
variable{X:Cx}
theorem abQ:Op2 X (binaryOp .Add) (rI0 fun i j=>.int (i+j)):=⟨amV⟩
theorem agW:Op2 X (binaryOp .Sub) (rI0 fun i j=>.int (i-j)):=⟨amZ⟩
theorem aj8:Op2 X (binaryOp .Mult) (rI CMul fun i j=>.int (i*j)):=⟨am5⟩
theorem amQ:Op2 X (binaryOp .FloorDiv) (rI apN fun i j=>.int (i / j)):=⟨akX⟩
theorem abR:Op2 X (binaryOp .Mod) (rI (fun _ j=>0<j) fun i j=>.int (i%j)):=⟨amU⟩
theorem amG:Op2 X (binaryOp .Pow) (rI akU fun i j=>.int (i^j.toNat)):=⟨anK⟩
theorem aq9:Op2 X (binaryOp .LShift) (rI akU fun i j=>.int (i*2^j.toNat)):=⟨am0⟩
theorem oOr:Op2 X (binaryOp .BitOr) (rI0 fun i j=>.int (Builtin.bitOr i j)):=⟨aoV⟩
theorem aiN:Op2 X (binaryOp .Add) arT:=⟨anH⟩
theorem oEq:Op2 X (compareOp .Eq) rEq:=⟨aoW⟩
theorem oNe:Op2 X (compareOp .NotEq) rNe:=⟨apD⟩
theorem oLt:Op2 X (compareOp .Lt) (rI0 fun i j=>.bl (decide (i<j))):=⟨arI⟩
theorem oLe:Op2 X (compareOp .LtE) (rI0 fun i j=>.bl (decide (i<=j))):=⟨apS⟩
theorem oGt:Op2 X (compareOp .Gt) (rI0 fun i j=>.bl (decide (j<i))):=⟨an7⟩
theorem xL:Ixs X (am3 X.K):=⟨akN⟩
theorem xT:Ixs X (ao6 X.K):=⟨amM⟩
theorem af6:Cl1 X (.builtin "len") (fun xs H Q=>∃p ys,xs=[.ref p]/\(SqL X.K H p ys∨SqT X.K H p ys)/\Q (.int ys.length) H):=⟨afB⟩
theorem cAbs:Cl1 X (.builtin "abs") (fun xs H Q=>∃i,xs=[.int i]/\Q (.int (if i<0 then -i else i)) H):=⟨ai5⟩
theorem cMax(hc:X.calm=true:=by rfl):Cl1 X (.builtin "max") (fun xs H Q=>∃i j,xs=[.int i,.int j]/\Q (.int (if j>i then j else i)) H):=⟨aiI hc⟩
theorem amL(hc:X.calm=true:=by rfl):Cl1 X (.builtin "min") (fun xs H Q=>∃i j,xs=[.int i,.int j]/\Q (.int (if j<i then j else i)) H):=⟨ah9 hc⟩
end
section
variable{X:Cx}{e c iter tg:Expr}{te:TE}{tt:TT}{tA:TA}{wi:TI}{g:TG}{t u tb:TS}{st:Stmt}{rest body ba bb:List Stmt}{pos pos' p:Pos}{x:Str}{a1 a2:Expr}
theorem ssN:Ss X [] al4:=⟨alM⟩
theorem ssC(h1:S X st t)(h2:Ss X rest u):Ss X (st::rest) (apJ t u):=⟨ajV h1.h h2.h⟩
theorem ss1(h1:S X st t):Ss X [st] t:=⟨ak5 h1.h⟩
theorem aaN(he:E X e te):S X (.Return (some e) pos) (an3 te):=⟨am2 he.h⟩
theorem sIf(hc:T X c tt)(ha:Ss X ba t)(hb:Ss X bb u):S X (.If c ba bb pos) (apP tt t u):=⟨apT hc.h ha.h hb.h⟩
theorem ak9(he:E X e te)(hs:swapsWith e none pos.line X.env=pure false:=by rfl):S X (.Expr e pos) (al2 te):=⟨akY he.h hs⟩
theorem aaO(i:Nat)(he:E X e te)(hN:X.N.Nodup)(hi:X.N[i]? =some x:=by rfl)(hx:Loc X.env.scope x:=by first | exact Or.inl rfl | exact Or.inr rfl)(hs:swapsWith e (some (.Name x pos')) pos.line X.env=pure false:=by rfl)
  (hf:X.fn x=true∨X.env.scope.names.lookup x=some .local:=by first | exact .inl rfl | exact .inr rfl):S X (.Assign [.Name x pos'] e pos) (ajW te (acG i)):=⟨anM hN hi hx he.h hs hf⟩
theorem gN(i:Nat)(hN:X.N.Nodup)(hi:X.N[i]? =some x:=by rfl)(hx:Loc X.env.scope x:=by first | exact Or.inl rfl | exact Or.inr rfl)(hf:X.fn x=true∨X.env.scope.names.lookup x=some .local:=by first | exact .inl rfl | exact .inr rfl):Gt X (.Name x pos) (acG i):=⟨ak0 hN hi hx hf⟩
theorem alE(hi:Il X tg iter wi)(hg:Gt X tg g)(hb:Ss X body tb)(hp:PassesOwn (model X.prog X.w) X.A X.env X.xe)(hc:X.calm=true:=by rfl)(hs:∀x,foldedSetIterable iter X.env x=pure x:=by intro _;rfl):S X (.For tg iter body [] pos) (arS wi g tb):=⟨am6 hp hc hi.h hg.h hb.h hs⟩
theorem iL(hl:E X e te):Il X tg e (al7 X.K te):=⟨alP hl.h⟩
theorem iR1(hm:X.mg "range"=none)(ha:As X [a1] tA)(hg:Gl X "range":=by rfl)(hs:starEach [a1] X.env=[(false,eval a1 X.env)]:=by rfl):Il X tg (.Call (.Name "range" p) [a1] [] pos) (alQ tA):=⟨aiG hg hm ha.h hs⟩
theorem iR2(hm:X.mg "range"=none)(ha:As X [a1,a2] tA)(hg:Gl X "range":=by rfl)(hs:starEach [a1,a2] X.env=[(false,eval a1 X.env),(false,eval a2 X.env)]:=by rfl)(hs2:starEach [a2] X.env=[(false,eval a2 X.env)]:=by rfl):
  Il X tg (.Call (.Name "range" p) [a1,a2] [] pos) (alT tA):=⟨aiL hg hm ha.h hs hs2⟩
end
section
variable{P:Program}{w:World}{K:PySem.W.Frag}{mg:Str->Option Value}{base:Heap}{x:Str}{st:Stmt}{ps N:List Str}{k:Nat}{sp:Sp}
theorem Fn.dfs(F:Fn K mg x st ps)(S':FnScope N ps (aaD st))(len:∀vs H Q E,sp vs H Q E->vs.length=ps.length)
  (hbody:∀(f:Addr) (cdv:Value) (A:Around) (outer:List Env) (s:Shared) (H:Hp) (vs:List V) (Q:VK) (E:XK),Room k (A.deeper (envOfC x (aaD st) s.heap.objs.size f cdv))->sp vs H Q E->
   ∃t,Ss (abT CX0 P w K mg base N x (aaD st) f cdv A outer s H E).nox (aaS st) t/\t {nx:=fun _ H'=>Q .non H',rt:=Q} (abC N vs) H):Df P w K mg base x (k+1) ps sp:=
 F.df S' len fun f cdv A outer s H vs Q E hr h=>by
  obtain⟨t,h1,h2⟩:=hbody f cdv A outer s H vs Q E hr h
  exact⟨t,h1.h,h2⟩
theorem Fun.oks{f:Addr}{fd:FuncData}(F:Fun K x x st f fd)(S':FnScope N ps (aaD st))(len:∀vs H Q E,sp vs H Q E->vs.length=ps.length)
  (hbody:∀(cdv:Value) (A:Around) (outer:List Env) (s:Shared) (H:Hp) (vs:List V) (Q:VK) (E:XK),Room k (A.deeper (envOfC x (aaD st) s.heap.objs.size f cdv))->sp vs H Q E->
   ∃t,Ss (abT CX0 P w K mg base N x (aaD st) f cdv A outer s H E).nox (aaS st) t/\t {nx:=fun _ H'=>Q .non H',rt:=Q} (abC N vs) H):FnOk P w K mg base CX0 (k+1) f fd ps sp:=
 F.ok S' len fun cdv A outer s H vs Q E hr h=>by
  obtain⟨t,h1,h2⟩:=hbody cdv A outer s H vs Q E hr h
  exact⟨t,h1.h,h2⟩
end
end L2
namespace L2
open PySem PySem.Spec PyProof.Rows PySem.SeqAt
section
variable{X:Cx}
end
section
variable{X:Cx}{elt iter:Expr}{x y:Str}{px py pos spos:Pos}{ifs:List Expr}{scope:Scope}{wi:TI}{tt:TT}{te:TE}
theorem an5(N':List Str)(js:List Nat)(hi:Il X (.Name x px) iter wi)
  (ht:∀(cl:List (Str×Addr)) (C:Addr) (ex:List Addr) (pins:List (Addr×Obj)) (s:Shared) (H:Hp),Fs (aaT X (x::N') scope cl C ex pins s H) ifs tt)
  (he:∀(cl:List (Str×Addr)) (C:Addr) (ex:List Addr) (pins:List (Addr×Obj)) (s:Shared) (H:Hp),E (aaT X (x::N') scope cl C ex pins s H) elt te)
  (hcl:∃cl,Clos X scope cl:=by exact ah3 rfl rfl rfl rfl) (hx:scope.names.lookup x=some .local:=by rfl) (hnd:(x::N').Nodup:=by decide +kernel) (hN:js.map (fun j=>X.N[j]?)=N'.map some:=by rfl)
  (hk:N'.all (fun y=>(X.env.kindOf y==some .cell)||(X.env.kindOf y==some .free))=true:=by rfl) (hf:N'.all (fun y=>scope.names.lookup y==some .free)=true:=by rfl) (hc:X.calm=true:=by rfl)
  (hs:∀x,foldedSetIterable iter X.env x=pure x:=by intro _;rfl):E X (.ListComp elt [⟨.Name x px,iter,ifs,0⟩] scope pos) (ajG wi js tt te):=by
 obtain⟨cl,hcl⟩:=hcl
 exact⟨alH hcl hx hnd hN hk hf hc hi.h (fun C ex pins s H=>(ht cl C ex pins s H).h) (fun C ex pins s H=>(he cl C ex pins s H).h) hs⟩
theorem al6(i:Nat)(N':List Str)(js:List Nat)(hi:Il X (.Name x px) iter wi)
  (ht:∀(cl:List (Str×Addr)) (C:Addr) (ex:List Addr) (pins:List (Addr×Obj)) (s:Shared) (H:Hp),Fs (aaT X (x::N') scope cl C ex pins s H) ifs tt)
  (he:∀(cl:List (Str×Addr)) (C:Addr) (ex:List Addr) (pins:List (Addr×Obj)) (s:Shared) (H:Hp),E (aaT X (x::N') scope cl C ex pins s H) elt te)
  (hXN:X.N.Nodup) (hsw:swapsWith (.ListComp elt [⟨.Name x px,iter,ifs,0⟩] scope pos) (some (.Name y py)) spos.line X.env=pure true:=by rfl)
  (hiN:X.N[i]? =some y:=by rfl) (hy:X.env.scope.names.lookup y=some .local:=by rfl)
  (hcl:∃cl,Clos X scope cl:=by exact ah3 rfl rfl rfl rfl) (hx:scope.names.lookup x=some .local:=by rfl) (hnd:(x::N').Nodup:=by decide +kernel) (hN:js.map (fun j=>X.N[j]?)=N'.map some:=by rfl)
  (hk:N'.all (fun y=>(X.env.kindOf y==some .cell)||(X.env.kindOf y==some .free))=true:=by rfl) (hf:N'.all (fun y=>scope.names.lookup y==some .free)=true:=by rfl) (hc:X.calm=true:=by rfl)
  (hs:∀x,foldedSetIterable iter X.env x=pure x:=by intro _;rfl):S X (.Assign [.Name y py] (.ListComp elt [⟨.Name x px,iter,ifs,0⟩] scope pos) spos) (ajW (ajG wi js tt te) (acG i)):=by
 obtain⟨cl,hcl⟩:=hcl
 refine⟨fun pins s σ H D I h=>?_⟩
 rw[exec_Assign_Name_used _ _ _ _ hsw]
 refine wpAny_bind (wpAny_standAt (wpAny_bind ?_))
 show wpAny _ X.A (do let _ ←comprehension (.ListComp elt [⟨.Name x px,iter,ifs,0⟩] scope pos) scope X.env _ (newList []) false (eval iter X.env) (some (assign (.Name y py) X.env))) _ _ s
 refine wpAny_bind (wpAny_mono (wpAny_comprehension_free (use:=some (assign (.Name y py) X.env)) (Q:=fun _ s'=>SP X pins D .next s') rfl hs hcl.is hcl.kind hcl.names ?_) (fun _ s' hq=>wpAny_pure (wpAny_pure hq)) fun _ _ z=>z)
 refine thn (hi.h pins s σ H _ I h) fun xv s₁ h₁=>thn h₁ fun itv s₂ h₂=>?_
 obtain⟨it,fp,tn,J,H2,rfl,I2,T,st,hfp,q⟩:=h₂
 refine aeD (Q:=fun v H'=>D.nx (σ.set i (some v)) H') (RR:=fun acc C=>compPost (model X.prog X.w) X.A X.xe (some (assign (.Name y py) X.env)) (fun _ s'=>SP X pins D .next s') acc C) hcl hx hnd hN hk hf hc (fun C ex pins s H=>(ht cl C ex pins s H).h) (fun C ex pins s H=>(he cl C ex pins s H).h) I2 T st hfp q ?_
 intro D' C s' H' m I' hC0 hCL hCs hCc hCp hn hq
 show wpAny _ _ (assign (.Name y py) X.env (.ref D')) _ _ s'
 refine wpAny_assign_Name (aeT I' hXN hiN (.inl hy) (v:=.ref D') rfl (fun s3 I3 sb3=>?_) (.inr hy))
 obtain⟨a3,sb3,e3⟩:=sb3
 have hCa:C≠a3:=by
  rcases e3 with e3 | e3
  ·rw[e3];exact hCL
  ·exact fun z=>hCc y a3 e3 z.symm
 refine⟨m,hn.sameBut sb3 hCa,fun h' sb=>⟨σ.set i (some (.ref D')),H',?_,hq⟩⟩
 exact I3.turned (t':=s3.toks) (fun b o hb e=>(sb.2 b hb).trans e) hC0 hCL (.inr hCs) hCc hCp
theorem fsN:Fs X [] ap9:=⟨anX⟩
theorem gTu{es:List Expr}{k n:Nat}{t:TGs}(h:Gts X es t)(hc:X.calm=true:=by rfl)(hn:(assignEach es X.env).length=n:=by rfl)(hst:(assignEach es X.env).findIdx? (·.1)=none:=by rfl):Gt X (.Tuple es k pos) (arA X.K n t):=⟨anI hc h.h hn hst⟩
theorem gsN:Gts X [] aqY:=⟨alG⟩
theorem gsC{e:Expr}{es:List Expr}{t:TG}{u:TGs}(h1:Gt X e t)(h2:Gts X es u)(hs:(assignEach (e::es) X.env).map (·.2)=assign e X.env::(assignEach es X.env).map (·.2):=by rfl):Gts X (e::es) (alW t u):=⟨ai6 h1.h h2.h hs⟩
theorem af3{tg e:Expr}{g:TG}(he:E X e te)(hg:Gt X tg g)(hs:swapsWithSole [tg] e pos.line X.env=pure false:=by rfl)(hw:swappedStores [tg] e X.env=pure none:=by rfl)
  (h1:(assignEach [tg] X.env).map (·.2)=[assign tg X.env]:=by rfl):S X (.Assign [tg] e pos) (ajW te g):=⟨am7 he.h hg.h hs hw h1⟩
end
section
variable{js:List Nat}{σ:St}{tt:TT}{te:TE}{Q:VK}{H1:Hp}
theorem aiK{K:PySem.W.Frag}{a:Addr}{xs:List V}(R:Nat->List V->Prop)(hn:xs.length<=sizeLine)(h0:R 0 [])(hq:SqL K H1 a xs)
  (hs:∀(i:Nat) (v:V) (l:List V) (D:Addr) (H2:Hp) (E:V->Hp->Prop) (F:Hp->Prop),xs[i]? =some v->R i l->H1 D=none->Same H1 H2->H2 D=some (.lst l)->(∀y H5,Same H2 H5->R (i+1) (l++[y])->E y H5)->(∀H4,Same H2 H4->R (i+1) l->F H4)->
   tt (some v::aa8 js σ) H2 fun b H4=>if b=true then te (some v::aa8 js σ) H4 E else F H4)
  (hd:∀(D:Addr) (H2:Hp) (l:List V),R xs.length l->H1 D=none->Same H1 H2->H2 D=some (.lst l)->Q (.ref D) H2):ah0 (Itl K a) js σ tt te Q H1:=by
 intro D hD
 refine⟨fun i m H2=>m=xs.length-i/\i<=xs.length/\Same H1 H2/\∃l,H2 D=some (.lst l)/\l.length<=i/\R i l,⟨xs.length,by simp,Nat.zero_le _,aaB hD _,[],aaA,Nat.le_refl _,h0⟩,?_⟩
 rintro i m H2 ⟨rfl,hi,s2,l,h2,hll,hR⟩
 by_cases hlt:i<xs.length
 ·refine .inr ⟨⟨xs,xs[i],s2.seq hq,by simp[hlt]⟩,fun v H3 y=>?_⟩
  obtain⟨e,ev⟩:=y
  subst e
  have hv:=ev xs (s2.seq hq)
  refine hs i v l D _ _ _ hv hR hD s2 h2 (fun z H5 s5 r5=>?_) (fun H4 s4 r4=>?_)
  ·refine⟨l,s5 _ _ h2,Nat.lt_of_le_of_lt hll (Nat.lt_of_lt_of_le hlt hn),xs.length-(i+1),by omega,rfl,hlt,fun b o hb=>?_,l++[z],aaA,by rw[List.length_append,List.length_singleton];omega,r5⟩
   rw[aaH (aaG hb hD)]
   exact s5 _ _ (s2 _ _ hb)
  ·exact⟨xs.length-(i+1),by omega,rfl,hlt,s2.trans s4,l,s4 _ _ h2,by omega,r4⟩
 ·have e:i=xs.length:=by omega
  subst e
  exact .inl ⟨⟨xs,s2.seq hq,Nat.le_refl _⟩,hd D H2 l hR hD s2 h2⟩
def IntsR(i:Nat)(l:List V):Prop:=∃zs:List Int,l=zs.map V.int/\zs.length<=i
theorem IntsR.nil:IntsR 0 []:=⟨[],rfl,Nat.le_refl _⟩
theorem IntsR.one{i:Nat}{l:List V}(h:IntsR i l)(z:Int):IntsR (i+1) (l++[.int z]):=by
 obtain⟨zs,rfl,hl⟩:=h
 exact⟨zs++[z],by rw[List.map_append];rfl,by rw[List.length_append,List.length_singleton];omega⟩
theorem Same.tup{K:PySem.W.Frag}{H H':Hp}{a:Addr}{xs:List V}(e:Same H H')(h:SqT K H a xs):SqT K H' a xs:=by
 rcases h with (h | ⟨o,h⟩) | h
 ·exact .inl (.inl (e _ _ h))
 ·exact .inl (.inr ⟨o,e _ _ h⟩)
 ·exact .inr h
theorem apQ{X:Cx}:Op1 X (unaryOp .USub) (rU fun i=>.int (-i)):=⟨anP⟩
end
section
variable{prog:Program}{w:World}{A:Around}{E:Value->Shared->Prop}{s:Shared}
theorem alV{it l:Addr}{its:Array Value}(hne:l≠it):∀(n i:Nat) (s:Shared) (Q:List Value->Shared->Prop),s.heap.IsListIter it l i->s.heap.IsList l its->i+n<=its.size->
  (∀h',h'.IsListIter it l (i+n)->Heap.SameBut it s.heap h'->Q ((its.toList.drop i).take n) {s with heap:=h'})->wpAny (model prog w) A (draw (.ref it) n) Q E s
 |0,i,s,Q,hit,_,_,hQ=>by
  have z:wpAny (model prog w) A (pure ([]:List Value)) Q E s:=wpAny_pure (by simpa using hQ s.heap hit (Heap.SameBut.refl ..))
  exact z
 |n+1,i,s,Q,hit,hl,hle,hQ=>by
  have hi:i<its.size:=by omega
  have z:wpAny (model prog w) A (pyNext (.ref it)) (fun r s₁=>wpAny (model prog w) A (match r with | none=>pure [] | some v=>(do let rest ←holding [v] (draw (.ref it) n);pure (v::rest))) Q E s₁) E s:=by
   refine wpAny_pyNext_list_item hit hl (x:=its[i]) (by simp[hi]) fun h₁ hit₁ hs₁=>?_
   refine wpAny_bind (wpAny_holding (alV hne n (i+1) _ _ hit₁ (hl.extBut hs₁.extBut hne) (by omega) fun h₂ hit₂ hs₂=>wpAny_pure ?_))
   have hd:its.toList.drop i=its[i]::its.toList.drop (i+1):=by simp[List.drop_eq_getElem_cons,hi]
   have e:i+(n+1)=i+1+n:=by omega
   have q:=hQ h₂ (by rw[e];exact hit₂) (hs₁.trans hs₂)
   rw[hd,List.take_succ_cons] at q
   exact q
  exact wpAny_bind z
theorem akS{l:Addr}{its:Array Value}{Q:List Value->Shared->Prop}(hh:A.handled=none)(hl:s.heap.IsList l its)(hQ:∀h',Heap.ExtBut s.heap.objs.size s.heap h'->Q its.toList {s with heap:=h'}):
  wpAny (model prog w) A (unpackItems (.ref l) its.size none) Q E s:=by
 have hne:l≠s.heap.objs.size:=by
  obtain⟨o,ho,_⟩:=hl
  exact Nat.ne_of_lt (Heap.lt_size ho)
 unfold unpackItems
 refine wpAny_bind ?_
 unfold notIterableAtAll
 refine wpAny_bind (wpAny_specialOf hl.typeIs slot_list_iter.lookup (wpAny_pure ?_))
 simp only[Bool.false_eq_true,if_false]
 refine wpAny_bind (wpAny_holding (wpAny_pyIter_list hl (wpAny_bind (wpAny_holding (alV hne its.size 0 _ _ ⟨_,Heap.get?_push_size _ rfl,rfl,rfl⟩ (hl.push _) (by omega) fun h₁ hit₁ hs₁=>?_)))))
 have all:List.take its.size (List.drop 0 its.toList)=its.toList:=by
  rw[List.drop_zero]
  exact List.take_of_length_le (by simp)
 rw[all,if_neg (by simp)]
 have hl₁:h₁.IsList l its:=(hl.push _).extBut hs₁.extBut hne
 refine wpAny_bind (wpAny_holding (wpAny_pyNext_list_end hh hit₁ hl₁ (by simp) fun h₂ he₂=>?_))
 simp only[Option.isSome_none,Bool.false_eq_true,if_false]
 exact wpAny_pure (hQ h₂ fun b o hb e=>he₂ b o hb (hs₁.extBut b o hb (Heap.get?_push_of_some _ e)))
end
def arN(K:PySem.W.Frag)(n:Nat)(t:TGs):TG:=fun v σ H Q=>∃a xs,v=.ref a/\SqL K H a xs/\xs.length=n/\t xs σ H Q
section
variable{X:Cx}{pos:Pos}
theorem aoZ{es:List Expr}{k n:Nat}{t:TGs}(h:Gts X es t)(hc:X.calm=true:=by rfl)(hn:(assignEach es X.env).length=n:=by rfl)(hst:(assignEach es X.env).findIdx? (·.1)=none:=by rfl):Gt X (.Tuple es k pos) (arN X.K n t):=by
 refine⟨fun pins s σ H v u Q I r hw=>?_⟩
 obtain⟨a,xs,e1,hq,hl,hw⟩:=hw
 subst e1
 cases r
 obtain⟨its,rv,pl,hz⟩:=I.list hq
 rw[assign_Tuple]
 refine wpAny_bind (wpAny_standAt ?_)
 unfold unpack
 have e2:(assignEach es X.env).length=its.toArray.size:=by rw[hn,←hl,rv.length,List.size_toArray]
 rw[e2,hst]
 refine wpAny_bind (wpAny_holding (akS (I.ok.hd hc) pl.isList fun h' hx=>?_))
 have I1:Inv X pins σ H {s with heap:=h'}:=I.kept (t':=s.toks) fun b o e=>hx b o (Nat.ne_of_lt (Heap.lt_size e)) e
 exact h.h pins _ σ H xs _ Q I1 (by simpa using rv) hw
theorem ak1{o e:Expr}{to te:TE}{apos cpos:Pos}(ho:E X o to)(he:E X e te)(hbase:attributeBase o "append" X.env (eval o X.env)=eval o X.env:=by rfl)
  (hfew:((backTo cpos (starEach [e] X.env)).all (fun x=> !x.1)&&(backToKw cpos (keywordEach [] X.env)).all (fun x=>x.1.isSome)&&decide (([e]:List Expr).length+([]:List Keyword).length+(if ([]:List Keyword).isEmpty then 0 else 1)<30))=true:=by rfl)
  (hline:(apos.endLine==cpos.line)=true:=by rfl) (hs:starEach [e] X.env=(false,eval e X.env)::starEach [] X.env:=by rfl) (hplain:(backTo cpos (starEach [] X.env)).any (·.1)=false:=by rfl):
  E X (.Call (.Attribute o "append" apos) [e] [] cpos) (tBM X.K "list" ahP to (aeQ te aiC)):=
 ⟨ajL PySem.F.plainAttrs_list PySem.F.slot_list_append PySem.F.type_list_append ae7 ho.h (ab8 he.h ac6 hs) hbase hfew hline hs hplain⟩
end
section
variable{js:List Nat}{σ:St}{tt:TT}{te:TE}{Q:VK}{H1:Hp}
end
def Digs(ds ss:List Int):Prop:=Paired (fun d z:Int=>0<=d/\d<z) ds ss
theorem Digs.snoc{ds ss:List Int}{d z:Int}(h:Digs ds ss)(h0:0<=d)(h1:d<z):Digs (ds++[d]) (ss++[z]):=Paired.snoc h ⟨h0,h1⟩
theorem Digs.len{ds ss:List Int}(h:Digs ds ss):ds.length=ss.length:=Paired.length h
theorem Digs.two{ds:List Int}{a b:Int}(h:Digs ds [a,b]):∃x y:Int,ds=[x,y]/\(0<=x/\x<a)/\0<=y/\y<b:=by
 cases h with
 |cons h1 r=>cases r with | cons h2 r=>cases r;exact⟨_,_,rfl,h1,h2⟩
theorem abB{H H2:Hp}{p:Addr}{o:HO}(hn:H p=none)(s:Same H H2):Same H (upd H2 p o):=fun b u h=>by
 rw[aaH (aaG h hn)]
 exact s b u h
theorem aoE{a m b:Int}(h0:0<m)(h1:m<=18446744073709551616):CMul (a%m) b:=.inl ⟨Int.lt_of_lt_of_le (by decide) (Int.emod_nonneg a (Int.ne_of_gt h0)),Int.lt_of_lt_of_le (Int.emod_lt_of_pos a h0) h1⟩
theorem ap1:(10:Int)^(18:Int).toNat=1000000000000000000:=by decide +kernel
theorem at3{i:Int}{x y z:V}(h0:0<=i)(h1:i<3):∃v,atI [x,y,z] i=some v/\(v=x∨v=y∨v=z):=by
 have:i=0∨i=1∨i=2:=by omega
 rcases this with rfl | rfl | rfl
 ·exact⟨x,rfl,.inl rfl⟩
 ·exact⟨y,rfl,.inr (.inl rfl)⟩
 ·exact⟨z,rfl,.inr (.inr rfl)⟩
structure FnM(K:PySem.W.Frag)(C:Addr)(m qual:Str)(st:Stmt)(ps:List Str):Prop where
 ex:∃(f:Addr) (fd:FuncData),Fun K m qual st f fd/\Binds K fd ps []/\Meth K C m f
structure DfM(P:Program)(w:World)(K:PySem.W.Frag)(mg:Str->Option Value)(base:Heap)(C:Addr)(m:Str)(k:Nat)(ps:List Str)(sp:Sp):Prop where
 ex:∃(f:Addr) (fd:FuncData),FnOk P w K mg base CX0 k f fd ps sp/\Binds K fd ps []/\Meth K C m f
section
variable{P:Program}{w:World}{K:PySem.W.Frag}{mg:Str->Option Value}{base:Heap}{m qual:Str}{st:Stmt}{ps N:List Str}{k:Nat}{sp:Sp}{C:Addr}
theorem FnM.dfs(F:FnM K C m qual st ps)(S':FnScope N ps (aaD st))(len:∀vs H Q E,sp vs H Q E->vs.length=ps.length)
  (hbody:∀(f:Addr) (cdv:Value) (A:Around) (outer:List Env) (s:Shared) (H:Hp) (vs:List V) (Q:VK) (E:XK),Room k (A.deeper (envOfC qual (aaD st) s.heap.objs.size f cdv))->sp vs H Q E->
   ∃t,Ss (abT CX0 P w K mg base N qual (aaD st) f cdv A outer s H E).nox (aaS st) t/\t {nx:=fun _ H'=>Q .non H',rt:=Q} (abC N vs) H):DfM P w K mg base C m (k+1) ps sp:=by
 obtain⟨f,fd,F1,hb,hm⟩:=F.ex
 refine⟨⟨f,fd,F1.ok S' len fun cdv A outer s H vs Q E hr h=>?_,hb,hm⟩⟩
 obtain⟨t,h1,h2⟩:=hbody f cdv A outer s H vs Q E hr h
 exact⟨t,h1.h,h2⟩
theorem amC{f:Addr}{oc:Value}{od an:Option Addr}{osl:Array (Option Value)}{kV doc pm cdv ct:Value}
  (a:PySem.W.findIn K (.ref C) m=some (some (.ref f))) (i:PySem.W.isFn K (.ref f)=true) (l:K.lookup f=some ⟨oc,od,.func (PySem.W.fnOf m qual (abD st) (aaS st) (aaD st) .none kV doc pm an cdv ct),osl⟩)
  (c:PySem.W.codeIn K cdv qual=true) (k:PySem.W.keepIn K (.ref f)=true)
  (hb:∀(kV doc pm:Value) (an:Option Addr) (cdv ct:Value) (us:List Value),us.length=ps.length->bindArgs (PySem.W.fnOf m qual (abD st) (aaS st) (aaD st) .none kV doc pm an cdv ct) ⟨us,[]⟩=pure (ps.zip us)):FnM K C m qual st ps:=by
 have F:=ag5 (st:=st) l c k
 exact⟨⟨f,_,F,F.binds (ps:=ps) hb,⟨a,i,k⟩⟩⟩
end
section
variable{X:Cx}{x m:Str}{C:Addr}{k k':Nat}{ps:List Str}{sp:Sp}{e o value:Expr}{es:List Expr}{ta tv:TE}{t:TA}{p pos apos pos':Pos}{f:Str}
end
structure Po(X:Cx)(o:Option Expr)(t:TO):Prop where
 h:PO X o t
structure Sls(X:Cx)(r:V->Option Int->Option Int->Hp->VK->Prop):Prop where
 h:SlR X r
section
variable{X:Cx}{e:Expr}{te:TE}{lo hi:Option Expr}{tl th:TO}{pos p2:Pos}
theorem poN:Po X none ahZ:=⟨ak4⟩
theorem poS(h:E X e te):Po X (some e) (al3 te):=⟨alN h.h⟩
theorem slL:Sls X (ap6 X.K):=⟨alO⟩
theorem eSl{r:V->Option Int->Option Int->Hp->VK->Prop}(hr:Sls X r)(he:E X e te)(hl:Po X lo tl)(hu:Po X hi th):E X (.Subscript e (.Slice lo hi none p2) pos) (tSl r te tl th):=⟨ajK hr.h he.h hl.h hu.h⟩
end
section
variable{P:Program}{w:World}{K:PySem.W.Frag}{mg:Str->Option Value}{base:Heap}{m qual:Str}{st:Stmt}{ps N:List Str}{k:Nat}{sp:Sp}{C:Addr}{dvs:List V}
end
section
variable{X:Cx}{x:Str}{C:Addr}{k k':Nat}{ps:List Str}{sp:Sp}{p pos:Pos}{dvs:List V}
end
end L2
namespace L2
open PySem PyProof.Rows
def tb(m:Int)(i:Nat):Bool:=m.toNat.testBit i
theorem agI(k:Nat):((2^k:Nat):Int)=(2:Int)^k:=by rw[Int.natCast_pow];rfl
theorem af9(k:Nat):(0:Int)<2^k:=by rw[←agI];exact Int.natCast_pos.mpr (Nat.two_pow_pos k)
theorem akK(a b:Nat):Builtin.bitAnd (a:Int) (b:Int)=((a&&& b:Nat):Int):=bitAnd_pp (Int.natCast_nonneg a) (Int.natCast_nonneg b)
theorem ajJ(a b:Nat):Builtin.bitOr (a:Int) (b:Int)=((a||| b:Nat):Int):=by
 rw[bitOr_and,akK]
 have:=nat_or_add_and a b
 omega
theorem ai8{a b:Int}(ha:0<=a)(hb:0<=b):0<=Builtin.bitOr a b:=by
 obtain⟨x,rfl⟩:=Int.eq_ofNat_of_zero_le ha
 obtain⟨y,rfl⟩:=Int.eq_ofNat_of_zero_le hb
 rw[ajJ]
 exact Int.natCast_nonneg _
theorem ajI{a b:Int}(ha:0<=a)(hb:0<=b)(i:Nat):tb (Builtin.bitOr a b) i=(tb a i||tb b i):=by
 obtain⟨x,rfl⟩:=Int.eq_ofNat_of_zero_le ha
 obtain⟨y,rfl⟩:=Int.eq_ofNat_of_zero_le hb
 unfold tb
 rw[ajJ,Int.toNat_natCast,Nat.testBit_or,Int.toNat_natCast,Int.toNat_natCast]
theorem ajX(k i:Nat):tb (2^k) i=decide (k=i):=by
 unfold tb
 rw[←agI,Int.toNat_natCast,Nat.testBit_two_pow]
theorem ah1(i:Nat):tb 0 i=false:=by unfold tb;simp
theorem ag6{a b:Int}(ha:0<=a)(hb:0<=b)(h:∀i,tb a i=tb b i):a=b:=by
 have:a.toNat=b.toNat:=Nat.eq_of_testBit_eq h
 omega
def arO(p:Nat->Bool)(lo:Int):Nat->List Int
 |0=>[]
 |n+1=>arO p lo n++(if p n=true then [lo+(n:Int)] else [])
@[irreducible] def flt(p:Nat->Bool)(lo:Int)(n:Nat):List Int:=arO p lo n
def abS(zs:List Int):Int:=zs.foldl (fun a z=>Builtin.bitOr a (1*2^z.toNat)) 0
theorem agV(zs:List Int)(z:Int):abS (zs++[z])=Builtin.bitOr (abS zs) (1*2^z.toNat):=by unfold abS;rw[List.foldl_append];rfl
theorem afH:∀(zs:List Int) (a:Int),0<=a->0<=zs.foldl (fun a z=>Builtin.bitOr a (1*2^z.toNat)) a/\∀i,tb (zs.foldl (fun a z=>Builtin.bitOr a (1*2^z.toNat)) a) i=(tb a i||zs.any fun z=>decide (z.toNat=i))
 |[],a,h=>⟨h,fun i=>by simp⟩
 |z::zs,a,h=>by
  have e:(1*2^z.toNat:Int)=2^z.toNat:=by omega
  have p:=Int.le_of_lt (af9 z.toNat)
  obtain⟨h1,h2⟩:=afH zs (Builtin.bitOr a (1*2^z.toNat)) (by rw[e];exact ai8 h p)
  refine⟨h1,fun i=>?_⟩
  show tb (zs.foldl _ (Builtin.bitOr a (1*2^z.toNat))) i=_
  rw[h2 i,e,ajI h p,ajX,List.any_cons,Bool.or_assoc]
theorem akF(zs:List Int):0<=abS zs:=(afH zs 0 (Int.le_refl 0)).1
theorem agH(zs:List Int)(i:Nat):tb (abS zs) i=zs.any fun z=>decide (z.toNat=i):=by
 have h:=(afH zs 0 (Int.le_refl 0)).2 i
 rw[ah1,Bool.false_or] at h
 exact h
end L2
namespace L2
open PySem PyProof.Rows
section
variable{X:Cx}{tg:Expr}
theorem ahX{a b c:Int}(hc:0<c):0<=Builtin.Range.rangeSize a b c:=by
 unfold Builtin.Range.rangeSize
 rw[if_pos hc]
 split
 ·have:0<=(b-a-1) / c:=Int.ediv_nonneg (by omega) (by omega)
  omega
 ·exact Int.le_refl 0
end
def akP(a:Addr)(lo hi st:Int):HO:=.ext fun h=>∃t u v,h.get? a=some {cls:=.type "range",data:=.fields #[.int lo t,.int hi u,.int st v]}
section
variable{X:Cx}
theorem aj6{pins:List (Addr×Obj)}{σ:St}{H:Hp}{s:Shared}{Q:VK}{lo hi st:Int}{t u v:Tok}{tk:Nat}(I:Inv X pins σ H s)(q:∀p,H p=none->Q (.ref p) (upd H p (akP p lo hi st))):
  EP X pins σ Q (.ref s.heap.objs.size) {s with heap:=s.heap.push {cls:=.type "range",data:=.fields #[.int lo t,.int hi u,.int st v]},toks:=tk}:=by
 refine⟨.ref s.heap.objs.size,upd H s.heap.objs.size (akP s.heap.objs.size lo hi st),I.laid (t':=tk) (fun b u e=>Heap.get?_push_of_some _ e) (Nat.le_refl _) ?_,rfl,q _ (I.hok.fresh (Nat.le_refl _))⟩
 have e:=Heap.get?_push_size s.heap (o:={cls:=.type "range",data:=.fields #[.int lo t,.int hi u,.int st v]}) rfl
 exact⟨⟨t,u,v,e⟩,⟨_,e⟩,fun h1 h2 ⟨t,u,v,z⟩ k=>⟨t,u,v,k _ z⟩⟩
theorem cRg3:Cl1 X (.type "range") (fun xs H Q=>∃i j c,xs=[.int i,.int j,.int c]/\(0<c/\c<1073741824)/\∀p,H p=none->Q (.ref p) (upd H p (akP p i j c))):=by
 refine⟨fun pins s σ H xs us Q I r h=>?_⟩
 obtain⟨i,j,c,rfl,⟨c0,c1⟩,q⟩:=h
 cases r with
 |cons r rr=>
  cases rr with
  |cons r' rr=>
   cases rr with
   |cons r'' rr=>
    cases rr
    obtain⟨t,rfl⟩:=r
    obtain⟨t',rfl⟩:=r'
    obtain⟨t'',rfl⟩:=r''
    exact call_range_3 (Int.ne_of_gt c0) (aj6 I q) (.inl (PyProof.noPylong_small (by omega)))
theorem ag4{lo st:Int}:∀{n:Nat} {acc:Array Value},ItemsOf (fun i v=>∃t,v=.int (lo+i*st) t) acc n->Vals ((List.range n).map fun i:Nat=>V.int (lo+i*st)) acc.toList:=by
 intro n acc h
 obtain⟨hz,hi⟩:=h
 have key:∀(m:Nat),m<=n->Vals ((List.range m).map fun i:Nat=>V.int (lo+i*st)) (acc.toList.take m):=by
  intro m
  induction m with
  |zero=>intro _;exact .nil
  |succ m ih=>
   intro hm
   have hlt:m<acc.toList.length:=by rw[Array.length_toList];omega
   obtain⟨t,e⟩:=hi m acc.toList[m] (by rw[←Array.getElem?_toList];exact List.getElem?_eq_getElem hlt)
   rw[List.range_succ,List.map_append,List.take_succ,List.getElem?_eq_getElem hlt]
   exact (ih (by omega)).append (.cons ⟨t,e⟩ .nil)
 have:=key n (Nat.le_refl _)
 rwa [List.take_of_length_le (by rw[Array.length_toList];omega)] at this
theorem cLR(hc:X.calm=true:=by rfl):Cl1 X (.type "list") (fun xs H Q=>∃(p:Addr) (lo hi st:Int) (n:Nat),xs=[.ref p]/\H p=some (akP p lo hi st)/\Builtin.Range.small lo hi st=true/\Builtin.Range.rangeSize lo hi st=(n:Int)/\n<=100000/\
  ∀l,H l=none->Q (.ref l) (upd H l (.lst ((List.range n).map fun i:Nat=>V.int (lo+i*st))))):=by
 refine⟨fun pins s σ H xs us Q I r h=>?_⟩
 obtain⟨p,lo,hi,st,n,rfl,hp,hs,hn,hl,q⟩:=h
 obtain⟨u,rfl,rx⟩:=abX r
 cases rx
 obtain⟨⟨t,u,v,e⟩,_,_⟩:=I.hok p _ hp
 refine call_list_range (I.ok.hd hc) e hs hn (Nat.le_trans hl (by decide)) fun h' tk acc c' kp hS hI=>?_
 have hz:((List.range n).map fun i:Nat=>V.int (lo+i*st)).length<=sizeLine:=by
  rw[List.length_map,List.length_range,sizeLine_eq]
  omega
 exact⟨.ref s.heap.objs.size,_,I.laid (t':=tk) kp (Nat.le_refl _) (show ObjOk X.prog X.w _ h' _ (.lst _) from ⟨hz,acc.toList,c',ag4 hI,by simpa using hS⟩),rfl,q _ (I.hok.fresh (Nat.le_refl _))⟩
theorem cLst:Cl1 X (.type "list") (fun xs H Q=>∃p ys,xs=[.ref p]/\(SqL X.K H p ys∨SqT X.K H p ys)/\∀l,H l=none->Q (.ref l) (upd H l (.lst ys))):=⟨afU⟩
theorem akR:Op2 X (compareOp .Is) (fun x y H Q=>y=.non/\Q (.bl (decide (x=.non))) H):=⟨anD⟩
theorem oIn:Op2 X (compareOp .In) (rIn X.K false):=⟨aiW⟩
end
theorem Same.none{H H':Hp}{D:Addr}(s:Same H H')(h:H' D=none):H D=none:=by
 cases e:H D with
 |none=>rfl
 |some o=>exact absurd (h.symm.trans (s _ _ e)) (by simp)
def Keep(H H':Hp):Prop:=∀b o,(∀xs,o≠ .lst xs)->H b=some o->H' b=some o
theorem Same.keep{H H':Hp}(s:Same H H'):Keep H H':=fun b o _ h=>s b o h
theorem Keep.trans{H H1 H2:Hp}(a:Keep H H1)(b:Keep H1 H2):Keep H H2:=fun c o n h=>b c o n (a c o n h)
theorem Keep.tup{H H':Hp}(k:Keep H H'){b:Addr}{xs:List V}(h:H b=some (.tup xs)):H' b=some (.tup xs):=k b _ (fun _ z=>nomatch z) h
theorem Keep.ins{H H':Hp}(k:Keep H H'){b C dx:Addr}{fs:List (Str×V)}(h:H b=some (.ins C dx fs)):H' b=some (.ins C dx fs):=k b _ (fun _ z=>nomatch z) h
section
variable{js:List Nat}{σ:St}{tt:TT}{te:TE}{Q:VK}{H1:Hp}
end
section
variable{X:Cx}{K:PySem.W.Frag}
theorem xLc(hK:X.K=K:=by rfl):Ixs X (am3 K):=hK▸xL
end
inductive Kd where
 |int | bool | str | non | list | tuple | dict
def Kd.nm:Kd->String
 |.int=>"int" | .bool=>"bool" | .str=>"str" | .non=>"NoneType" | .list=>"list" | .tuple=>"tuple" | .dict=>"dict"
def Kd.isa:Kd->Kd->Bool
 |.int,.int=>true | .bool,.int=>true | .bool,.bool=>true | .str,.str=>true | .list,.list=>true | .tuple,.tuple=>true | .dict,.dict=>true | _,_=>false
def agO(K:PySem.W.Frag)(H:Hp):V->Kd->Prop
 |.int _,k=>k=.int
 |.bl _,k=>k=.bool
 |.str _,k=>k=.str
 |.non,k=>k=.non
 |.ref a,k=>(k=.list/\∃xs,SqL K H a xs)∨(k=.tuple/\∃xs,SqT K H a xs)∨(k=.dict/\∃kvs,H a=some (.dK kvs))
 |_,_=>False
theorem cIs{X:Cx}:Cl1 X (.builtin "isinstance") (fun xs H Q=>∃(v:V) (n k:Kd),xs=[v,.ty n.nm]/\n.nm≠"NoneType"/\agO X.K H v k/\Q (.bl (Kd.isa k n)) H):=by
 refine⟨fun pins s σ H xs us Q I r h=>?_⟩
 obtain⟨v,n,k,rfl,hn,hk,q⟩:=h
 obtain⟨u,w',rfl,r1,r2⟩:=aeZ r
 cases r2
 have fin:∀tk,EP X pins σ Q (.bool (Kd.isa k n)) {s with toks:=tk}:=fun tk=>⟨.bl _,H,I.tok _,rfl,q⟩
 have fin0:EP X pins σ Q (.bool (Kd.isa k n)) s:=⟨.bl _,H,I,rfl,q⟩
 cases v with
 |int i=>
  obtain⟨t,rfl⟩:=r1
  cases (show k=Kd.int from hk)
  cases n with
  |int=>exact PySem.IsiPair.int_int fin0
  |bool=>exact PySem.IsiPair.int_bool (fin _)
  |str=>exact PySem.IsiPair.int_str (fin _)
  |list=>exact PySem.IsiPair.int_list (fin _)
  |tuple=>exact PySem.IsiPair.int_tuple (fin _)
  |dict=>exact PySem.IsiPair.int_dict (fin _)
  |non=>exact absurd rfl hn
 |bl b=>
  cases r1
  cases (show k=Kd.bool from hk)
  cases n with
  |int=>exact PySem.IsiPair.bool_int fin0
  |bool=>exact PySem.IsiPair.bool_bool fin0
  |str=>exact PySem.IsiPair.bool_str (fin _)
  |list=>exact PySem.IsiPair.bool_list (fin _)
  |tuple=>exact PySem.IsiPair.bool_tuple (fin _)
  |dict=>exact PySem.IsiPair.bool_dict (fin _)
  |non=>exact absurd rfl hn
 |str x=>
  obtain⟨t,rfl⟩:=r1
  cases (show k=Kd.str from hk)
  cases n with
  |int=>exact PySem.IsiPair.str_int (fin _)
  |bool=>exact PySem.IsiPair.str_bool (fin _)
  |str=>exact PySem.IsiPair.str_str fin0
  |list=>exact PySem.IsiPair.str_list (fin _)
  |tuple=>exact PySem.IsiPair.str_tuple (fin _)
  |dict=>exact PySem.IsiPair.str_dict (fin _)
  |non=>exact absurd rfl hn
 |non=>
  cases r1
  cases (show k=Kd.non from hk)
  cases n with
  |int=>exact PySem.IsiPair.NoneType_int (fin _)
  |bool=>exact PySem.IsiPair.NoneType_bool (fin _)
  |str=>exact PySem.IsiPair.NoneType_str (fin _)
  |list=>exact PySem.IsiPair.NoneType_list (fin _)
  |tuple=>exact PySem.IsiPair.NoneType_tuple (fin _)
  |dict=>exact PySem.IsiPair.NoneType_dict (fin _)
  |non=>exact absurd rfl hn
 |ref a=>
  cases r1
  rcases hk with ⟨rfl,ys,hq⟩ | ⟨rfl,ys,hq⟩ | ⟨rfl,kvs,hq⟩
  ·obtain⟨its,rv,pl,_⟩:=I.list hq
   obtain⟨o,ho,hc,_⟩:=pl.isList
   cases n with
   |int=>exact PySem.IsiPair.list_int ho hc (fin _)
   |bool=>exact PySem.IsiPair.list_bool ho hc (fin _)
   |str=>exact PySem.IsiPair.list_str ho hc (fin _)
   |list=>exact PySem.IsiPair.list_list ho hc fin0
   |tuple=>exact PySem.IsiPair.list_tuple ho hc (fin _)
   |dict=>exact PySem.IsiPair.list_dict ho hc (fin _)
   |non=>exact absurd rfl hn
  ·obtain⟨its,rv,⟨o,ho,hc,_⟩,_⟩:=I.tuple hq
   cases n with
   |int=>exact PySem.IsiPair.tuple_int ho hc (fin _)
   |bool=>exact PySem.IsiPair.tuple_bool ho hc (fin _)
   |str=>exact PySem.IsiPair.tuple_str ho hc (fin _)
   |list=>exact PySem.IsiPair.tuple_list ho hc (fin _)
   |tuple=>exact PySem.IsiPair.tuple_tuple ho hc fin0
   |dict=>exact PySem.IsiPair.tuple_dict ho hc (fin _)
   |non=>exact absurd rfl hn
  ·obtain⟨_,_,_,_,o,_,_,ho,ex,_⟩:=I.hok a _ hq
   cases n with
   |int=>exact PySem.IsiPair.dict_int ho ex.1 (fin _)
   |bool=>exact PySem.IsiPair.dict_bool ho ex.1 (fin _)
   |str=>exact PySem.IsiPair.dict_str ho ex.1 (fin _)
   |list=>exact PySem.IsiPair.dict_list ho ex.1 (fin _)
   |tuple=>exact PySem.IsiPair.dict_tuple ho ex.1 (fin _)
   |dict=>exact PySem.IsiPair.dict_dict ho ex.1 fin0
   |non=>exact absurd rfl hn
 |byt b=>exact False.elim hk
 |flt b=>exact False.elim hk
 |ty n=>exact False.elim hk
end L2
namespace L2
open PySem PySem.Spec PyProof.Rows PySem.Builtin PySem.Builtin.Str
abbrev Tx(l:List Nat):Str:=⟨l.toArray⟩
theorem Tx_inj{a b:List Nat}:Tx a=Tx b↔a=b:=⟨fun h=>by
 have:(Tx a).cps.toList=(Tx b).cps.toList:=by rw[h]
 simpa using this,fun h=>by rw[h]⟩
theorem aj0(x:Str):Tx x.cps.toList=x:=by cases x;simp
theorem abA(a:List Nat):(Tx a).length=a.length:=by simp[Str.length]
def Itx(x:Str):It:=⟨fun i _=>i<x.cps.size,fun i H v H'=>H'=H/\∃c,x.cps[i]? =some c/\v=.str ⟨#[c]⟩,fun i _=>i=x.cps.size⟩
theorem aiE{P:Program}{w:World}{K:PySem.W.Frag}{tg:Expr}(x:Str)(t:Tok)(it:Addr):Turn P w K tg (Itx x) [it] it (fun i h=>h.IsStrIter it "str_ascii_iterator" x t i) where
 mem:=by simp
 obj:=fun i h st b hb=>by
  have e:b=it:=by simpa using hb
  subst e
  obtain⟨o,e,c,d⟩:=st
  exact⟨o,e,fun v z=>by rw[d] at z;cases z⟩
 keep:=fun i h h' st k=>by
  obtain⟨o,e,r⟩:=st
  exact⟨o,k it (by simp) o e,r⟩
 item:=by
  intro X hP hw hK hc i pins s σ H E I hf st hg
  subst hP hw hK
  obtain⟨f0,f1,f2,f3,f4,f5⟩:=hf it (by simp)
  have hg:i<x.cps.size:=hg
  refine wpAny_pyNext_ascii_item st (c:=x.cps[i]) (by simp[hg]) fun h' st' sb=>?_
  have I1:Inv X pins σ H {s with heap:=h',toks:=s.toks+1}:=I.turned (fun b o hb e=>sb.extBut b o hb e) f0 f1 f3 f4 f5
  obtain⟨o,e,c,d⟩:=id st'
  exact⟨_,rfl,ahW (s:={s with heap:=h',toks:=s.toks+1}) e c d (by decide) ⟨.str ⟨#[x.cps[i]]⟩,H,I1,⟨_,rfl⟩,⟨rfl,x.cps[i],by simp[hg],rfl⟩,st',fun b hb=>(hf b hb).1⟩⟩
 done:=by
  intro X hP hw hK hc i pins s σ H E I hf st hg
  subst hP hw hK
  obtain⟨f0,f1,f2,f3,f4,f5⟩:=hf it (by simp)
  have hg:i=x.cps.size:=hg
  exact wpAny_pyNext_ascii_end (I.ok.hd hc) st (by simp[hg]) fun h' eb=>⟨rfl,I.turned (t':=s.toks) (fun b o hb e=>eb b o hb e) f0 f1 f3 f4 f5⟩
 self:=fun _ _ _ _ _ st h=>wpAny_pyIter_striter_ascii st h
theorem aiR{P:Program}{w:World}{K:PySem.W.Frag}{tg:Expr}(x:Str)(t:Tok)(it:Addr):Turn P w K tg (Itx x) [it] it (fun i h=>h.IsStrIter it "str_iterator" x t i) where
 mem:=by simp
 obj:=fun i h st b hb=>by
  have e:b=it:=by simpa using hb
  subst e
  obtain⟨o,e,c,d⟩:=st
  exact⟨o,e,fun v z=>by rw[d] at z;cases z⟩
 keep:=fun i h h' st k=>by
  obtain⟨o,e,r⟩:=st
  exact⟨o,k it (by simp) o e,r⟩
 item:=by
  intro X hP hw hK hc i pins s σ H E I hf st hg
  subst hP hw hK
  obtain⟨f0,f1,f2,f3,f4,f5⟩:=hf it (by simp)
  have hg:i<x.cps.size:=hg
  refine wpAny_pyNext_wide_item st (c:=x.cps[i]) (by simp[hg]) fun h' st' sb=>?_
  have I1:Inv X pins σ H {s with heap:=h',toks:=s.toks+1}:=I.turned (fun b o hb e=>sb.extBut b o hb e) f0 f1 f3 f4 f5
  obtain⟨o,e,c,d⟩:=id st'
  exact⟨_,rfl,ahW (s:={s with heap:=h',toks:=s.toks+1}) e c d (by decide) ⟨.str ⟨#[x.cps[i]]⟩,H,I1,⟨_,rfl⟩,⟨rfl,x.cps[i],by simp[hg],rfl⟩,st',fun b hb=>(hf b hb).1⟩⟩
 done:=by
  intro X hP hw hK hc i pins s σ H E I hf st hg
  subst hP hw hK
  obtain⟨f0,f1,f2,f3,f4,f5⟩:=hf it (by simp)
  have hg:i=x.cps.size:=hg
  exact wpAny_pyNext_wide_end (I.ok.hd hc) st (by simp[hg]) fun h' eb=>⟨rfl,I.turned (t':=s.toks) (fun b o hb e=>eb b o hb e) f0 f1 f3 f4 f5⟩
 self:=fun _ _ _ _ _ st h=>wpAny_pyIter_striter_wide st h
section
variable{X:Cx}{tg:Expr}
def iTxt(tl:TE):TI:=fun σ H R=>tl σ H fun x H1=>∃z,x=.str z/\R (Itx z) H1
theorem iX{l:Expr}{tl:TE}(hl:E X l tl):Il X tg l (iTxt tl):=by
 refine⟨fun pins s σ H R I h=>?_⟩
 refine thn (hl.h pins s σ H _ I h) fun u s1 ⟨x,H1,I1,r1,q1⟩=>?_
 obtain⟨z,rfl,q⟩:=q1
 obtain⟨t,rfl⟩:=r1
 have fp:∀b∈[s1.heap.objs.size],acR X pins H1 b:=fun b hb=>by
  have e:b=s1.heap.objs.size:=by simpa using hb
  subst e
  exact I1.fpOk (Nat.le_refl _) (I1.hok.fresh (Nat.le_refl _))
 cases ha:z.cps.all (·<128)
 ·exact wpAny_pyIter_wide ha ⟨s1.heap.objs.size,[s1.heap.objs.size],_,_,H1,rfl,I1.kept (t':=s1.toks) fun b o e=>Heap.get?_push_of_some _ e,aiR z t _,⟨_,Heap.get?_push_size _ rfl,rfl,rfl⟩,fp,q⟩
 ·exact wpAny_pyIter_ascii ha ⟨s1.heap.objs.size,[s1.heap.objs.size],_,_,H1,rfl,I1.kept (t':=s1.toks) fun b o e=>Heap.get?_push_of_some _ e,aiE z t _,⟨_,Heap.get?_push_size _ rfl,rfl,rfl⟩,fp,q⟩
end
section
variable{js:List Nat}{σ:St}{tt:TT}{te:TE}{Q:VK}{H1:Hp}
theorem ajQ{xs:List Nat}(R:Nat->List V->Prop)(hn:xs.length<=sizeLine)(h0:R 0 [])
  (hs:∀(i:Nat) (c:Nat) (l:List V) (D:Addr) (H2:Hp) (E:V->Hp->Prop) (F:Hp->Prop),xs[i]? =some c->R i l->H1 D=none->Same H1 H2->H2 D=some (.lst l)->(∀y H5,Same H2 H5->R (i+1) (l++[y])->E y H5)->(∀H4,Same H2 H4->R (i+1) l->F H4)->
   tt (some (.str (Tx [c]))::aa8 js σ) H2 fun b H4=>if b=true then te (some (.str (Tx [c]))::aa8 js σ) H4 E else F H4)
  (hd:∀(D:Addr) (H2:Hp) (l:List V),R xs.length l->H1 D=none->Same H1 H2->H2 D=some (.lst l)->Q (.ref D) H2):ah0 (Itx (Tx xs)) js σ tt te Q H1:=by
 intro D hD
 have hz:(Tx xs).cps.size=xs.length:=by simp
 refine⟨fun i m H2=>m=xs.length-i/\i<=xs.length/\Same H1 H2/\∃l,H2 D=some (.lst l)/\l.length<=i/\R i l,⟨xs.length,by simp,Nat.zero_le _,aaB hD _,[],aaA,Nat.le_refl _,h0⟩,?_⟩
 rintro i m H2 ⟨rfl,hi,s2,l,h2,hll,hR⟩
 by_cases hlt:i<xs.length
 ·refine .inr ⟨show i<(Tx xs).cps.size by rw[hz];exact hlt,fun v H3 y=>?_⟩
  obtain⟨e,c,ec,ev⟩:=y
  subst e ev
  refine hs i c l D _ _ _ (by simpa using ec) hR hD s2 h2 (fun z H5 s5 r5=>?_) (fun H4 s4 r4=>?_)
  ·refine⟨l,s5 _ _ h2,Nat.lt_of_le_of_lt hll (Nat.lt_of_lt_of_le hlt hn),xs.length-(i+1),by omega,rfl,hlt,fun b o hb=>?_,l++[z],aaA,by rw[List.length_append,List.length_singleton];omega,r5⟩
   rw[aaH (aaG hb hD)]
   exact s5 _ _ (s2 _ _ hb)
  ·exact⟨xs.length-(i+1),by omega,rfl,hlt,s2.trans s4,l,s4 _ _ h2,by omega,r4⟩
 ·have e:i=xs.length:=by omega
  subst e
  exact .inl ⟨show xs.length=(Tx xs).cps.size by rw[hz],hd D H2 l hR hD s2 h2⟩
end
section
variable{X:Cx}
theorem agM{prog:Program}{w:World}{A:Around}{its:Array Value}{bs:List Bool}(r:Vals (bs.map V.bl) its.toList):TruthOf prog w A (fun i v=>its[i]? =some v) (fun i=>bs.getD i false):=by
 intro i v s Q E hv hq
 have hv':its.toList[i]? =some v:=by rw[Array.getElem?_toList];exact hv
 have hi:i<bs.length:=by
  have h1:=r.length
  rw[List.length_map] at h1
  rcases Nat.lt_or_ge i its.toList.length with z | z
  ·omega
  ·rw[List.getElem?_eq_none z] at hv';cases hv'
 obtain⟨u,hu,ru⟩:=r.get (i:=i) (x:=V.bl bs[i]) (by rw[List.getElem?_map,List.getElem?_eq_getElem hi];rfl)
 rw[hv'] at hu
 cases hu
 cases ru
 have e:bs.getD i false=bs[i]:=by simp[List.getD,List.getElem?_eq_getElem hi]
 have hq:Q (bs.getD i false) s:=hq
 rw[e] at hq
 exact wpAny_truthy_bool hq
theorem aiF(bs:List Bool):(List.range bs.length).all (fun i=>bs.getD i false)=bs.all id:=by
 rw[Bool.eq_iff_iff,List.all_eq_true,List.all_eq_true]
 refine⟨fun h b hb=>?_,fun h i hi=>?_⟩
 ·obtain⟨i,hi,e⟩:=List.getElem_of_mem hb
  have:=h i (List.mem_range.mpr hi)
  rw[show bs.getD i false=bs[i] by simp[List.getD,List.getElem?_eq_getElem hi],e] at this
  exact this
 ·have hi:=List.mem_range.mp hi
  rw[show bs.getD i false=bs[i] by simp[List.getD,List.getElem?_eq_getElem hi]]
  exact h _ (List.getElem_mem hi)
theorem cAll(hc:X.calm=true:=by rfl):Cl1 X (.builtin "all") (fun xs H Q=>∃(p:Addr) (bs:List Bool),xs=[.ref p]/\SqL X.K H p (bs.map V.bl)/\Q (.bl (bs.all id)) H):=by
 refine⟨fun pins s σ H xs us Q I r h=>?_⟩
 obtain⟨p,bs,rfl,hq,q⟩:=h
 obtain⟨u,rfl,r1⟩:=abX r
 cases r1
 obtain⟨its,rv,pl,hz⟩:=I.list hq
 have hne:p≠s.heap.objs.size:=by
  obtain⟨o,ho,_⟩:=pl.isList
  exact Nat.ne_of_lt (Heap.lt_size ho)
 refine call_all_walk (wpAny_pyIter_list pl.isList ⟨s.heap.objs.size,[s.heap.objs.size,p],[s.heap.objs.size],its.toArray.size,(fun i v=>its.toArray[i]? =some v),(fun i h=>h.IsListIter s.heap.objs.size p i/\h.IsList p its.toArray),(fun i=>bs.getD i false),rfl,Walks.list (prog:=X.prog) (w:=X.w) (A:=X.A.in1) (I.ok.hd hc) _ p hne its.toArray,⟨⟨_,Heap.get?_push_size _ rfl,rfl,rfl⟩,pl.isList.push _⟩,agM (by simpa using rv),fun h' tk hk=>?_⟩)
 have hl:=rv.length
 rw[List.length_map] at hl
 have e:its.toArray.size=bs.length:=by rw[List.size_toArray];omega
 rw[e,aiF]
 exact⟨.bl _,H,I.kept fun b o eb=>hk b o (by simpa using Nat.ne_of_lt (Heap.lt_size eb)) (Heap.get?_push_of_some _ eb),rfl,q⟩
end
end L2
namespace L2
open PySem PySem.Spec PyProof.Rows PySem.Builtin PySem.Builtin.Str
def spl(c:Nat):List Nat->List (List Nat)
 |[]=>[[]]
 |x::r=>if x=c then []::spl c r else match spl c r with
  |h::t=>(x::h)::t
  |[]=>[[x]]
def aaE(c:Nat):List (List Nat)->List Nat
 |[]=>[]
 |[p]=>p
 |p::r=>p++c::aaE c r
theorem amR(c:Nat):∀l,spl c l≠[]
 |[]=>by simp[spl]
 |x::r=>by
  unfold spl
  split
  ·simp
  ·split<;>simp
theorem abM(c:Nat):∀(p:List Nat),c∉p->spl c p=[p]
 |[],_=>rfl
 |x::r,h=>by
  have h1:¬x=c:=fun e=>h (by simp[e])
  have h2:=abM c r fun e=>h (by simp[e])
  unfold spl
  rw[if_neg h1,h2]
theorem adR(c:Nat):∀(p r:List Nat),c∉p->spl c (p++c::r)=p::spl c r
 |[],r,_=>by
  show spl c (c::r)=_
  unfold spl
  rw[if_pos rfl]
  cases r<;>rfl
 |x::q,r,h=>by
  have h1:¬x=c:=fun e=>h (by simp[e])
  have h2:=adR c q r fun e=>h (by simp[e])
  show spl c (x::(q++c::r))=_
  rw[spl,if_neg h1,h2]
theorem abL(c:Nat):∀(ps:List (List Nat)),ps≠[]->(∀p∈ps,c∉p)->spl c (aaE c ps)=ps
 |[],h,_=>absurd rfl h
 |[p],_,h=>abM c p (h p (by simp))
 |p::q::r,_,h=>by
  show spl c (p++c::aaE c (q::r))=_
  rw[adR c p _ (h p (by simp)),abL c (q::r) (by simp) fun z hz=>h z (List.mem_cons_of_mem _ hz)]
theorem afW(c:Nat):∀ps:List Str,(Str.join (Tx [c]) ps).cps.toList=aaE c (ps.map (·.cps.toList))
 |[]=>rfl
 |[p]=>rfl
 |p::q::r=>by
  have ih:=afW c (q::r)
  show (p++Tx [c]++Str.join (Tx [c]) (q::r)).cps.toList=p.cps.toList++c::aaE c ((q::r).map (·.cps.toList))
  rw[←ih]
  show ((p.cps++ #[c])++(Str.join (Tx [c]) (q::r)).cps).toList=_
  simp
theorem akB(x y:Str)(h:Txt.split x y=[]):False:=by
 unfold Txt.split at h
 split at h
 ·cases h
 ·split at h
  ·cases h
  ·have e:=congrArg List.length h
   rw[length_partsBetween] at e
   simp at e
theorem aiZ(l:List Nat)(c:Nat):(Txt.split (Tx l) (Tx [c])).map (·.cps.toList)=spl c l:=by
 have h1:=StrLaws.join_split (Tx l) (Tx [c])
 have h2:=StrLaws.split_free (Tx l) c
 have h3:=afW c (Txt.split (Tx l) (Tx [c]))
 rw[h1] at h3
 have e:aaE c ((Txt.split (Tx l) (Tx [c])).map (·.cps.toList))=l:=by rw[←h3]
 rw[←abL c ((Txt.split (Tx l) (Tx [c])).map (·.cps.toList)) (fun z=>akB _ _ (List.map_eq_nil_iff.mp z)) ?_,e]
 intro p hp
 obtain⟨z,hz,rfl⟩:=List.mem_map.mp hp
 exact h2 z hz
theorem aiP(l:List Nat)(c:Nat):Txt.split (Tx l) (Tx [c])=(spl c l).map Tx:=by
 rw[←aiZ,List.map_map]
 have:∀ps:List Str,ps=ps.map ((fun w:List Nat=>Tx w) ∘ fun x=>x.cps.toList):=fun ps=>by
  induction ps with
  |nil=>rfl
  |cons a r ih=>rw[List.map_cons,←ih];simp
 exact this _
theorem ae4:∀l:List (Str×Tok),Vals (l.map fun p=>V.str p.1) (strValues l)
 |[]=>.nil
 |p::r=>.cons ⟨p.2,rfl⟩ (ae4 r)
section
variable{prog:Program}{w:World}{A:Around}{E:Value->Shared->Prop}{s:Shared}{x y:Str}{t u:Tok}{Q:Value->Shared->Prop}
theorem ag2(hy:(y.length==0)=false)(hsz:x.length+2<=sizeLine)
  (h:∀l k,l.map (·.1)=Txt.split x y->Q (.ref s.heap.objs.size) {s with heap:=s.heap.push {cls:=.type "list",data:=.seq (strValues l).toArray},toks:=k}):
  wpAny (model prog w) A (call (.builtin "str.split") [.str x t,.str y u]) Q E s:=by
 have hn:(partsBetween x (occurrences x y 0 x.length (x.length+1)) y.length).length<=sizeLine:=by
  have e1:=StrLaws.occ_length_le x y 0 x.length (x.length+1)
  rw[length_partsBetween];omega
 cases h1:(decide (x.length<y.length)||decide (strKind x<strKind y))
 ·cases hf:(occurrences x y 0 x.length (x.length+1)).isEmpty
  ·refine call_meets F.slot_str_split (typeIs_str _ _ _) F.entry_str_split (F.args_str_split_2 _ _) (meets_str_split_sep x y t u h1 hy hf (by omega) hn) ?_
   show wants Q E _ {s with toks:=_,heap:=s.heap.push {cls:=.type "list",data:=.seq (strsFrom s.toks (partsBetween x (occurrences x y 0 x.length (x.length+1)) y.length)).toArray} }
   rw[strsFrom_eq]
   exact h (numbered s.toks _) _ ((numbered_texts _ _).trans ((if_neg (ne_true_of_eq_false h1)).trans (if_neg (ne_true_of_eq_false hf))).symm)
  ·exact call_meets F.slot_str_split (typeIs_str _ _ _) F.entry_str_split (F.args_str_split_2 _ _) (meets_str_split_not_found x y t u h1 hy hf)
    (h [(x,t)] s.toks ((if_neg (ne_true_of_eq_false h1)).trans (if_pos hf)).symm)
 ·exact call_meets F.slot_str_split (typeIs_str _ _ _) F.entry_str_split (F.args_str_split_2 _ _) (meets_str_split_cannot_occur x y t u h1)
   (h [(x,t)] s.toks (if_pos h1).symm)
end
theorem adQ(c:Nat):∀l,(spl c l).length<=l.length+1
 |[]=>by simp[spl]
 |x::r=>by
  have ih:=adQ c r
  unfold spl
  split
  ·simp;omega
  ·split
   ·rename_i e;rw[e] at ih;simp at ih ⊢;omega
   ·simp
section
variable{X:Cx}
def ai9:V->List V->Hp->VK->Prop:=fun x vs H Q=>∃(l:List Nat) (c:Nat),x=.str (Tx l)/\vs=[.str (Tx [c])]/\l.length+2<=sizeLine/\∀p,H p=none->Q (.ref p) (upd H p (.lst ((spl c l).map fun q=>V.str (Tx q))))
theorem ai1:MtR X "str.split" ai9:=by
 intro pins s σ H x xs v us Q I rx rv h
 obtain⟨l,c,rfl,rfl,hz,q⟩:=h
 obtain⟨u,rfl,t',rfl⟩:=abX rv
 obtain⟨t,rfl⟩:=rx
 refine ag2 (by rfl) (by rw[abA];exact hz) fun ps k e=>?_
 have e2:ps.map (fun p=>V.str p.1)=(spl c l).map fun q=>V.str (Tx q):=by
  have:=congrArg (List.map V.str) e
  rw[aiP,List.map_map,List.map_map] at this
  exact this
 have hl:((spl c l).map fun q=>V.str (Tx q)).length<=sizeLine:=by
  have:=adQ c l
  rw[List.length_map]
  omega
 refine⟨.ref s.heap.objs.size,upd H s.heap.objs.size (.lst ((spl c l).map fun q=>V.str (Tx q))),I.laid (t':=k) (fun b u e=>Heap.get?_push_of_some _ e) (Nat.le_refl _) ?_,rfl,q _ (I.hok.fresh (Nat.le_refl _))⟩
 exact⟨hl,strValues ps,0,by rw[←e2];exact ae4 ps,Heap.get?_push_size _ rfl⟩
theorem anA{o e:Expr}{to te:TE}{apos cpos:Pos}(ho:E X o to)(he:E X e te)(hbase:attributeBase o "split" X.env (eval o X.env)=eval o X.env:=by rfl)
  (hfew:((backTo cpos (starEach [e] X.env)).all (fun x=> !x.1)&&(backToKw cpos (keywordEach [] X.env)).all (fun x=>x.1.isSome)&&decide (([e]:List Expr).length+([]:List Keyword).length+(if ([]:List Keyword).isEmpty then 0 else 1)<30))=true:=by rfl)
  (hline:(apos.endLine==cpos.line)=true:=by rfl) (hs:starEach [e] X.env=(false,eval e X.env)::starEach [] X.env:=by rfl) (hplain:(backTo cpos (starEach [] X.env)).any (·.1)=false:=by rfl):
  E X (.Call (.Attribute o "split" apos) [e] [] cpos) (tBM X.K "str" ai9 to (aeQ te aiC)):=
 ⟨ajL PySem.F.plainAttrs_str PySem.F.slot_str_split PySem.F.type_str_split ai1 ho.h (ab8 he.h ac6 hs) hbase hfew hline hs hplain⟩
theorem oInX:Op2 X (compareOp .In) (fun x y H Q=>∃(c:Nat) (l:List Nat),x=.str (Tx [c])/\y=.str (Tx l)/\Q (.bl (decide (c∈l))) H):=by
 refine⟨fun pins s σ H x y v u Q I rx ry h=>?_⟩
 obtain⟨c,l,rfl,rfl,q⟩:=h
 refine aiJ pins s σ H _ _ v u Q I rx ry ⟨_,_,rfl,rfl,?_⟩
 rw[show (!(occurrences (Tx l) (Tx [c]) 0 (Tx l).length 1).isEmpty)=decide (c∈(Tx l).cps.toList) from StrLaws.found_one (Tx l) c]
 exact q
theorem ahS:Cl1 X (.builtin "len") (fun xs H Q=>∃l:List Nat,xs=[.str (Tx l)]/\l.length<=sizeLine/\Q (.int l.length) H):=by
 refine⟨fun pins s σ H xs us Q I r h=>?_⟩
 obtain⟨l,rfl,hz,q⟩:=h
 refine afS pins s σ H _ us Q I r ⟨Tx l,rfl,by rw[abA];exact hz,?_⟩
 rw[abA]
 exact q
theorem aaI:Op2 X (binaryOp .Add) (fun x y H Q=>∃a b:List Nat,x=.str (Tx a)/\y=.str (Tx b)/\a.length+b.length<=sizeLine/\Q (.str (Tx (a++b))) H):=by
 refine⟨fun pins s σ H x y v u Q I rx ry h=>?_⟩
 obtain⟨a,b,rfl,rfl,hz,q⟩:=h
 refine ag1 pins s σ H _ _ v u Q I rx ry ⟨_,_,rfl,rfl,by rw[abA,abA];exact hz,?_⟩
 have e:Tx a++Tx b=Tx (a++b):=by show Str.mk _=Str.mk _;simp
 rw[e]
 exact q
theorem xX:Ixs X (fun x y H Q=>∃(l:List Nat) (i:Int) (c:Nat),x=.str (Tx l)/\y=.int i/\l.length<=sizeLine/\atI l i=some c/\Q (.str (Tx [c])) H):=by
 refine⟨fun value slice pins s σ H x y v u Q I rx ry h hs=>?_⟩
 obtain⟨l,i,c,rfl,rfl,hz,ha,q⟩:=h
 exact amX value slice pins s σ H _ _ v u Q I rx ry ⟨Tx l,i,c,rfl,rfl,by rw[abA];exact hz,by simpa using ha,q⟩ hs
end
end L2
namespace L2
open PySem PySem.Spec PyProof.Rows PySem.Builtin PySem.Builtin.Str
section
variable{X:Cx}{pins:List (Addr×Obj)}{σ:St}{H:Hp}{s:Shared}{h':Heap}
theorem Inv.turnT{ch:List Addr}{T:Addr}{o:HO}{t':Nat}(I:Inv X pins σ H s)(k:∀b u,b∉ch->s.heap.get? b=some u->h'.get? b=some u)(hch:∀b∈ch,acR X pins H b)(hT:s.heap.objs.size<=T)(new:ObjOk X.prog X.w (upd H T o) h' T o):
  Inv X pins σ (upd H T o) {s with heap:=h',toks:=t'}:=by
 have hn:=I.hok.fresh hT
 have nit:∀b u,H b=some u->b∉ch:=fun b u e z=>by rw[(hch b z).1] at e;cases e
 refine I.step (g':=s.gens) (d':=s.drawn) (ch:=ch) (fun b hb=>?_) (fun b u _ _ hc e _=>k b u hc e) (fun b u _ _ hc e _=>⟨u.slots,k b u hc e⟩) (fun b u _ e n=>?_)
  (fun b u hc e=>⟨u,k b u hc e⟩) (fun b xs e=>by rw[aaH (aaG e hn)];exact e) (fun b u xs e=>by rw[aaH (aaG e hn)];exact e) (fun b ps e=>⟨#[],by rw[aaH (aaG e hn),e];simp⟩) (fun m hm=>?_) (fun b u e=>?_) I.bare
 ·obtain⟨f0,f1,f2,f3,f4,f5⟩:=hch b hb
  exact⟨f3,f1,f4,f5⟩
 ·rw[aaH (Nat.ne_of_lt (Nat.lt_of_lt_of_le (Heap.lt_size e) hT))]
  exact n
 ·obtain⟨ob,es,ep,ho,r⟩:=hm
  exact⟨ob,es,ep,k _ ob (fun z=>(hch _ z).2.1 rfl) ho,r⟩
 ·by_cases hb:b=T
  ·subst hb;rw[aaA] at e;cases e;exact new
  ·rw[aaH hb] at e
   refine (I.hok b u e).stay (fun c v hc q=>k c v ?_ q) (fun c q=>by rw[aaH (aaG q hn)];exact q) fun c xs q=>by rw[aaH (aaG q hn)];exact q
   rcases hc with z | z
   ·rw[z];exact nit b u e
   ·exact nit c _ z
theorem Inv.turnN{ch:List Addr}{t':Nat}(I:Inv X pins σ H s)(k:∀b u,b∉ch->s.heap.get? b=some u->h'.get? b=some u)(hch:∀b∈ch,acR X pins H b):Inv X pins σ H {s with heap:=h',toks:=t'}:=by
 have nit:∀b u,H b=some u->b∉ch:=fun b u e z=>by rw[(hch b z).1] at e;cases e
 refine I.step (g':=s.gens) (d':=s.drawn) (ch:=ch) (fun b hb=>?_) (fun b u _ _ hc e _=>k b u hc e) (fun b u _ _ hc e _=>⟨u.slots,k b u hc e⟩) (fun b u _ e n=>n)
  (fun b u hc e=>⟨u,k b u hc e⟩) (fun b xs e=>e) (fun b u xs e=>e) (fun b ps e=>⟨#[],by rw[e];simp⟩) (fun m hm=>?_) (fun b u e=>?_) I.bare
 ·obtain⟨f0,f1,f2,f3,f4,f5⟩:=hch b hb
  exact⟨f3,f1,f4,f5⟩
 ·obtain⟨ob,es,ep,ho,r⟩:=hm
  exact⟨ob,es,ep,k _ ob (fun z=>(hch _ z).2.1 rfl) ho,r⟩
 ·refine (I.hok b u e).stay (fun c v hc q=>k c v ?_ q) (fun c q=>q) fun c xs q=>q
  rcases hc with z | z
  ·rw[z];exact nit b u e
  ·exact nit c _ z
end
def Ite(K:PySem.W.Frag)(a:Addr):It:=
 ⟨fun i H=>∃xs x,SqL K H a xs/\xs[i]? =some x,fun i H v H'=>∃T,v=.ref T/\H T=none/\∀xs,SqL K H a xs->∃x,xs[i]? =some x/\H'=upd H T (.tup [.int i,x]),fun i H=>∃xs,SqL K H a xs/\xs.length=i⟩
theorem aiO{P:Program}{w:World}{K:PySem.W.Frag}{es:List Expr}{kk:Nat}{pos:Pos}(a e it:Addr)(hne:e≠it):Turn P w K (.Tuple es kk pos) (Ite K a) [e,it] e (fun i h=>(∃old,IsEnum h e it i old)/\h.IsListIter it a i) where
 mem:=by simp
 obj:=fun i h st b hb=>by
  obtain⟨⟨old,he⟩,o,e1,c,d⟩:=st
  rcases List.mem_cons.mp hb with z | z
  ·subst z
   exact⟨_,he,fun v q=>by
    have q':Data.fields _=Data.cell v:=q
    cases q'⟩
  ·have z:b=it:=by simpa using z
   subst z
   exact⟨o,e1,fun v q=>by rw[d] at q;cases q⟩
 keep:=fun i h h' st k=>by
  obtain⟨⟨old,he⟩,hit⟩:=st
  exact⟨⟨old,k e (by simp) _ he⟩,hit.at fun o q=>k it (by simp) o q⟩
 item:=by
  intro X hP hw hK hc i pins s σ H E I hf st hg
  subst hP hw hK
  obtain⟨xs,x,hq,hx⟩:=hg
  obtain⟨⟨old,he⟩,hit⟩:=st
  obtain⟨its,rv,p,hz⟩:=I.list hq
  obtain⟨u,hu,ru⟩:=rv.get hx
  refine wpAny_pyNext_enum_item he hit p.isList (x:=u) (by simpa using hu) hne fun h1 ho hit1 hT hsz hk=>?_
  refine⟨_,rfl,wpAny_letOwnedTupleGo_enum ho fun h2 he2 sb=>?_⟩
  have ele:e<s.heap.objs.size:=Heap.lt_size he
  have k2:∀b ob,b∉[e,it]->s.heap.get? b=some ob->h2.get? b=some ob:=fun b ob hb q=>by
   have n1:b≠e:=fun z=>hb (by simp[z])
   have n2:b≠it:=fun z=>hb (by simp[z])
   exact (sb.2 b n1).trans (hk b ob n1 n2 q)
  have hTn:s.heap.objs.size≠e:=Nat.ne_of_gt ele
  have hT2:h2.get? s.heap.objs.size=some {cls:=.type "tuple",data:=.seq #[.int i s.toks,u]}:=(sb.2 _ hTn).trans hT
  have hn:=I.hok.fresh (Nat.le_refl s.heap.objs.size)
  have I2:Inv X pins σ (upd H s.heap.objs.size (.tup [.int i,x])) {s with heap:=h2,toks:=s.toks+1}:=I.turnT k2 hf (Nat.le_refl _) ⟨by show 2<=sizeLine;decide,[.int i s.toks,u],.cons ⟨_,rfl⟩ (.cons ru .nil),⟨_,hT2,rfl,_,rfl⟩⟩
  refine⟨.ref s.heap.objs.size,_,I2,rfl,⟨s.heap.objs.size,rfl,hn,fun ys hy=>⟨x,by rw[I.list_inj hy hq];exact hx,rfl⟩⟩,⟨⟨_,by simpa using he2⟩,hit1.at fun o q=>(sb.2 it (Ne.symm hne)).trans q⟩,fun b hb=>?_⟩
  have hblt:b<s.heap.objs.size:=by
   rcases List.mem_cons.mp hb with z | z
   ·rw[z];exact ele
   ·have z:b=it:=by simpa using z
    obtain⟨o,q,_⟩:=hit
    rw[z];exact Heap.lt_size q
  rw[aaH (Nat.ne_of_lt hblt)]
  exact (hf b hb).1
 done:=by
  intro X hP hw hK hc i pins s σ H E I hf st hg
  subst hP hw hK
  obtain⟨xs,hq,hx⟩:=hg
  obtain⟨⟨old,he⟩,hit⟩:=st
  obtain⟨its,rv,p,hz⟩:=I.list hq
  have hl:=rv.length
  refine wpAny_pyNext_enum_end (I.ok.hd hc) he hit p.isList (by simp;omega) fun h' hk=>⟨rfl,?_⟩
  exact I.turnN (ch:=[e,it]) (t':=s.toks) (fun b ob hb q=>hk b ob (fun z=>hb (by simp[z])) q) hf
 self:=fun _ _ _ _ _ st h=>by
  obtain⟨⟨old,he⟩,_⟩:=st
  exact wpAny_pyIter_enum he h
section
variable{X:Cx}{es:List Expr}{kk:Nat}{tpos:Pos}
def iEnu(K:PySem.W.Frag)(tl:TE):TI:=fun σ H R=>tl σ H fun x H1=>∃a,x=.ref a/\(∃xs,SqL K H1 a xs)/\R (Ite K a) H1
theorem aiQ:bootBuiltins "enumerate"=some (.type "enumerate"):=by decide +kernel
theorem iE{l:Expr}{tl:TE}{p pos:Pos}(hm:X.mg "enumerate"=none)(hl:E X l tl)(hg:Gl X "enumerate":=by rfl)(hs:starEach [l] X.env=[(false,eval l X.env)]:=by rfl):
  Il X (.Tuple es kk tpos) (.Call (.Name "enumerate" p) [l] [] pos) (iEnu X.K tl):=by
 refine⟨fun pins s σ H R I h=>?_⟩
 have hA:PA X [l] (aeQ tl aiC):=ab8 hl.h ac6 hs
 refine Call_ (ac4 I hg hm aiQ (PyProof.Rows.callWith_type1 (thn (hA pos pins s σ H (fun vs H1=>match vs with | [x]=>∃a,x=.ref a/\(∃xs,SqL X.K H1 a xs)/\R (Ite X.K a) H1 | _=>False) I ?_) fun us s1 ⟨vs,H1,I1,r1,q1⟩=>?_) hs rfl))
 ·exact h
 match vs,q1,r1 with
 |[x],q1,r1=>?_
 obtain⟨a,rfl,⟨xs,hq⟩,q⟩:=q1
 obtain⟨u,rfl,rx⟩:=abX r1
 cases rx
 obtain⟨its,rv,pl,hz⟩:=I1.list hq
 refine call_enumerate_list pl.isList fun h' he hit hsz hk=>?_
 refine wpAny_pyIter_enum he ?_
 have I2:Inv X pins σ H1 {s1 with heap:=h'}:=I1.kept (t':=s1.toks) hk
 have hne:s1.heap.objs.size+1≠s1.heap.objs.size:=Nat.ne_of_gt (Nat.lt_succ_self _)
 refine⟨s1.heap.objs.size+1,[s1.heap.objs.size+1,s1.heap.objs.size],_,_,H1,rfl,I2,aiO a _ _ hne,⟨⟨_,he⟩,hit⟩,fun b hb=>?_,q⟩
 have hb2:s1.heap.objs.size<=b:=by
  rcases List.mem_cons.mp hb with z | z
  ·rw[z];exact Nat.le_succ _
  ·have z:b=s1.heap.objs.size:=by simpa using z
   rw[z];exact Nat.le_refl _
 exact I1.fpOk hb2 (I1.hok.fresh hb2)
end
theorem ajH{K:PySem.W.Frag}{a:Addr}{xs:List V}{g:TG}{tb:TS}{D:Ends}{σ:St}{H:Hp}(Pv:Nat->St->Hp->Prop)(h0:Pv 0 σ H)(hl:∀i σ H,i<=xs.length->Pv i σ H->SqL K H a xs)
  (hs:∀i x σ H T,xs[i]? =some x->Pv i σ H->H T=none->g (.ref T) σ (upd H T (.tup [.int i,x])) fun σ2 H2=>tb {D with nx:=Pv (i+1),ct:=Pv (i+1),bk:=D.nx} σ2 H2) (hd:∀σ H,Pv xs.length σ H->D.nx σ H):
  ∃W:Nat->Nat->St->Hp->Prop,(∃m,W 0 m σ H)/\∀i m σ H,W i m σ H->
   ((Ite K a).stop i H/\D.nx σ H)∨((Ite K a).go i H/\∃N:St->Hp->Prop,(∀σ' H',N σ' H'->∃m',m'<m/\W (i+1) m' σ' H')/\∀x H',(Ite K a).yld i H x H'->g x σ H' fun σ2 H2=>tb {D with nx:=N,ct:=N,bk:=D.nx} σ2 H2):=by
 refine⟨fun i m σ H=>m=xs.length-i/\i<=xs.length/\Pv i σ H,⟨xs.length,by simp,Nat.zero_le _,h0⟩,?_⟩
 rintro i m σ H ⟨rfl,hi,p⟩
 have hq:=hl i σ H hi p
 by_cases hlt:i<xs.length
 ·refine .inr ⟨⟨xs,xs[i],hq,by simp[hlt]⟩,Pv (i+1),fun σ' H' p'=>⟨xs.length-(i+1),by omega,rfl,hlt,p'⟩,fun x H' y=>?_⟩
  obtain⟨T,rfl,hT,hy⟩:=y
  obtain⟨x,hx,rfl⟩:=hy xs hq
  exact hs i x σ H T hx p hT
 ·have e:i=xs.length:=by omega
  subst e
  exact .inl ⟨⟨xs,hq,rfl⟩,hd σ H p⟩
def num(m:Nat):List Nat:=(Nat.toDigits 10 m).map Char.toNat
section
variable{X:Cx}
theorem ao9:Cl1 X (.type "int") (fun xs H Q=>∃l:List Nat,xs=[.str (Tx l)]/\PySem.NumText.AllDigits l/\l≠[]/\l.length<=640/\Q (.int ((PySem.NumText.digitsVal l:Nat):Int)) H):=by
 refine⟨fun pins s σ H xs us Q I r h=>?_⟩
 obtain⟨l,rfl,h1,h2,h3,q⟩:=h
 obtain⟨u,rfl,t,rfl⟩:=abX r
 refine PySem.W.KIN.call_text (PySem.intText_digits (x:=Tx l) (by simpa using h1) (by simpa using h2) (by rw[abA];omega)) (by rw[abA];exact h3) ?_
 exact⟨.int _,H,I.tok _,⟨_,rfl⟩,by simpa using q⟩
theorem abZ:Cl1 X (.type "str") (fun xs H Q=>∃n:Nat,xs=[.int n]/\n<10^500/\Q (.str (Tx (num n))) H):=by
 refine⟨fun pins s σ H xs us Q I r h=>?_⟩
 obtain⟨n,rfl,hn,q⟩:=h
 refine ac0 pins s σ H _ us Q I r ⟨(n:Int),rfl,?_,?_⟩
 ·by_cases h0:n=0
  ·subst h0;decide
  ·have:n<2^1900:=Nat.lt_of_lt_of_le hn (by decide +kernel)
   have:=(Nat.log2_lt h0).mpr this
   show (n:Int).natAbs.log2<1920
   simp only[Int.natAbs_natCast]
   omega
 ·have e:PySem.Str.ofString (toString (n:Int))=Tx (num n):=by
   rw[←aj0 (PySem.Str.ofString (toString (n:Int)))]
   exact congrArg (fun z=>Tx z) (PySem.W.KIN.signs_num n)
  show Q (.str (PySem.Str.ofString (toString (n:Int)))) H
  rw[e]
  exact q
end
end L2
namespace L2
open PySem PySem.Spec PyProof.Rows PySem.Builtin PySem.Builtin.Str
theorem ifT{b:Bool}{A B:Prop}(e:b=true)(h:A):if b=true then A else B:=by rw[if_pos e];exact h
theorem ifF{b:Bool}{A B:Prop}(e:b=false)(h:B):if b=true then A else B:=by rw[if_neg (by rw[e];exact Bool.false_ne_true)];exact h
theorem if2{b:Bool}{A B:Prop}(h1:b=true->A)(h2:b=false->B):if b=true then A else B:=by
 cases b
 ·exact ifF rfl (h2 rfl)
 ·exact ifT rfl (h1 rfl)
theorem akO(a b:List Nat):decide (V.str (Tx a)=V.str (Tx b))=decide (a=b):=decide_eq_decide.mpr ⟨fun h=>Tx_inj.mp (V.str.inj h),fun h=>by rw[h]⟩
section
variable{X:Cx}{pos:Pos}
theorem eSx{z:Str}{j}(l:List Nat)(h:z=Tx l:=by decide +kernel):E X (.Constant (.str z) j pos) (tC (.str (Tx l))):=by
 subst h
 exact⟨aj4⟩
end
def acJ(c:Nat):Bool:=decide (48<=c)&&decide (c<=57)
def amT:List Nat:=[48,49,50,51,52,53,54,55,56,57]
theorem ajF(c:Nat):decide (c∈amT)=acJ c:=by
 unfold amT acJ
 rw[Bool.eq_iff_iff,decide_eq_true_eq,Bool.and_eq_true,decide_eq_true_eq,decide_eq_true_eq]
 simp
 omega
def ae9(l:List Nat):Bool:= !decide (l=[])&&l.all acJ
def isW(l:List Nat):Bool:=ae9 l&&(decide (l=[48])|| !decide (l.headD 0=48))
def dv(l:List Nat):Int:=((PySem.NumText.digitsVal l:Nat):Int)
def aaR(lo hi:Int)(l:List Nat):Option Int:=if isW l=true then (if lo<=dv l/\dv l<=hi then some (dv l) else none) else none
def oV:Option Int->V
 |none=>.non
 |some n=>.int n
def ac9(es:List (Option Int)):Option (Int×Int):=match es with
 |[some a]=>some (a,a)
 |[some a,some b]=>if b<a then none else some (a,b)
 |_=>none
def aaK(lo hi:Int)(l:List Nat):Option (Int×Int):=if l=[42] then some (lo,hi) else ac9 ((spl 45 l).map (aaR lo hi))
@[irreducible] def ac5(a b s:Int):List Int:=(List.range (Builtin.Range.rangeSize a (b+1) s).toNat).map fun i:Nat=>a+(i:Int)*s
theorem adN(a b s:Int):ac5 a b s=(List.range (Builtin.Range.rangeSize a (b+1) s).toNat).map fun i:Nat=>a+(i:Int)*s:=by rw[ac5]
def ab1(a b s:Int):Int:=abS (ac5 a b s)
def aaU(lo hi:Int)(r s:List Nat):Option Int:=
 match aaK lo hi r,aaR 1 99 s with
 |some (a,b),some st=>some (ab1 a (if isW r=true then hi else b) st)
 |_,_=>none
def aaF(lo hi:Int)(l:List Nat):Option Int:=
 match spl 47 l with
 |[r,s]=>aaU lo hi r s
 |_=>match aaK lo hi l with
  |some (a,b)=>some (ab1 a b 1)
  |none=>none
theorem agT{l:List Nat}(h:isW l=true):PySem.NumText.AllDigits l/\l≠[]:=by
 unfold isW ae9 at h
 rw[Bool.and_eq_true,Bool.and_eq_true] at h
 refine⟨fun c hc=>?_,fun e=>?_⟩
 ·have:=List.all_eq_true.mp h.1.2 c hc
  unfold acJ at this
  rw[Bool.and_eq_true] at this
  exact⟨of_decide_eq_true this.1,of_decide_eq_true this.2⟩
 ·rw[decide_eq_true e] at h
  exact absurd h.1.1 (by decide)
theorem adP{a b s:Int}(hs:0<s):Builtin.Range.rangeSize a (b+1) s=if a<=b then (b-a) / s+1 else 0:=by
 unfold Builtin.Range.rangeSize
 rw[if_pos hs]
 by_cases c:a<=b
 ·rw[if_pos c,if_pos (by omega),show b+1-a-1=b-a by omega]
 ·rw[if_neg c,if_neg (by omega)]
theorem acW{a b s z:Int}(hs:0<s):z∈ac5 a b s↔a<=z/\z<=b/\(z-a)%s=0:=by
 rw[adN,List.mem_map,adP hs]
 refine⟨fun ⟨i,hi,e⟩=>?_,fun ⟨h1,h2,h3⟩=>?_⟩
 ·subst e
  by_cases c:a<=b
  ·rw[if_pos c,List.mem_range] at hi
   have hq:(i:Int)<=(b-a) / s:=by
    have:0<=(b-a) / s:=Int.ediv_nonneg (by omega) (by omega)
    omega
   have hm:(i:Int)*s<=(b-a) / s*s:=Int.mul_le_mul_of_nonneg_right hq (by omega)
   have hd:(b-a) / s*s<=b-a:=Int.ediv_mul_le _ (by omega)
   have h0:0<=(i:Int)*s:=Int.mul_nonneg (by omega) (by omega)
   refine⟨by omega,by omega,?_⟩
   rw[show a+(i:Int)*s-a=(i:Int)*s by omega]
   exact Int.mul_emod_left _ _
  ·rw[if_neg c,List.mem_range] at hi
   exact absurd hi (by simp)
 ·rw[if_pos (by omega)]
  have hd:s*((z-a) / s)+(z-a)%s=z-a:=Int.mul_ediv_add_emod _ _
  rw[h3,Int.add_zero] at hd
  have h0:0<=(z-a) / s:=Int.ediv_nonneg (by omega) (by omega)
  have hle:(z-a) / s<=(b-a) / s:=Int.ediv_le_ediv hs (by omega)
  refine⟨((z-a) / s).toNat,List.mem_range.mpr (by omega),?_⟩
  rw[Int.toNat_of_nonneg h0,Int.mul_comm]
  omega
theorem ahN{a b s:Int}(h0:0<=a)(h1:b<=1000)(hs:0<s):(Builtin.Range.rangeSize a (b+1) s).toNat<=1001/\Builtin.Range.rangeSize a (b+1) s=((Builtin.Range.rangeSize a (b+1) s).toNat:Int):=by
 have hz:=ahX (a:=a) (b:=b+1) hs
 refine⟨?_,by omega⟩
 rw[adP hs]
 split
 ·have:(b-a) / s<=b-a:=Int.ediv_le_self _ (by omega)
  omega
 ·decide
theorem ai7{a b s:Int}(h0:0<=a)(ha:a<=1000)(h1: -1<=b)(hb:b<=1000)(hs:0<s)(hs2:s<=1000):Builtin.Range.small a (b+1) s=true:=by
 have hl:=ahN h0 hb hs
 have hz:=ahX (a:=a) (b:=b+1) hs
 unfold Builtin.Range.small
 simp only[Builtin.Range.rangeFitsLong,Bool.and_eq_true,Bool.or_eq_true,decide_eq_true_eq,beq_iff_eq]
 refine⟨⟨⟨⟨?_,?_⟩,?_⟩,?_⟩,.inr ?_⟩
 ·exact⟨by omega,by omega⟩
 ·exact⟨by omega,by omega⟩
 ·exact⟨by omega,by omega⟩
 ·exact⟨by omega,by omega⟩
 ·rw[if_pos hs]
  simp only[Bool.and_eq_true,decide_eq_true_eq]
  exact⟨by omega,by omega⟩
theorem amE{a b s:Int}(h0:0<=a)(hs:0<s)(i:Nat):tb (ab1 a b s) i=(decide (a<=i)&&decide ((i:Int)<=b)&&decide (((i:Int)-a)%s=0)):=by
 unfold ab1
 rw[agH,Bool.eq_iff_iff,List.any_eq_true]
 simp only[Bool.and_eq_true,decide_eq_true_eq]
 refine⟨fun ⟨z,hz,e⟩=>?_,fun ⟨⟨h1,h2⟩,h3⟩=>⟨(i:Int),(acW hs).mpr ⟨h1,h2,h3⟩,by simp⟩⟩
 obtain⟨q1,q2,q3⟩:=(acW hs).mp hz
 have:z=(i:Int):=by omega
 subst this
 exact⟨⟨q1,q2⟩,q3⟩
end L2
namespace L2
open PySem PySem.Spec PyProof.Rows PySem.Builtin PySem.Builtin.Str
theorem agE{lo hi a:Int}{l:List Nat}(h:aaR lo hi l=some a):lo<=a/\a<=hi:=by
 unfold aaR at h
 split at h
 ·split at h
  ·rename_i c
   have:=Option.some.inj h
   omega
  ·cases h
 ·cases h
theorem ad7{lo hi a b:Int}{l:List Nat}(hle:lo<=hi)(h:aaK lo hi l=some (a,b)):(lo<=a/\a<=hi)/\lo<=b/\b<=hi:=by
 unfold aaK at h
 split at h
 ·cases h;omega
 ·have key:∀es:List (Option Int),(∀e∈es,∀x,e=some x->lo<=x/\x<=hi)->ac9 es=some (a,b)->(lo<=a/\a<=hi)/\lo<=b/\b<=hi:=by
   intro es hb h
   match es,hb,h with
   |[some x],hb,h=>
    have h:some (x,x)=some (a,b):=h
    cases h
    have:=hb _ (by simp) a rfl
    exact⟨this,this⟩
   |[some x,some y],hb,h=>
    have h:(if y<x then none else some (x,y))=some (a,b):=h
    split at h
    ·cases h
    ·cases h
     exact⟨hb (some a) (by simp) a rfl,hb (some b) (by simp) b rfl⟩
   |[],_,h=>cases h
   |[none],_,h=>cases h
   |[none,y],_,h=>cases h
   |[some x,none],_,h=>cases h
   |x::y::u::r,_,h=>cases x<;>cases y<;>cases h
  refine key _ (fun e he x hx=>?_) h
  obtain⟨w,_,rfl⟩:=List.mem_map.mp he
  exact agE hx
def orM(ms:List Int):Int:=ms.foldl (fun a m=>Builtin.bitOr a m) 0
theorem agK(ms:List Int)(m:Int):orM (ms++[m])=Builtin.bitOr (orM ms) m:=by unfold orM;rw[List.foldl_append];rfl
theorem ahG(a b s:Int):0<=ab1 a b s:=akF _
def aa9(lo hi:Int)(l:List Nat):List Int:=(spl 44 l).map fun w=>(aaF lo hi w).getD 0
theorem aa1:∀n:Nat,n<100->isW (num n)=true/\dv (num n)=(n:Int)/\((num n).all fun c=>acJ c)=true/\(num n).length<=2:=by decide +kernel
theorem aaJ{n c:Nat}(h:n<100)(hc:acJ c=false):c∉num n:=fun hm=>by
 have:=List.all_eq_true.mp (aa1 n h).2.2.1 c hm
 rw[hc] at this
 cases this
theorem amW{n:Nat}(h:n<100):num n≠[42]:=fun e=>by
 have:=aaJ h (c:=42) (by decide)
 rw[e] at this
 exact this (by simp)
theorem ab6{n:Nat}{lo hi:Int}(h:n<100)(h1:lo<=n)(h2:(n:Int)<=hi):aaR lo hi (num n)=some (n:Int):=by
 obtain⟨a,b,_⟩:=aa1 n h
 unfold aaR
 rw[if_pos a,b,if_pos ⟨h1,h2⟩]
theorem anQ{l:List Nat}{c:Nat}(hm:c∈l)(hc:acJ c=false):isW l=false:=by
 cases e:isW l
 ·rfl
 ·unfold isW ae9 at e
  rw[Bool.and_eq_true,Bool.and_eq_true] at e
  have:=List.all_eq_true.mp e.1.2 c hm
  rw[hc] at this
  cases this
theorem afR{n:Nat}{lo hi:Int}(h:n<100)(h1:lo<=n)(h2:(n:Int)<=hi):aaK lo hi (num n)=some ((n:Int),(n:Int)):=by
 unfold aaK
 rw[if_neg (amW h),abM 45 _ (aaJ h (by decide))]
 show ac9 [aaR lo hi (num n)]=_
 rw[ab6 h h1 h2]
 rfl
theorem afQ{n m:Nat}{lo hi:Int}(h:n<100)(h':m<100)(h1:lo<=n)(h2:n<=m)(h3:(m:Int)<=hi):aaK lo hi (num n++45::num m)=some ((n:Int),(m:Int)):=by
 unfold aaK
 rw[if_neg (fun e=>by (have:45∈num n++45::num m:=(by simp));rw[e] at this;simp at this),adR 45 _ _ (aaJ h (by decide)),abM 45 _ (aaJ h' (by decide))]
 show ac9 [aaR lo hi (num n),aaR lo hi (num m)]=_
 rw[ab6 h h1 (by omega),ab6 h' (by omega) h3]
 show (if (m:Int)<n then none else some ((n:Int),(m:Int)))=_
 rw[if_neg (by omega)]
theorem adW{lo hi:Int}:aaK lo hi [42]=some (lo,hi):=by unfold aaK;rw[if_pos rfl]
theorem abW{lo hi a b:Int}{r:List Nat}(hf:47∉r)(h:aaK lo hi r=some (a,b)):aaF lo hi r=some (ab1 a b 1):=by
 unfold aaF
 rw[abM 47 r hf,h]
theorem acQ{lo hi a b:Int}{r:List Nat}{s:Nat}(hf:47∉r)(h:aaK lo hi r=some (a,b))(hs:s<100)(hs1:1<=s):aaF lo hi (r++47::num s)=some (ab1 a (if isW r=true then hi else b) s):=by
 unfold aaF
 rw[adR 47 r _ hf,abM 47 _ (aaJ hs (by decide))]
 show aaU lo hi r (num s)=_
 unfold aaU
 rw[h,ab6 hs (by omega) (by omega)]
end L2
namespace L2
open PySem PySem.Spec PyProof.Rows PySem.Builtin PySem.Builtin.Str
theorem agN:∀{ws:List (List Nat)} {vs:List Value},Vals (ws.map fun q=>V.str (Tx q)) vs->StrsAre vs (ws.map Tx)
 |[],[],_=>.nil
 |[],_::_,h=>nomatch h
 |_::_,[],h=>nomatch h
 |w::r,v::vs,.cons h t=>by
  obtain⟨k,rfl⟩:=h
  exact .cons (Tx w) k (agN t)
theorem akL(c:Nat)(ws:List (List Nat)):Txt.join (Tx [c]) (ws.map Tx)=Tx (aaE c ws):=by
 have e1:Txt.join (Tx [c]) (ws.map Tx)=Str.join (Tx [c]) (ws.map Tx):=StrLaws.glued_eq_join _ _
 have e2:=afW c (ws.map Tx)
 rw[List.map_map] at e2
 have e3:ws.map ((fun x:Str=>x.cps.toList) ∘ Tx)=ws:=by
  have:∀l:List (List Nat),l.map ((fun x:Str=>x.cps.toList) ∘ Tx)=l:=fun l=>by
   induction l with
   |nil=>rfl
   |cons a r ih=>rw[List.map_cons,ih];simp
  exact this ws
 rw[e3] at e2
 rw[e1,←aj0 (Str.join (Tx [c]) (ws.map Tx)),e2]
theorem ab5(c:Nat):∀ws:List (List Nat),(ws.map (·.length)).sum+ws.length=(aaE c ws).length+(if ws=[] then 0 else 1)
 |[]=>rfl
 |[p]=>by simp[aaE]
 |p::q::r=>by
  have ih:=ab5 c (q::r)
  rw[if_neg (by simp)] at ih ⊢
  simp only[List.map_cons,List.sum_cons,List.length_cons,aaE,List.length_append] at ih ⊢
  omega
section
variable{X:Cx}
def alU(K:PySem.W.Frag):V->List V->Hp->VK->Prop:=fun x vs H Q=>∃(c:Nat) (p:Addr) (ws:List (List Nat)),x=.str (Tx [c])/\vs=[.ref p]/\SqL K H p (ws.map fun q=>V.str (Tx q))/\(aaE c ws).length<=1000000/\Q (.str (Tx (aaE c ws))) H
theorem akG:MtR X "str.join" (alU X.K):=by
 intro pins s σ H x xs v us Q I rx rv h
 obtain⟨c,p,ws,rfl,rfl,hq,hz,q⟩:=h
 obtain⟨u,rfl,r1⟩:=abX rv
 cases r1
 obtain⟨t,rfl⟩:=rx
 obtain⟨its,rv2,pl,hz2⟩:=I.list hq
 have hj:=ab5 c ws
 have hw:((ws.map Tx).map (·.length)).sum+(ws.map Tx).length<=1048576:=by
  rw[List.map_map,List.length_map]
  have e:ws.map ((fun x:Str=>x.length) ∘ Tx)=ws.map (·.length):=List.map_congr_left fun a _=>abA a
  rw[e]
  split at hj<;>omega
 refine join_listW pl.isList (ys:=ws.map Tx) (by simpa using agN rv2) (by rw[abA];show 1<=16;decide) hw fun t' k=>?_
 refine⟨.str (Tx (aaE c ws)),H,I.kept (t':=k) fun _ _ e=>e,⟨t',by rw[akL]⟩,q⟩
theorem abK{o e:Expr}{to te:TE}{apos cpos:Pos}(ho:E X o to)(he:E X e te)(hbase:attributeBase o "join" X.env (eval o X.env)=eval o X.env:=by rfl)
  (hfew:((backTo cpos (starEach [e] X.env)).all (fun x=> !x.1)&&(backToKw cpos (keywordEach [] X.env)).all (fun x=>x.1.isSome)&&decide (([e]:List Expr).length+([]:List Keyword).length+(if ([]:List Keyword).isEmpty then 0 else 1)<30))=true:=by rfl)
  (hline:(apos.endLine==cpos.line)=true:=by rfl) (hs:starEach [e] X.env=(false,eval e X.env)::starEach [] X.env:=by rfl) (hplain:(backTo cpos (starEach [] X.env)).any (·.1)=false:=by rfl):
  E X (.Call (.Attribute o "join" apos) [e] [] cpos) (tBM X.K "str" (alU X.K) to (aeQ te aiC)):=
 ⟨ajL PySem.F.plainAttrs_str PySem.F.slot_str_join PySem.F.type_str_join akG ho.h (ab8 he.h ac6 hs) hbase hfew hline hs hplain⟩
theorem an9:Op2 X (binaryOp .Add) (fun x y H Q=>∃(a b:Addr) (xs ys:List V),x=.ref a/\y=.ref b/\SqL X.K H a xs/\SqL X.K H b ys/\xs.length+ys.length<=sizeLine/\∀p,H p=none->Q (.ref p) (upd H p (.lst (xs++ys)))):=by
 refine⟨fun pins s σ H x y v u Q I rx ry h=>?_⟩
 obtain⟨a,b,xs,ys,rfl,rfl,ha,hb,hz,q⟩:=h
 cases rx
 cases ry
 obtain⟨i1,r1,p1,z1⟩:=I.list ha
 obtain⟨i2,r2,p2,z2⟩:=I.list hb
 obtain⟨⟨cls,dd,data,sl⟩,ho,hc,n,hd⟩:=p1.isList
 obtain⟨⟨cls2,dd2,data2,sl2⟩,ho2,hc2,n2,hd2⟩:=p2.isList
 simp only at hc hd hc2 hd2
 subst hc hd hc2 hd2
 have l1:=r1.length
 have l2:=r2.length
 refine concat_meets ⟨_,ho,rfl⟩ ⟨_,ho2,rfl⟩ noFill_list_add seq_list_add PySem.F.slot_list_add PySem.F.entry_list_add (PySem.F.args_list_add_2 _ _) (list_addW a b _ _ n n2 dd dd2 sl sl2 (by simp only[List.size_toArray];omega)) ⟨ho,ho2,?_⟩
 refine⟨.ref s.heap.objs.size,upd H s.heap.objs.size (.lst (xs++ys)),I.laid (t':=s.toks) (fun b u e=>Heap.get?_push_of_some _ e) (Nat.le_refl _) ?_,rfl,q _ (I.hok.fresh (Nat.le_refl _))⟩
 exact⟨by rw[List.length_append];exact hz,i1++i2,0,r1.append r2,by simpa using Heap.get?_push_size _ rfl⟩
end
section
variable{X:Cx}{elt iter tg:Expr}{xs:List Str}{y:Str}{py pos spos:Pos}{ifs:List Expr}{scope:Scope}{cl:List (Str×Addr)}{N':List Str}{js:List Nat}{tt:TT}{te:TE}{g:TG}{wi:TI}
end
section
variable{js:List Nat}{σ:St}{tt:TT}{te:TE}{Q:VK}{H1:Hp}
end
section
variable{X:Cx}
end
section
variable{X:Cx}{elt iter tg:Expr}{xs:List Str}{y:Str}{py pos spos:Pos}{ifs:List Expr}{scope:Scope}{cl:List (Str×Addr)}{N':List Str}{js:List Nat}{tt:TT}{te:TE}{g:TG}{wi:TI}
end
end L2
namespace L2
open PySem PySem.Spec PyProof.Rows PySem.SeqAt
section
variable{X:Cx}
end
def Kn(f:Obj->Prop):Prop:=∀(o:Obj) (vs:Array Value) (x:Value),o.data=.fields vs->f o->f (Obj.mapFields (·.setIfInBounds 1 x) o)
def Trc(f:Obj->Prop)(fl:Value)(B h:Heap)(e:Addr):Prop:=∃(o:Obj) (vs:Array Value) (T:Addr) (oT:Obj) (ts:Array Value),
 (h.get? e=some o/\o.data=.fields vs/\vs[1]? =some (.ref T)/\f o)/\(h.get? T=some oT/\oT.data=.fields ts/\ts[3]? =some fl)/\B.get? T=none/\T≠e
structure Fg(f:Obj->Prop)(fl:Value)(B:Heap)(l:List Env)(e:Addr)(h:Heap):Prop where
 st:B.StaysIn h
 nb:B.get? e=none
 ff:h.FunFrames B l
 tr:Trc f fl B h e
theorem ae5{h:Heap}{T:Addr}{oT:Obj}{ts:Array Value}(hT:h.get? T=some oT)(hd:oT.data=.fields ts){b:Addr}{o:Obj}(e:h.get? b=some o)(n:∀vs,o.data≠ .fields vs):b≠T:=fun z=>by
 subst z
 cases hT.symm.trans e
 exact n ts hd
section
variable{M:Model}{A:Around}{E:Value->Shared->Prop}{s:Shared}{f:Obj->Prop}{B:Heap}{env:Env}{outer l:List Env}{L e:Addr}{fl:Value}{Q:Unit->Shared->Prop}
theorem af7{o:Obj}{vs:Array Value}{head:Value}{had:Bool}(kn:Kn f)(hA:A.frames=some (env::outer))(hL:env.frame=some L)(ff:s.heap.FunFrames B (env::outer))(st:B.StaysIn s.heap)(nb:B.get? e=none)
  (he:s.heap.get? e=some o) (hd:o.data=.fields vs) (sz:1<vs.size) (ho:f o) (k:∀h',Fg f (rawInt L) B (env::outer) e h'->s.heap.UpToSlots h'->Q () {s with heap:=h'}):
  wpAny M A (do let a ←frameOf env;let pl ←entryPlaceOf L had;let b ←EntryCells.newEntry head a .none (rawInt L) .none pl;setField (.ref e) 1 b) Q E s:=by
 have out:e∉(env::outer).filterMap (·.frame):=fun z=>by
  obtain⟨_,o',q,nf⟩:=ff.mem z
  cases he.symm.trans q
  exact nf vs hd
 refine wpAny_bind (wpAny_frameOf_fun hA ff hL fun g sl=>wpAny_bind (wpAny_entryPlaceOf fun pl pok=>?_))
 unfold EntryCells.newEntry newFields
 refine wpAny_bind (wpAny_newObj_type ?_ (pok.sizeOk5 _ _ _ _ _))
 have t3:([head,Value.ref L,.none,rawInt L,.none]++(if pl.isEmpty then List.replicate 6 Value.none else pl)).toArray[3]? =some (rawInt L):=by
  rw[List.getElem?_toArray]
  rfl
 generalize ([head,Value.ref L,.none,rawInt L,.none]++(if pl.isEmpty then List.replicate 6 Value.none else pl)).toArray=ts at t3
 have e1:g.get? e=some o:=(sl.2.1 e out).trans he
 have st1:B.StaysIn g:=fun b ob q=>(sl.2.1 b fun z=>by rw[(ff.mem z).1] at q;cases q).trans (st b ob q)
 have e2:=Heap.get?_push_of_some (h:=g) {cls:=.type "traceback",data:=.fields ts} e1
 have far:g.objs.size≠e:=Nat.ne_of_gt (Heap.lt_size e1)
 have dat:=Obj.data_mapFields hd (·.setIfInBounds 1 (Value.ref g.objs.size))
 have e3:=Heap.get?_update_self (Obj.mapFields (·.setIfInBounds 1 (Value.ref g.objs.size))) e2 (Obj.isFreed_of_fields dat)
 have k1:∀b ob,b≠e->g.get? b=some ob->((g.push {cls:=.type "traceback",data:=.fields ts}).update e (Obj.mapFields (·.setIfInBounds 1 (Value.ref g.objs.size)))).get? b=some ob:=fun b ob n q=>
  (Heap.get?_update_other _ _ (Ne.symm n)).trans (Heap.get?_push_of_some _ q)
 refine wpAny_setField e2 hd sz (k _ ⟨fun b ob q=>k1 b ob (fun z=>by rw[z,nb] at q;cases q) (st1 b ob q),nb,ff.of_keeps fun b ob q n=>?_,?_⟩ fun b ob q n=>?_)
 ·obtain⟨x,q1⟩:=sl.2.2 b ob q
  exact⟨_,k1 b _ (ae5 he hd q n) q1,rfl⟩
 ·exact⟨_,_,g.objs.size,_,ts,⟨e3,dat,by simp[sz],kn o vs _ hd ho⟩,⟨(Heap.get?_update_other _ _ (Ne.symm far)).trans (Heap.get?_push_size g rfl),rfl,t3⟩,st1.fresh,far⟩
 ·obtain⟨x,q1⟩:=sl.2.2 b ob q
  exact⟨x,k1 b _ (ae5 he hd q n) q1⟩
theorem aj5{o:Obj}{vs:Array Value}(kn:Kn f)(hA:A.frames=some (env::outer))(hL:env.frame=some L)(ff:s.heap.FunFrames B (env::outer))(st:B.StaysIn s.heap)(nb:B.get? e=none)
  (he:s.heap.get? e=some o) (hd:o.data=.fields vs) (h1:vs[1]? =some .none) (ho:f o) (k:∀h',Fg f (rawInt L) B (env::outer) e h'->s.heap.UpToSlots h'->Q () {s with heap:=h'}):wpAny M A (noteFrame (.ref e) env) Q E s:=by
 unfold noteFrame
 simp only[hL]
 refine wpAny_bind (wpAny_field he hd h1 ?_)
 rw[if_neg (by decide)]
 exact af7 kn hA hL ff st nb he hd (Array.getElem?_eq_some_iff.mp h1).1 ho k
theorem afI(v:Option Addr)(F:Fg f fl B l e s.heap)(k:∀h',Fg f (v.elim .none fun q=>rawInt q) B l e h'->s.heap.UpToSlots h'->Q () {s with heap:=h'}):wpAny M A (setFlight (.ref e) v) Q E s:=by
 obtain⟨o,vs,T,oT,ts,⟨he,hd,h1,ho⟩,⟨hT,dT,h3⟩,nT,ne⟩:=F.tr
 have s3:3<ts.size:=(Array.getElem?_eq_some_iff.mp h3).1
 have oth:∀b,b≠T->(s.heap.update T (Obj.mapFields (·.setIfInBounds 3 (v.elim Value.none fun q=>rawInt q)))).get? b=s.heap.get? b:=fun b n=>Heap.get?_update_other _ _ n.symm
 unfold setFlight
 refine wpAny_bind (wpAny_field he hd h1 ?_)
 rw[if_pos (by simp)]
 refine wpAny_setField hT dT s3 (k _ ⟨fun b ob q=>(oth b fun z=>by rw[z,nT] at q;cases q).trans (F.st b ob q),F.nb,F.ff.of_keeps fun b ob q n=>⟨ob,(oth b (ae5 hT dT q n)).trans q,rfl⟩,?_⟩ fun b ob q n=>⟨ob.slots,(oth b (ae5 hT dT q n)).trans q⟩)
 exact⟨o,vs,T,_,_,⟨(oth e ne.symm).trans he,hd,h1,ho⟩,⟨Heap.get?_update_self _ hT (Obj.isFreed_of_fields (Obj.data_mapFields dT _)),Obj.data_mapFields dT _,by simp[s3]⟩,nT,ne⟩
theorem akW(kn:Kn f)(hA:A.frames=some (env::outer))(hL:env.frame=some L)(F:Fg f .none B (env::outer) e s.heap)(k:∀h',Fg f (rawInt L) B (env::outer) e h'->s.heap.UpToSlots h'->Q () {s with heap:=h'}):
  wpAny M A (noteFrame (.ref e) env) Q E s:=by
 obtain⟨o,vs,T,oT,ts,⟨he,hd,h1,ho⟩,⟨hT,dT,h3⟩,nT,ne⟩:=F.tr
 have oth:∀b,b≠T->(s.heap.update T (Obj.mapFields (·.setIfInBounds 3 Value.none))).get? b=s.heap.get? b:=fun b n=>Heap.get?_update_other _ _ n.symm
 unfold noteFrame
 simp only[hL]
 refine wpAny_bind (wpAny_field he hd h1 ?_)
 rw[if_pos (by simp)]
 refine wpAny_bind (wpAny_field hT dT h3 ?_)
 rw[if_neg (by simp[rawInt])]
 refine wpAny_bind (wpAny_setField hT dT (Array.getElem?_eq_some_iff.mp h3).1 ?_)
 refine af7 kn hA hL (F.ff.of_keeps fun b ob q n=>⟨ob,(oth b (ae5 hT dT q n)).trans q,rfl⟩) (fun b ob q=>(oth b fun z=>by rw[z,nT] at q;cases q).trans (F.st b ob q)) F.nb ((oth e ne.symm).trans he) hd (Array.getElem?_eq_some_iff.mp h1).1 ho fun h' F' up=>k h' F' fun b ob q n=>up b ob ((oth b (ae5 hT dT q n)).trans q) n
theorem Fg.out{h:Heap}(F:Fg f fl B (env::outer) e h):Fg f fl B outer e h:=⟨F.st,F.nb,F.ff.2.2,F.tr⟩
theorem agQ{o:Obj}{vs:Array Value}(kn:Kn f)(hA:A.frames=some (env::outer))(hL:env.frame=some L)(ff:s.heap.FunFrames B (env::outer))(st:B.StaysIn s.heap)(nb:B.get? e=none)
  (he:s.heap.get? e=some o) (hd:o.data=.fields vs) (h1:vs[1]? =some .none) (ho:f o) (k:∀h',Fg f .none B outer e h'->s.heap.UpToSlots h'->Q () {s with heap:=h'}):wpAny M A (leaving env (.ref e)) Q E s:=
 wpAny_bind (aj5 kn hA hL ff st nb he hd h1 ho fun _ F1 u1=>afI none F1 fun h2 F2 u2=>k h2 F2.out (u1.trans u2))
end
theorem ObjOk.at{P:Program}{w:World}{H:Hp}{h:Heap}{a:Addr}{o:HO}(x:ObjOk P w H h a o):∃ob,h.get? a=some ob:=by
 induction o with
 |lst xs=>obtain⟨_,_,_,_,e⟩:=x;exact⟨_,e⟩
 |tup xs=>obtain⟨_,_,_,ob,e,_⟩:=x;exact⟨_,e⟩
 |dK kvs=>obtain⟨_,_,_,_,ob,_,_,e,_⟩:=x;exact⟨_,e⟩
 |dT kvs=>obtain⟨_,_,_,_,ob,_,_,e,_⟩:=x;exact⟨_,e⟩
 |set S n=>obtain⟨ob,_,_,_,e,_⟩:=x;exact⟨_,e⟩
 |ins C dx fs=>obtain⟨_,_,_,e,_⟩:=x;exact⟨_,e⟩
 |own y=>exact x
 |xd fs=>obtain⟨_,⟨ob,_,_,e,_⟩,_⟩:=x;exact⟨_,e⟩
 |rng lo hi=>obtain⟨_,_,_,e⟩:=x;exact⟨_,e⟩
 |frz ob u ih=>exact⟨_,x.1⟩
 |tbl ps=>exact⟨_,x⟩
 |met f y=>exact⟨_,x⟩
 |ext φ=>exact x.2.1
def Ex(C:Addr)(d:Option Addr)(b:Bool)(o:Obj):Prop:=o.cls=.ref C/\o.dict=d/\∃vs,o.data=.fields vs/\(b=true->vs[2]? =some .none)
theorem alS(C:Addr)(d:Option Addr)(b:Bool):Kn (Ex C d b):=fun o vs x hd ⟨h1,h2,ws,h3,h4⟩=>by
 cases hd.symm.trans h3
 refine⟨(Obj.cls_mapFields _ _).trans h1,?_,_,Obj.data_mapFields hd _,fun z=>?_⟩
 ·rw[←h2]
  obtain⟨c,dd,dt,sl⟩:=o
  cases hd
  rfl
 ·rw[Array.getElem?_setIfInBounds_ne (by decide)]
  exact h4 z
def wc(C:Addr):Value:=.int C 0
def cv(C:Addr):Bool->Value
 |true=>.ref C
 |false=>wc C
theorem am8{C C':Addr}{b:Bool}(h:cv C b=.ref C'):C=C'/\b=true:=by
 cases b with
 |true=>cases h;exact⟨rfl,rfl⟩
 |false=>cases h
def Fly(g h:Heap)(H:Hp)(a C:Addr)(d:Option Addr)(b:Bool):Prop:=
 H a=none/\g.get? a=none/\∃(o:Obj) (vs:Array Value) (T:Addr) (oT:Obj) (ts:Array Value),(h.get? a=some o/\o.data=.fields vs/\vs[1]? =some (.ref T)/\Ex C d b o)/\
  (h.get? T=some oT/\oT.data=.fields ts/\ts[3]? =some .none)/\(H T=none/\g.get? T=none)/\T≠a
def CX1(P:Program)(w:World):CXT:=fun outer H s E e s'=>
 ∃a C d b H',e=.ref a/\s'.os=s.os/\AllBare s'.gens/\Un (frs outer) [] H H' s.heap s'.heap/\HOk P w H' s'.heap/\Fly s.heap s'.heap H' a C d b/\E (cv C b) d H'
theorem ahA{P:Program}{w:World}{fs:List Addr}{l:List Env}{H0 H:Hp}{g h1 h2:Heap}{hid:List Addr}{a C:Addr}{d:Option Addr}{b0:Bool}(u:Un fs [] H0 H g h1)(hok:HOk P w H h1)(frf:∀b∈fs,H b=none)
  (ff:∀b∈fs,∃o,h1.get? b=some o/\∀vs,o.data≠ .fields vs) (hh:∀b∈hid,b∈fs∨(H b=none/\g.get? b=none)) (fl:Fg (Ex C d b0) .none (PySem.W.hideAll h1 hid) l a h2) (up:h1.UpToSlots h2)
  (hga:g.get? a=none) (Ha:H a=none):Un fs [] H0 H g h2/\HOk P w H h2/\Fly g h2 H a C d b0:=by
 have keep:∀b o,h1.get? b=some o->b∉hid->h2.get? b=some o:=fun b o e n=>fl.st b o (PySem.W.hideAll_get _ e n)
 have nofr:∀b o vs,b∈fs->h2.get? b=some o->o.data≠ .fields vs:=fun b o vs hb e=>by
  obtain⟨o1,e1,nf⟩:=ff b hb
  obtain⟨sl,e2⟩:=up b o1 e1 nf
  rw[e] at e2
  cases e2
  exact nf vs
 have slots:∀b o,b∈fs->h1.get? b=some o->∃sl,h2.get? b=some {o with slots:=sl}:=fun b o hb e=>by
  obtain⟨o1,e1,nf⟩:=ff b hb
  rw[e] at e1
  cases e1
  exact up b o e nf
 have nhid:∀b o,b∉fs->g.get? b=some o->b∉hid:=fun b o nb e hb=>by
  rcases hh b hb with z | ⟨_,z⟩
  ·exact nb z
  ·rw[e] at z;cases z
 have thid:∀b o,H b=some o->b∉hid:=fun b o e hb=>by
  rcases hh b hb with z | ⟨z,_⟩
  ·rw[frf b z] at e;cases e
  ·rw[e] at z;cases z
 refine⟨⟨fun b o e n hb hx=>keep b o (u.keep b o e n hb hx) (nhid b o hb e),fun b o e n hb hx=>?_,u.free,fun b o e hx=>?_,u.tups,u.frzs,u.tbls⟩,fun b ob e=>?_,Ha,hga,?_⟩
 ·obtain⟨sl,e1⟩:=u.slot b o e n hb hx
  obtain⟨sl',e2⟩:=slots b _ hb e1
  exact⟨sl',e2⟩
 ·obtain⟨o',e1⟩:=u.there b o e hx
  by_cases hb:b∈fs
  ·obtain⟨sl,e2⟩:=slots b _ hb e1
   exact⟨_,e2⟩
  ·exact⟨o',keep b o' e1 (nhid b o hb e)⟩
 ·refine (hok b ob e).stay (fun c v hc q=>keep c v q ?_) (fun _ q=>q) fun _ _ q=>q
  rcases hc with z | z
  ·rw[z];exact thid b ob e
  ·exact thid c _ z
 ·obtain⟨o,vs,T,oT,ts,ho,hT,hnT,hTe⟩:=fl.tr
  have nT:T∉fs:=fun z=>nofr T oT ts z hT.1 hT.2.1
  refine⟨o,vs,T,oT,ts,ho,hT,⟨?_,?_⟩,hTe⟩
  ·cases q:H T with
   |none=>rfl
   |some o=>
    obtain⟨ob,e⟩:=(hok T o q).at
    have:=PySem.W.hideAll_get _ e (thid T o q)
    rw[hnT] at this;cases this
  ·cases q:g.get? T with
   |none=>rfl
   |some o=>
    obtain⟨ob,e⟩:=u.there T o q (by simp)
    have:=PySem.W.hideAll_get _ e (nhid T o nT q)
    rw[hnT] at this;cases this
theorem Fly.flying{bs g h:Heap}{H:Hp}{a C:Addr}{d:Option Addr}{b:Bool}{l:List Env}(f:Fly g h H a C d b)(ff:h.FunFrames bs l):∃T,(H T=none/\g.get? T=none)/\Fg (Ex C d b) .none (PySem.W.hideAll h (frs l++[a,T])) l a h:=by
 obtain⟨_,_,o,vs,T,oT,ts,ho,hT,fT,nT⟩:=f
 exact⟨T,fT,fun b o e=>PySem.W.of_hideAll _ e,PySem.W.hideAll_none _ (by simp),PySem.W.funFrames_hide ff fun env he b hb=>List.mem_append_left _ (List.mem_filterMap.mpr ⟨env,he,hb⟩),o,vs,T,oT,ts,ho,hT,PySem.W.hideAll_none _ (by simp),nT⟩
theorem an1{bs h:Heap}{l:List Env}(ff:h.FunFrames bs l):∀b∈frs l,∃o,h.get? b=some o/\∀vs,o.data≠ .fields vs:=fun b hb=>(ff.mem hb).2
section
variable{P:Program}{w:World}{K:PySem.W.Frag}{mg:Str->Option Value}{base:Heap}{N:List Str}{qual:Str}{scope:Scope}{f:Addr}{cd:Value}{A:Around}{outer:List Env}{s0:Shared}{H0:Hp}{E:XK}
theorem aiM{pins:List (Addr×Obj)}{σ:St}{H:Hp}{s:Shared}(I:Inv (abT (CX1 P w) P w K mg base N qual scope f cd A outer s0 H0 E) pins σ H s):∀b∈frs (abT (CX1 P w) P w K mg base N qual scope f cd A outer s0 H0 E).stack,b∈frs outer∨(H b=none/\s0.heap.get? b=none):=fun b hb=>by
 have hb:b∈frs (envOfC qual scope s0.heap.objs.size f cd::outer):=hb
 have q:b=s0.heap.objs.size∨b∈frs outer:=by
  obtain⟨env,he,hf⟩:=List.mem_filterMap.mp hb
  rcases List.mem_cons.mp he with rfl | he
  ·exact .inl (Option.some.inj hf).symm
  ·exact .inr (List.mem_filterMap.mpr ⟨env,he,hf⟩)
 rcases q with rfl | q
 ·exact .inr ⟨I.free,Heap.get?_none_of_le (Nat.le_refl _)⟩
 ·exact .inl q
theorem Inv.gone{X:Cx}{pins:List (Addr×Obj)}{σ:St}{H:Hp}{s:Shared}(I:Inv X pins σ H s)(hx:X.ex=[]){b:Addr}(e:s.heap.get? b=none):X.s₀.heap.get? b=none:=by
 cases q:X.s₀.heap.get? b with
 |none=>rfl
 |some o=>
  obtain⟨o',z⟩:=I.base.there b o q (by rw[hx];simp)
  rw[e] at z;cases z
theorem aoO{pins:List (Addr×Obj)}{σ:St}{H:Hp}{s:Shared}{a C:Addr}{d:Option Addr}{b:Bool}{o:Obj}{vs:Array Value}(I:Inv (abT (CX1 P w) P w K mg base N qual scope f cd A outer s0 H0 E) pins σ H s)(Ha:H a=none)(ga:s0.heap.get? a=none)
  (ho:s.heap.get? a=some o) (hd:o.data=.fields vs) (h1:vs[1]? =some .none) (hx:Ex C d b o) (q:E (cv C b) d H):(abT (CX1 P w) P w K mg base N qual scope f cd A outer s0 H0 E).xe (.ref a) s:=by
 refine agQ (B:=PySem.W.hideAll s.heap (frs (envOfC qual scope s0.heap.objs.size f cd::outer)++[a])) (L:=s0.heap.objs.size) (alS C d b) I.ok.frames rfl (PySem.W.funFrames_hide I.stack fun env he b hb=>List.mem_append_left _ (List.mem_filterMap.mpr ⟨env,he,hb⟩)) (fun b o e=>PySem.W.of_hideAll _ e) (PySem.W.hideAll_none _ (by simp)) ho hd h1 hx fun h2 fl2 up=>?_
 obtain⟨u2,hok2,fly2⟩:=ahA (fs:=frs outer) I.base I.hok (fun b hb=>I.stkFree b (by
   obtain⟨env,he,hf⟩:=List.mem_filterMap.mp hb
   exact List.mem_filterMap.mpr ⟨env,List.mem_cons_of_mem _ he,hf⟩)) (an1 I.funs) (fun b hb=>by
  rcases List.mem_append.mp hb with z | z
  ·exact aiM I b z
  ·obtain rfl:b=a:=by simpa using z
   exact .inr ⟨Ha,ga⟩) fl2 up ga Ha
 exact⟨a,C,d,b,H,rfl,I.os,I.bare,u2,hok2,fly2,q⟩
end
abbrev amF:List Value:=[.type "ValueError",.type "Exception",.type "BaseException",.type "object"]
def aqG(X:Cx)(E:XK):Prop:=∀(pins:List (Addr×Obj)) (σ:St) (H:Hp) (s:Shared) (a C:Addr) (d:Option Addr) (b:Bool) (o:Obj) (vs:Array Value),Inv X pins σ H s->H a=none->X.s₀.heap.get? a=none->s.heap.get? a=some o->o.data=.fields vs->vs[1]? =some .none->Ex C d b o->E (cv C b) d H->X.xe (.ref a) s
theorem Inv.newX{X:Cx}{pins:List (Addr×Obj)}{σ:St}{H:Hp}{s:Shared}{a:Addr}(I:Inv X pins σ H s)(hx:X.ex=[])(e:s.heap.get? a=none):H a=none/\X.s₀.heap.get? a=none:=by
 refine⟨?_,I.gone hx e⟩
 cases q:H a with
 |none=>rfl
 |some o=>
  obtain⟨ob,z⟩:=(I.hok a o q).at
  rw[e] at z;cases z
section
variable{X:Cx}{E:XK}{x:Str}{C:Addr}{e:Expr}{es:List Expr}{t:TA}{np cpos pos:Pos}
end
section
variable{P:Program}{w:World}{K:PySem.W.Frag}{mg:Str->Option Value}{base:Heap}{N:List Str}{qual:Str}{scope:Scope}{f:Addr}{cd:Value}{A:Around}{outer:List Env}{s0:Shared}{H0:Hp}{E:XK}
theorem ajY:aqG (abT (CX1 P w) P w K mg base N qual scope f cd A outer s0 H0 E) E:=fun _ _ _ _ _ _ _ _ _ _ I h1 h2 h3 h4 h5 h6 q=>aoO I h1 h2 h3 h4 h5 h6 q
end
theorem adU{X:Cx}{P:Program}{w:World}:aeE (CX1 P w) X E0:=fun _ _ _ _ _ _ _ ⟨_,_,_,_,_,_,_,_,_,_,_,q⟩=>q.elim
structure Df1(P:Program)(w:World)(K:PySem.W.Frag)(mg:Str->Option Value)(base:Heap)(x:Str)(k:Nat)(ps:List Str)(sp:Sp):Prop where
 ex:∃(f:Addr) (fd:FuncData),FnOk P w K mg base (CX1 P w) k f fd ps sp/\Binds K fd ps []/\mg x=some (.ref f)/\PySem.W.keepIn K (.ref f)=true
section
variable{P:Program}{w:World}{K:PySem.W.Frag}{mg:Str->Option Value}{base:Heap}{x:Str}{st:Stmt}{ps N:List Str}{k:Nat}{sp:Sp}
theorem Fn.dfs1(F:Fn K mg x st ps)(S':FnScope N ps (aaD st))(len:∀vs H Q E,sp vs H Q E->vs.length=ps.length)
  (hbody:∀(f:Addr) (cdv:Value) (A:Around) (outer:List Env) (s:Shared) (H:Hp) (vs:List V) (Q:VK) (E:XK),Room k (A.deeper (envOfC x (aaD st) s.heap.objs.size f cdv))->sp vs H Q E->
   ∃t,Ss (abT (CX1 P w) P w K mg base N x (aaD st) f cdv A outer s H E) (aaS st) t/\t {nx:=fun _ H'=>Q .non H',rt:=Q} (abC N vs) H):Df1 P w K mg base x (k+1) ps sp:=by
 obtain⟨f,fd,F1,hb,hm⟩:=F.ex
 have kp:=F1.kp
 obtain⟨oc,od,kV,doc,pm,an,cdv,ct,osl,rfl,lk,hcd⟩:=F1.ex
 refine⟨⟨f,_,al1 lk hcd S' len fun A outer s H vs Q E hr hsp=>?_,hb,hm,kp⟩⟩
 obtain⟨t,h,q⟩:=hbody f cdv A outer s H vs Q E hr hsp
 exact⟨t,h.h,q⟩
end
def XP(X:Cx)(pins:List (Addr×Obj))(σ:St)(E:XK)(e:Value)(s':Shared):Prop:=∃s1 H1,Inv X pins σ H1 s1/\CX1 X.prog X.w X.stack H1 s1 E e s'
abbrev TX:=St->Hp->VK->XK->Prop
structure Px(X:Cx)(e:Expr)(t:TX):Prop where
 h:∀(pins:List (Addr×Obj)) (s:Shared) (σ:St) (H:Hp) (Q:VK) (E:XK),Inv X pins σ H s->t σ H Q E->wpAny (model X.prog X.w) X.A (eval e X.env) (EP X pins σ Q) (XP X pins σ E) s
abbrev TB:=Ends->St->Hp->XK->Prop
structure Pb(X:Cx)(body:List Stmt)(t:TB):Prop where
 h:∀(pins:List (Addr×Obj)) (s:Shared) (σ:St) (H:Hp) (D:Ends) (E:XK),Inv X pins σ H s->t D σ H E->wpAny (model X.prog X.w) X.A (execs body X.env) (SP X pins D) (XP X pins σ E) s
def apK(sp:Sp)(t:TA):TX:=fun σ H Q E=>t σ H fun vs H1=>sp vs H1 Q E
section
variable{X:Cx}{k k':Nat}{ps:List Str}{sp:Sp}{x:Str}{e:Expr}{es:List Expr}{tA:TA}{p pos:Pos}{t:TX}
theorem xD(D:Df1 X.prog X.w X.K X.mg X.base x k ps sp)(hr:Room k' X.A)(ha:As X.nox (e::es) tA)(hk:k<=k':=by decide)(hg:Gl X x:=by rfl)(hdb:(x==("__debug__":Str))=false:=by decide)
  (he:starEach (e::es) X.env=(false,eval e X.env)::starEach es X.env:=by rfl) (hpl:(backTo pos (starEach es X.env)).any (·.1)=false:=by rfl):Px X (.Call (.Name x p) (e::es) [] pos) (apK sp tA):=by
 obtain⟨f,fd,F,hb,hm,kp⟩:=D.ex
 refine⟨fun pins s σ H Q E I h=>?_⟩
 refine wpAny_Call_Name_kw (ab7 I hg hm ?_ hdb)
 refine PySem.W.callWith_K (h₀:=X.base) I.ok.mod.kin kp (wpAny_mono (ha.h pos pins s σ H _ (I.wish _) h) (fun us s1 ⟨vs,H1,I1',r,q⟩=>?_) fun _ _ z=>False.elim z) he hpl
 have I1:Inv X pins σ H1 s1:=I1'.unwish
 refine⟨I1.kIn,?_⟩
 have hl:us.length=ps.length:=by rw[←r.length];exact F.len _ _ _ _ q
 have hbd:=hb s1 us I1.kIn (by rw[List.append_nil];exact hl)
 rw[List.append_nil] at hbd
 refine wpAny_call (codeAny_mono (F.run X.A X.stack s1 H1 ⟨us,[]⟩ us vs Q E (hr.mono hk) I1.env0 hbd r q) fun rr s' hq=>?_)
 cases rr with
 |error e=>exact⟨s1,H1,I1,hq⟩
 |ok fl=>
  cases fl with
  |ret u=>exact I1.after hq
  |next=>exact False.elim hq
  |brk=>exact False.elim hq
  |cont=>exact False.elim hq
def bExp(t:TX):TB:=fun D σ H E=>t σ H (fun _ H'=>D.nx σ H') E
theorem bE(h:Px X e t)(hs:swapsWith e none pos.line X.env=pure false:=by rfl):Pb X [.Expr e pos] (bExp t):=by
 refine⟨fun pins s σ H D E I hw=>?_⟩
 refine wpAny_execs_cons (wpAny_mono (wpAny_Expr_any (thn (h.h pins s σ H _ E I hw) fun v s1 ⟨y,H1,I1,r1,q1⟩=>(show SP X pins D .next s1 from ⟨σ,H1,I1,q1⟩)) I.quiet hs) (fun f s1 q=>?_) fun _ _ z=>z)
 cases f with
 |next=>exact wpAny_execs_nil q
 |ret v=>exact q
 |brk=>exact q
 |cont=>exact q
end
abbrev Cx.hnd(X:Cx)(a:Addr):Cx:={X with A:=X.A.mark (some (.ref a)),calm:=false,xe:=fun _ _=>False}
section
variable{X:Cx}{pins:List (Addr×Obj)}{σ:St}{H:Hp}{s:Shared}
theorem Inv.hnd(I:Inv X pins σ H s)(a:Addr):Inv (X.hnd a) pins σ H s:=
 ⟨⟨I.ok.mod,I.ok.kind,I.ok.glob,I.ok.blt,I.ok.above,I.ok.inj,I.ok.has,I.ok.cab,(fun z=>nomatch z),I.ok.frames,I.ok.stk,I.ok.exf,I.ok.bs,I.ok.bsz,I.ok.noex,I.ok.exfs,I.ok.funs,I.ok.frf⟩,I.os,I.bare,I.base,I.loc,I.cell,I.free,I.freeC,I.pin,I.hok,I.len⟩
theorem Inv.unhnd{a:Addr}(I:Inv (X.hnd a) pins σ H s)(ok:X.Ok):Inv X pins σ H s:=⟨ok,I.os,I.bare,I.base,I.loc,I.cell,I.free,I.freeC,I.pin,I.hok,I.len⟩
theorem Inv.lost{h':Heap}{m':Str->Option Value}{t:Nat}(I:Inv X pins σ H s)(hn:h'.Ns X.env.locals m')(hs:Heap.SameBut X.env.locals s.heap h'):Inv X pins (List.replicate X.N.length none) H {s with heap:=h',toks:=t}:=by
 obtain⟨m,⟨oL,_,_,hoL,_⟩,_⟩:=id I.loc
 have nl:∀b o,X.s₀.heap.get? b=some o->b≠X.env.locals:=fun b o e=>Nat.ne_of_lt (Nat.lt_of_lt_of_le (Heap.lt_size e) I.ok.above)
 refine⟨I.ok,I.os,I.bare,⟨fun b o e n hb hx=>(hs.2 b (nl b o e)).trans (I.base.keep b o e n hb hx),fun b o e n hb hx=>?_,I.base.free,fun b o e hx=>?_,I.base.tups,I.base.frzs,I.base.tbls⟩,⟨m',hn,fun j y v' e1 e2 e3=>?_⟩,fun y c e=>?_,I.free,I.freeC,fun p hp=>?_,fun b ob e=>?_,by rw[List.length_replicate]⟩
 ·obtain⟨sl,e1⟩:=I.base.slot b o e n hb hx
  exact⟨sl,(hs.2 b (nl b o e)).trans e1⟩
 ·obtain⟨o',e1⟩:=I.base.there b o e hx
  exact⟨o',(hs.2 b (nl b o e)).trans e1⟩
 ·rw[List.getElem?_replicate] at e2
  split at e2
  ·cases e2
  ·cases e2
 ·obtain⟨w',z⟩:=I.cell y c e
  exact⟨w',z.sameBut hs (I.cne y c e)⟩
 ·obtain⟨e,n,ne,nf,d⟩:=I.pin p hp
  exact⟨(hs.2 p.1 ne).trans e,n,ne,nf,d⟩
 ·refine (I.hok b ob e).stay (fun c w' hc q=>(hs.2 c ?_).trans q) (fun _ q=>q) fun _ _ q=>q
  rintro rfl
  rcases hc with rfl | hc
  ·rw[I.free] at e;cases e
  ·rw[I.free] at hc;cases hc
end
def xo(a C:Addr)(d:Option Addr)(b:Bool):HO:=.ext fun h=>∃o,h.get? a=some o/\Ex C d b o
theorem alA{P:Program}{w:World}{fs:List Addr}{H0 H:Hp}{g h:Heap}{a C:Addr}{d:Option Addr}{b0:Bool}(u:Un fs [] H0 H g h)(hok:HOk P w H h)(f:Fly g h H a C d b0):Un fs [] H0 (upd H a (xo a C d b0)) g h/\HOk P w (upd H a (xo a C d b0)) h:=by
 obtain⟨Ha,ga,oe,vs,T,oT,ts,⟨he,hd,_,hx⟩,_⟩:=f
 have ne:∀b o,H b=some o->b≠a:=fun b o e z=>by rw[z,Ha] at e;cases e
 have same:∀b o,H b=some o->upd H a (xo a C d b0) b=some o:=fun b o e=>by rw[aaH (ne b o e)];exact e
 refine⟨⟨u.keep,u.slot,fun b o e n hx=>?_,u.there,fun b xs e=>same _ _ (u.tups b xs e),fun b o v e=>same _ _ (u.frzs b o v e),fun b ps e=>?_⟩,fun b o e=>?_⟩
 ·rw[aaH (fun z=>by rw[z,ga] at e;cases e)]
  exact u.free b o e n hx
 ·obtain⟨more,z⟩:=u.tbls b ps e
  exact⟨more,same _ _ z⟩
 ·by_cases hb:b=a
  ·subst hb
   rw[aaA] at e
   cases e
   exact⟨⟨oe,he,hx⟩,⟨oe,he⟩,fun h1 h2 ⟨o,e,r⟩ k=>⟨o,k o e,r⟩⟩
  ·rw[aaH hb] at e
   exact (hok b o e).stay (fun _ _ _ q=>q) (fun c q=>same _ _ q) fun c xs q=>same _ _ q
theorem agG{M:Model}{A:Around}{E:Value->Shared->Prop}{s:Shared}{K:PySem.W.Frag}{C CF a:Addr}{oe:Obj}{b:Bool}{Q:Bool->Shared->Prop}(X:K.In s.heap)(e:PySem.W.kitCls K (.ref C) (.ref CF)=some b)
  (eB:PySem.W.subIn K (.ref CF) (.type "BaseException")=some true) (he:s.heap.get? a=some oe) (hc:oe.cls=.ref C) (hq:Q b s):wpAny M A (excMatches (.ref a) (.ref CF)) Q E s:=by
 obtain⟨h,g,d,t,os⟩:=s
 obtain⟨hty,his,hsub⟩:=PySem.W.kit_cls (M:=M) X e
 have hB:=PySem.W.looks_subIn (M:=M) X eB
 have L0:PySem.W.Looks M h (typeOf (.ref a)) (.ref C):=hc▸(PySem.W.Looks.ld he).andThen .now
 have f:=tc_notTuple
 unfold excMatches isExcClass isInstance
 repeat lk
 cases b<;>repeat lk
 all_goals exact hq
def aiX(ok:Addr->Prop)(i:Nat)(tb:TB)(th:Addr->TS):TS:=fun D σ H=>∃E:XK,tb D σ H E/\∀C d b H',E (cv C b) d H'->ok C/\∀a,H' a=none->th a {nx:=fun _ _=>False,rt:=D.rt} (σ.set i (some (.ref a))) (upd H' a (xo a C d b))
section
variable{X:Cx}{body suite:List Stmt}{b0:Stmt}{tb:TB}{th:Addr->TS}{cx n:Str}{np hpos pos:Pos}{CF:Addr}
theorem ajN(i:Nat)(hm:X.mg cx=some (.ref CF))(hB:PySem.W.subIn X.K (.ref CF) (.type "BaseException")=some true)(hb:Pb X body tb)(hs:∀a,Ss (X.hnd a) (b0::suite) (th a))(hN:X.N.Nodup)
  (hi:X.N[i]? =some n:=by rfl) (hl:X.env.kindOf n=some .local:=by rfl) (hst:X.stack=X.env::X.outer:=by rfl) (hfr:X.env.frame=some X.env.locals:=by rfl) (hg:Gl X cx:=by rfl) (hdb:(cx==("__debug__":Str))=false:=by decide):
  PS X (.Try body [.ExceptHandler (some (.Name cx np)) (some n) (b0::suite) hpos] [] [] pos) (aiX (fun C=>PySem.W.kitCls X.K (.ref C) (.ref CF)=some true) i tb th):=by
 intro pins s σ H D I ⟨E,hw,hh⟩
 refine wpAny_Try_except (wpAny_mono (hb.h pins s σ H D E I hw) (fun f s1 q=>?_) fun e s1 hx=>?_)
 ·cases f with
  |next=>exact wpAny_execs_nil q
  |ret v=>exact q
  |brk=>exact q
  |cont=>exact q
 obtain⟨s0,H0,I0,a,C,d,bb,H',rfl,os,bare,un,hok,fly,qE⟩:=hx
 obtain⟨hC,hh⟩:=hh C d bb H' qE
 have I1:Inv X pins σ H' s1:=I0.call' os un hok bare (fun _ z=>nomatch z)
 obtain⟨T,hT,fl⟩:=fly.flying I1.stack
 have hid:∀b∈frs X.stack++[a,T],b∈frs X.stack∨(H' b=none/\s0.heap.get? b=none):=fun b hb=>by
  rcases List.mem_append.mp hb with z | z
  ·exact .inl z
  ·rcases List.mem_cons.mp z with rfl | z
   ·exact .inr ⟨fly.1,fly.2.1⟩
   ·obtain rfl:b=T:=by simpa using z
    exact .inr hT
 have frames:X.A.frames=some (X.env::X.outer):=by rw[I.ok.frames,hst]
 have fl':=fl
 rw[hst] at fl'
 refine akW (alS C d bb) frames hfr (hst▸fl) fun h4 held4 sm4=>?_
 refine afI none held4 fun h5 fl5 sm5=>?_
 obtain⟨u5,hok5,fly5⟩:=ahA (fs:=frs X.stack) un hok I1.stkFree (an1 I1.stack) (by rw[hst] at hid ⊢;exact hid) fl5 (sm4.trans sm5) fly.2.1 fly.1
 have I5:Inv X pins σ H' {s1 with heap:=h5}:=I0.call' os u5 hok5 bare (fun _ z=>nomatch z)
 refine wpAny_handleBy_cons (codeAny_handlers_test ?_) (by intro q;cases q)
 have J5:=I5.hnd a
 refine ab7 (X:=X.hnd a) J5 hg hm ?_ hdb
 obtain⟨_,_,oe,vs5,_,_,_,⟨he5,_,_,hc5,_⟩,_⟩:=fly5
 refine agG J5.kIn hC hB he5 hc5 ?_
 refine codeAny_handlers_suite_as ?_
 refine afI none fl5 fun h6 fl6 sm6=>?_
 obtain⟨u6,hok6,fly6⟩:=ahA (fs:=frs X.stack) un hok I1.stkFree (an1 I1.stack) (by rw[hst] at hid ⊢;exact hid) fl6 ((sm4.trans sm5).trans sm6) fly.2.1 fly.1
 obtain⟨u7,hok7⟩:=alA u6 hok6 fly6
 have I7:Inv X pins σ (upd H' a (xo a C d bb)) {s1 with heap:=h6}:=I0.call' os u7 hok7 bare (fun _ z=>nomatch z)
 refine acU (X:=X.hnd a) (I7.hnd a) hN hi (.inl hl) (show RelV (.ref a) (.ref a) from rfl) (fun s8 I8=>?_) (.inr hl)
 refine wpAny_mono ((hs a).h pins s8 _ _ _ I8 (hh a fly.1)) (fun f s9 q=>?_) fun _ _ z=>False.elim z
 cases f with
 |next=>obtain⟨_,_,_,q⟩:=q;exact False.elim q
 |brk=>obtain⟨_,_,_,q⟩:=q;exact False.elim q
 |cont=>obtain⟨_,_,_,q⟩:=q;exact False.elim q
 |ret u=>
  obtain⟨v,σ',H3,I9,r,q⟩:=q
  have I9':Inv X pins σ' H3 s9:=I9.unhnd I.ok
  obtain⟨m9,hn9,_⟩:=I9'.loc
  refine wpAny_nameGoes hl hn9 (by rw[I.ok.kind];rfl) fun h' m' hn' hs'=>?_
  exact⟨v,_,H3,I9'.lost hn' hs',r,q⟩
theorem an0(i:Nat)(hm:X.mg cx=some (.ref CF))(hB:PySem.W.subIn X.K (.ref CF) (.type "BaseException")=some true)(hb:Pb X body tb)(hs:∀a,Ss (X.hnd a) (b0::suite) (th a))(hN:X.N.Nodup)
  (hi:X.N[i]? =some n:=by rfl) (hl:X.env.kindOf n=some .local:=by rfl) (hst:X.stack=X.env::X.outer:=by rfl) (hfr:X.env.frame=some X.env.locals:=by rfl) (hg:Gl X cx:=by rfl) (hdb:(cx==("__debug__":Str))=false:=by decide):
  S X (.Try body [.ExceptHandler (some (.Name cx np)) (some n) (b0::suite) hpos] [] [] pos) (aiX (fun C=>PySem.W.kitCls X.K (.ref C) (.ref CF)=some true) i tb th):=⟨ajN i hm hB hb hs hN hi hl hst hfr hg hdb⟩
end
section
variable{X:Cx}{E:XK}{x:Str}{C:Addr}{e:Expr}{es:List Expr}{tA:TA}{np cpos pos p:Pos}{k k':Nat}{ps:List Str}{sp:Sp}
theorem eD1(D:Df1 X.prog X.w X.K X.mg X.base x k ps sp)(hr:Room k' X.A)(hp:aeE (CX1 X.prog X.w) X E)(ha:As X (e::es) tA)(hk:k<=k':=by decide)(hg:Gl X x:=by rfl)
  (hdb:(x==("__debug__":Str))=false:=by decide) (he:starEach (e::es) X.env=(false,eval e X.env)::starEach es X.env:=by rfl) (hpl:(backTo pos (starEach es X.env)).any (·.1)=false:=by rfl):
  L2.E X (.Call (.Name x p) (e::es) [] pos) (agA sp [] E tA):=by
 obtain⟨f,fd,F,hb,hm,kp⟩:=D.ex
 exact⟨ahU F (hr.mono hk) hg hm kp hb .nil hp ha.h hdb he hpl⟩
end
structure XF(K:PySem.W.Frag)(C:Addr):Prop where
 cls:(PySem.W.clsIn K C).isSome=true
 ga:PySem.W.findIn K (.ref C) "__getattribute__"=some (some (.builtin "BaseException.__getattribute__"))
 nga:PySem.W.findIn K (.ref C) "__getattr__"=some none
 ca:PySem.W.findIn K (.ref C) "__class__"=some (some (.builtin "object.__class__"))
 cg:PySem.W.specialIn K (.builtin "object.__class__") "__get__"=some (some (.builtin "getset_descriptor.__get__"))
 ct:PySem.W.takesIn K (.builtin "object.__class__")=some true
 mo:PySem.W.mroIn K C (.type "object")=some true
 mb:PySem.W.mroIn K C (.type "BaseException")=some true
def AtC(a C:Addr)(h:Heap):Prop:=∃o vs,h.get? a=some o/\o.cls=.ref C/\o.data=.fields vs
theorem AtC.of{a C:Addr}{d:Option Addr}{b:Bool}{h:Heap}(x:∃o,h.get? a=some o/\Ex C d b o):AtC a C h:=by
 obtain⟨o,e,h1,_,vs,h2,_⟩:=x
 exact⟨o,vs,e,h1,h2⟩
theorem AtC.ty{M:Model}{a C:Addr}{h:Heap}(x:AtC a C h):PySem.W.Looks M h (typeOf (.ref a)) (.ref C):=by
 obtain⟨o,vs,h1,h2,_⟩:=x
 exact h2▸(PySem.W.Looks.ld h1).andThen .now
section
open PySem.W
variable{prog:Program}{w:World}{A:Around}{E:Value->Shared->Prop}{s:Shared}{K:PySem.W.Frag}{a C:Addr}
open Builtin Builtin.ObjectAttr Builtin.Getset_descriptor in
theorem aeO{tp:Value}{R:Result->Shared->Prop}(F:XF K C)(X:K.In s.heap)(I:AtC a C s.heap)(h:R (.ok (.ret (.ref C))) s):
  codeAny (model prog w) A (.call (.builtin "getset_descriptor.__get__") ⟨[.builtin "object.__class__",.ref a,tp],[]⟩) R s:=by
 obtain⟨hh,g,dr,t,os⟩:=s
 have ofC:=I.ty (M:=model prog w)
 have obj:=PySem.W.looks_mroIn (M:=model prog w) X F.mo
 have gs:=KF.slot_gs
 refine codeAny_call_builtin gs.plain KF.entry_gs (gs.check _ _ _ _ _ _ _ _ KF.type_class (KF.args_gs _ _ _) ?_)
 simp only[Builtin.«getset_descriptor.__get__»,descrGet,dga_obj]
 refine wpAny_bind (wpAny_pure ?_)
 simp only[descrGetter,descrCheckInstance,descrNameAndClass,isInstance,KF.owner_class]
 repeat lk
 constructor
 ·exact Code.quiet_builtin _ (by decide +kernel)
 ·apply codeAny_builtin KF.entry_class
  simp only[Builtin.«object.__class__»,shownTypeOf]
  repeat lk
  exact h
theorem acX{M:Model}{nameV:Value}{Q:Unit->Shared->Prop}(F:XF K C)(X:K.In s.heap)(I:AtC a C s.heap)(hq:Q () s):wpAny M A (checkBuiltinCall "BaseException.__getattribute__" ⟨[.ref a,nameV],[]⟩) Q E s:=by
 obtain⟨hh,g,d,t,os⟩:=s
 have L0:=I.ty (M:=M)
 have L1:=PySem.W.looks_mroIn (M:=M) X F.mb
 have hk:builtinKind "BaseException.__getattribute__"=some .slot:=by decide +kernel
 have hsplit:splitId "BaseException.__getattribute__"=some ("BaseException","__getattribute__"):=by decide +kernel
 have ha:=PySem.F.args_bexc_ga (.ref a) nameV
 simp only[checkBuiltinCall,hk,hsplit]
 refine wpAny_bind ?_
 unfold isInstance
 repeat (first | lk | wp_step)
 exact hq
open Builtin Builtin.ObjectAttr in
theorem aj3{M:Model}{h:Heap}(F:XF K C)(X:K.In h):Looks M h (Builtin.ObjectAttr.find (.ref a) (.ref C) "__class__") (.bind (.builtin "getset_descriptor.__get__") (.builtin "object.__class__")):=by
 have L1:=PySem.W.looks_findIn (M:=M) X F.ca
 have L2:Looks M h (getOf (some (.builtin "object.__class__"))) (some (.builtin "getset_descriptor.__get__")):=PySem.W.looks_specialIn X F.cg
 have L3:=PySem.W.looks_takesIn (M:=M) X F.ct
 intro A Q E s k q
 unfold Builtin.ObjectAttr.find
 refine wpAny_bind (L1 A _ E s k ?_)
 refine wpAny_bind (L2 A _ E s k ?_)
 refine wpAny_bind (wpAny_bind (L3 A _ E s k ?_))
 simp only[if_true]
 refine wpAny_pure ?_
 exact wpAny_bind (wpAny_rule (wpAny_pure q))
theorem ad9{Q:Option Value->Shared->Prop}(F:XF K C)(X:K.In s.heap)(I:AtC a C s.heap)(h:Q (some (.ref C)) {s with toks:=s.toks+1}):wpAny (model prog w) A (getAttr? (.ref a) "__class__") Q E s:=by
 obtain⟨hh,g,d,t,os⟩:=s
 have L0:=I.ty (M:=model prog w)
 have L1:=PySem.W.looks_findIn (M:=model prog w) X F.ga
 have L2:=PySem.W.looks_findIn (M:=model prog w) X F.nga
 have f3:=PySem.F.attr_ValueError.ga.bind (.ref a)
 unfold getAttr? getAttrBy? getAttrBy
 refine wpAny_bind (wpAny_mkText (wpAny_bind (wpAny_attempt (wpAny_holding ?_))))
 refine wpAny_bind (L0.at ?_)
 refine wpAny_bind (L1.at ?_)
 show wpAny _ _ (getAttrByItsOwn _ _ _ _ _ _) _ _ _
 unfold getAttrByItsOwn
 repeat (first | assumption | with_reducible refine Looks.at (by assumption) ?_ | wp_step)
 refine codeAny_call_builtin PySem.F.attr_ValueError.ga.plain PySem.F.entry_bexc_ga (acX F X I ?_)
 have L4:=aj3 (a:=a) (M:=model prog w) F X
 unfold Builtin.«object.__getattribute__»
 repeat (first | assumption | with_reducible refine Looks.at (by assumption) ?_ | wp_step)
 refine aeO F X I ?_
 exact wpAny_pure (wpAny_of_eq (PySem.W.handedOut_of rfl) (wpAny_pure h))
theorem adZ(F:XF K C):KitX K (.ref a) (.ref C) (AtC a C) where
 ty:=fun _ _ _ I=>I.ty
 it:=fun _ _ X _=>by
  obtain⟨cdD,hcD⟩:=Option.isSome_iff_exists.mp F.cls
  unfold clsIn at hcD
  split at hcD
  ·next ho=>
   intro A' Q' E' s' k q
   unfold isType loadHead
   exact wpAny_bind (wpAny_loadPart (k _ _ (X _ _ ho)) (wpAny_pure q))
  ·cases hcD
 ne:=fun h tp dd its n sl X htp=>by
  obtain⟨cdD,hcD⟩:=Option.isSome_iff_exists.mp F.cls
  refine Bool.eq_false_iff.mpr fun q=>?_
  obtain rfl:C=tp:=Value.ref.inj (beq_iff_eq.mp q)
  unfold clsIn at hcD
  split at hcD
  ·next ho=>
   have z:=(X _ _ ho).symm.trans htp
   cases z
  ·cases hcD
 ca:=fun X I k=>ad9 F X I k
end
theorem cXi{X:Cx}:Cl1 X (.builtin "isinstance") (fun xs H Q=>∃(a C C':Addr) (d:Option Addr) (b0 b:Bool),xs=[.ref a,.ref C']/\H a=some (xo a C d b0)/\XF X.K C/\PySem.W.kitOne X.K (.ref C) (.ref C')=some b/\Q (.bl b) H):=by
 refine⟨fun pins s σ H xs us Q I r h=>?_⟩
 obtain⟨a,C,C',d,b0,b,rfl,ha,F,e,q⟩:=h
 obtain⟨u,w',rfl,r1,r2⟩:=aeZ r
 cases r1
 cases r2
 exact PySem.W.kia_one (adZ F) I.kIn (AtC.of (I.hok a _ ha).1) e (fun z=>nomatch z) fun tk=>⟨.bl b,H,I.tok _,rfl,q⟩
theorem cXy{X:Cx}:Cl1 X (.builtin "isinstance") (fun xs H Q=>∃(a C:Addr) (T:String) (d:Option Addr) (b0 b:Bool),xs=[.ref a,.ty T]/\H a=some (xo a C d b0)/\XF X.K C/\PySem.W.kitOne X.K (.ref C) (.type T)=some b/\Q (.bl b) H):=by
 refine⟨fun pins s σ H xs us Q I r h=>?_⟩
 obtain⟨a,C,T,d,b0,b,rfl,ha,F,e,q⟩:=h
 obtain⟨u,w',rfl,r1,r2⟩:=aeZ r
 cases r1
 cases r2
 exact PySem.W.kia_one (adZ F) I.kIn (AtC.of (I.hok a _ ha).1) e (fun z=>nomatch z) fun tk=>⟨.bl b,H,I.tok _,rfl,q⟩
theorem ae3:∀{Cs:List Addr} {us:List Value},Vals (Cs.map V.ref) us->us=Cs.map Value.ref
 |[],_,.nil=>rfl
 |c::Cs,_,.cons h r=>by
  cases h
  rw[ae3 r]
  rfl
theorem cXt{X:Cx}:Cl1 X (.builtin "isinstance") (fun xs H Q=>∃(a C tp:Addr) (Cs:List Addr) (d:Option Addr) (b0 b:Bool),xs=[.ref a,.ref tp]/\H a=some (xo a C d b0)/\XF X.K C/\SqT X.K H tp (Cs.map V.ref)/\PySem.W.kitAny X.K (.ref C) (Cs.map Value.ref)=some b/\Q (.bl b) H):=by
 refine⟨fun pins s σ H xs us Q I r h=>?_⟩
 obtain⟨a,C,tp,Cs,d,b0,b,rfl,ha,F,hS,e,q⟩:=h
 obtain⟨u,w',rfl,r1,r2⟩:=aeZ r
 cases r1
 cases r2
 obtain⟨its,rv,⟨o,ho,hc,n,hd⟩,_⟩:=I.tuple hS
 obtain⟨oc,od,oda,osl⟩:=o
 cases hc
 cases hd
 rw[←ae3 rv] at e
 exact PySem.W.kia_tup (adZ F) I.kIn (AtC.of (I.hok a _ ha).1) ho e (fun z=>nomatch z) fun tk=>⟨.bl b,H,I.tok _,rfl,q⟩
section
variable{X:Cx}{body suite:List Stmt}{b0:Stmt}{tb:TB}{th:Addr->TS}{cx:Str}{np hpos pos:Pos}{CF:Addr}
end
def PX(e C:Addr)(d:Option Addr)(h:Heap):Prop:=∃(vs:Array Value) (sl:Array (Option Value)),h.get? e=some ⟨.ref C,d,.fields vs,sl⟩/\vs[1]? =some .none/\4<vs.size
section
variable{prog:Program}{w:World}{A:Around}{E:Value->Shared->Prop}{s:Shared}{e C a:Addr}{d:Option Addr}
end
def IsXC(C:Addr)(h:Heap):Prop:=∃nm q N bs bm hdct sn sub ab col dd k0 k1 k2 k3 k5 newId,h.get? C=some (excClassObj nm q C N bs bm hdct sn sub ab col dd k0 k1 k2 k3 k5 newId)/\bm.contains (.type "BaseException")=true
section
variable{prog:Program}{w:World}{A:Around}{E:Value->Shared->Prop}{s:Shared}{env:Env}{e C a:Addr}{d:Option Addr}
end
section
variable{P:Program}{w:World}{K:PySem.W.Frag}{mg:Str->Option Value}{base:Heap}{N:List Str}{qual:Str}{scope:Scope}{f:Addr}{cd:Value}{A:Around}{outer:List Env}{s0:Shared}{H0:Hp}{E:XK}
end
section
variable{X:Cx}{E:XK}{x:Str}{C a:Addr}{e:Expr}{es:List Expr}{t:TA}{np cpos pos p2:Pos}{j:Nat}
end
theorem adJ:bootBuiltins "ValueError"=some (.type "ValueError"):=by decide +kernel
def tDi:TE:=fun _ H Q=>∀p,H p=none->Q (.ref p) (upd H p (.dK []))
section
variable{X:Cx}{pos:Pos}{o i:Expr}{to ti:TE}
theorem Inv.bigM{pins:List (Addr×Obj)}{σ:St}{H:Hp}{s:Shared}(I:Inv X pins σ H s):sysModules<s.heap.objs.size:=by
 have h:mainGlobals<s.heap.objs.size:=(I.mod.glob.keeps I.bk).lt
 exact Nat.lt_trans (by decide) h
theorem eDi:E X (.Dict [] [] pos) tDi:=⟨fun pins s σ H Q I h=>wpAny_Dict_empty ⟨.ref s.heap.objs.size,_,I.laid (a:=s.heap.objs.size) (o:=.dK []) (t':=s.toks) (fun _ _ q=>Heap.get?_push_of_some _ q) (Nat.le_refl _)
 ⟨Nat.zero_le _,beq_eq_false_iff_ne.mpr (Ne.symm (Nat.ne_of_lt I.bigM)),[],.nil,Heap.DictOf.new s.heap⟩,rfl,h _ (I.hok.fresh (Nat.le_refl _))⟩⟩
theorem gSb(ho:E X o to)(hi:E X i ti)(ha:∀v,assign (.Subscript o i pos) X.env v=(do
   let ov ←holding [v] (eval o X.env)
   let iv ←holding [v,ov] (eval i X.env)
   standAt pos
   holding [v,ov,iv] (setItem ov iv v)
   release [v,ov,iv] []):=by intro _;rfl):Gt X (.Subscript o i pos) (arD to ti alY):=⟨anO ho.h hi.h akC ha⟩
end
def Kd.wh:Kd->Bool
 |.int=>true
 |_=>false
section
variable{X:Cx}
end
section
variable{js:List Nat}{σ:St}{tt:TT}{te:TE}{Q:VK}{H1:Hp}
end
section
variable{X:Cx}
def two(n:Nat):List Nat:=(num (100+n)).drop 1
theorem amY(m:Nat):num m≠[]:=fun e=>Nat.toDigits_ne_nil (List.map_eq_nil_iff.mp e)
def aaC:Int->List Nat
 |.ofNat n=>num n
 |.negSucc n=>45::num (n+1)
theorem alJ(z:Int):PySem.Str.ofString (toString z)=Tx (aaC z):=by
 rw[←aj0 (PySem.Str.ofString (toString z))]
 congr 1
 cases z with
 |ofNat n=>exact PySem.W.KIN.signs_num n
 |negSucc n=>
  rw[signs_ofString]
  have e:(toString (Int.negSucc n)).toList='-'::(toString ((n+1:Nat):Int)).toList:=by
   show ("-"++toString (n+1)).toList='-'::(toString (n+1)).toList
   rw[String.toList_append]
   rfl
  rw[e,List.map_cons]
  have:=PySem.W.KIN.signs_num (n+1)
  rw[signs_ofString] at this
  rw[this]
  rfl
theorem adB:Cl1 X (.type "str") (fun xs H Q=>∃z:Int,xs=[.int z]/\(-(10^500)<z/\z<10^500)/\Q (.str (Tx (aaC z))) H):=by
 refine⟨fun pins s σ H xs us Q I r h=>?_⟩
 obtain⟨z,rfl,hz,q⟩:=h
 refine ac0 pins s σ H _ us Q I r ⟨z,rfl,?_,?_⟩
 ·have hn:z.natAbs<10^500:=by
   have e:((10^500:Nat):Int)=(10:Int)^500:=by norm_cast
   omega
  by_cases h0:z.natAbs=0
  ·rw[h0];decide
  ·have:z.natAbs<2^1900:=Nat.lt_of_lt_of_le hn (by decide +kernel)
   have:=(Nat.log2_lt h0).mpr this
   omega
 ·show Q (.str (PySem.Str.ofString (toString z))) H
  rw[alJ]
  exact q
end
section
variable{prog:Program}{w:World}{A:Around}{E:Value->Shared->Prop}{s:Shared}{I:Addr}{fp wr:List Addr}{G:Array GenState->Array GenState->Prop}{n:Nat}{P:Nat->Value->Prop}{St:Nat->Shared->Prop}
end
section
variable{X:Cx}{o e:Expr}{to te:TE}{p rpos apos cpos:Pos}
end
section
variable{X:Cx}
end
section
variable{κ:Type}[DecidableEq κ]
def akJ(kvs:List (κ×V))(k:κ):Option V:=(kvs.find? fun kv=>decide (kv.1=k)).map (·.2)
def ak6(kvs:List (κ×V))(k:κ)(v:V):List (κ×V):=
 if (kvs.any fun kv=>decide (kv.1=k))=true then kvs.map (fun kv=>if kv.1=k then (kv.1,v) else kv) else kvs++[(k,v)]
def al5(kvs:List (κ×V))(k:κ):List (κ×V):=kvs.filter fun kv=>decide (kv.1≠k)
theorem RelO.getD{o:Option V}{u:Option Value}{d:V}{d':Value}(r:RelO o u)(rd:RelV d d'):RelV (o.getD d) (u.getD d'):=by
 cases o with
 |none=>cases u with
  |none=>exact rd
  |some _=>exact (show False from r).elim
 |some _=>cases u with
  |none=>exact (show False from r).elim
  |some _=>exact r
theorem KV.any{kvs:List (κ×V)}{vs:List (κ×Value)}(r:KV kvs vs)(k:κ):(kvs.any fun kv=>decide (kv.1=k))=vs.any fun kv=>decide (kv.1=k):=by
 unfold KV at r
 induction r with
 |nil=>rfl
 |cons h t ih=>rw[List.any_cons,List.any_cons,ih,h.1]
theorem KV.drop{kvs:List (κ×V)}{vs:List (κ×Value)}(r:KV kvs vs)(k:κ):KV (al5 kvs k) (without vs k):=by
 unfold KV at r ⊢
 unfold al5 without
 induction r with
 |nil=>exact .nil
 |@cons p q ps qs h t ih=>
  obtain⟨h1,h2⟩:=h
  rw[List.filter_cons,List.filter_cons]
  by_cases e:p.1=k
  ·have a:¬decide (p.1≠k)=true:=by simp[e]
   have b:¬decide (q.1≠k)=true:=by simp[h1.symm.trans e]
   rw[if_neg a,if_neg b];exact ih
  ·have e':¬q.1=k:=fun z=>e (h1.trans z)
   have a:decide (p.1≠k)=true:=by simp[e]
   have b:decide (q.1≠k)=true:=by simp[e']
   rw[if_pos a,if_pos b];exact .cons ⟨h1,h2⟩ ih
theorem KV.length{kvs:List (κ×V)}{vs:List (κ×Value)}(r:KV kvs vs):kvs.length=vs.length:=Paired.length r
end
section
variable{P:Program}{w:World}{H:Hp}{h:Heap}{a:Addr}
end
def DGet(H:Hp)(a:Addr)(y:V)(r:Option V):Prop:=
 (∃kvs k,Rd H a (.dK kvs)/\y=kV k/\r=akJ kvs k)∨∃kvs k b,Rd H a (.dT kvs)/\y=.ref b/\H b=some (.tup (k.map kV))/\r=akJ kvs k
def DPut(H:Hp)(a:Addr)(y v:V)(H':Hp):Prop:=
 (∃kvs k,H a=some (.dK kvs)/\y=kV k/\kvs.length<sizeLine/\H'=upd H a (.dK (ak6 kvs k v)))∨
 ∃kvs k b,H a=some (.dT kvs)/\y=.ref b/\H b=some (.tup (k.map kV))/\kvs.length<sizeLine/\H'=upd H a (.dT (ak6 kvs k v))
theorem DGet.k{H:Hp}{a:Addr}{kvs:List (Key×V)}{k:Key}(e:H a=some (.dK kvs)):DGet H a (kV k) (akJ kvs k):=.inl ⟨kvs,k,.inl e,rfl,rfl⟩
theorem DGet.t{H:Hp}{a b:Addr}{kvs:List (List Key×V)}{k:List Key}(e:H a=some (.dT kvs))(eb:H b=some (.tup (k.map kV))):DGet H a (.ref b) (akJ kvs k):=.inr ⟨kvs,k,b,.inl e,rfl,eb,rfl⟩
theorem DPut.k{H:Hp}{a:Addr}{kvs:List (Key×V)}{k:Key}{v:V}(e:H a=some (.dK kvs))(hl:kvs.length<sizeLine):DPut H a (kV k) v (upd H a (.dK (ak6 kvs k v))):=.inl ⟨kvs,k,e,rfl,hl,rfl⟩
theorem DPut.t{H:Hp}{a b:Addr}{kvs:List (List Key×V)}{k:List Key}{v:V}(e:H a=some (.dT kvs))(eb:H b=some (.tup (k.map kV)))(hl:kvs.length<sizeLine):
  DPut H a (.ref b) v (upd H a (.dT (ak6 kvs k v))):=.inr ⟨kvs,k,b,e,rfl,eb,hl,rfl⟩
section
variable{X:Cx}{pins:List (Addr×Obj)}{σ:St}{H:Hp}{s:Shared}{a:Addr}{y v:V}{u r:Value}{o:Option V}{A:Around}{E:Value->Shared->Prop}
end
section
variable{X:Cx}{pins:List (Addr×Obj)}{σ:St}{H:Hp}{s:Shared}{a:Addr}{kvs:List (Key×V)}{k:Key}{u:Value}{A:Around}{E:Value->Shared->Prop}
end
section
variable{X:Cx}{o i e value:Expr}{pos pos' tpos:Pos}{td ty tv:TE}
end
section
variable{X:Cx}{pos:Pos}
end
section
variable{X:Cx}{pins:List (Addr×Obj)}{σ:St}{H:Hp}{s:Shared}{a:Addr}{y d:V}{u r:Value}{o:Option V}{A:Around}{E:Value->Shared->Prop}
end
section
variable{X:Cx}{o e f:Expr}{apos cpos:Pos}{td ty tx:TE}
end
section
variable{X:Cx}{pins:List (Addr×Obj)}{σ:St}{H:Hp}{s:Shared}{a:Addr}{kvs:List (Key×V)}{A:Around}{E:Value->Shared->Prop}
end
section
variable{X:Cx}{pins:List (Addr×Obj)}{σ:St}{H:Hp}{s:Shared}{a:Addr}{y:V}{u:Value}{A:Around}{E:Value->Shared->Prop}
end
section
variable{X:Cx}{k:Nat}{o i kx vx:Expr}{td ty tk tv:TE}{pos:Pos}{keys:List (Option Expr)}{values:List Expr}{trs:List (TE×TE)}
theorem ai2:Op2 X (binaryOp .Mult) ap7:=⟨anT⟩
theorem aeU:∀(n:Nat) (l:List Nat) (acc:Array Nat),((List.replicate n l.toArray).foldl (·++·) acc).toList=acc.toList++(List.replicate n l).flatten
 |0,l,acc=>by simp
 |n+1,l,acc=>by
  rw[List.replicate_succ,List.foldl_cons,aeU n l,List.replicate_succ,List.flatten_cons]
  simp
theorem alD(l:List Nat)(n:Nat):Txt.mul (Tx l) n=Tx (List.replicate n l).flatten:=by
 unfold Txt.mul
 by_cases h1:(n:Int)<1
 ·obtain rfl:n=0:=by omega
  rw[if_pos h1]
  rfl
 ·rw[if_neg h1]
  by_cases h2:((n:Int)==1||(Tx l).length==0)=true
  ·rw[if_pos h2]
   rcases Bool.or_eq_true _ _▸h2 with h | h
   ·have:n=1:=by have:=beq_iff_eq.mp h;omega
    subst this
    simp
   ·have hl:l.length=0:=by have:=beq_iff_eq.mp h;rwa [abA] at this
    rw[List.length_eq_zero_iff.mp hl]
    have:(List.replicate n ([]:List Nat)).flatten=[]:=by simp
    rw[this]
  ·rw[if_neg h2]
   show (⟨_⟩:Str)=⟨_⟩
   congr 1
   apply Array.toList_inj.mp
   rw[Int.toNat_natCast]
   have:=aeU n l #[]
   simpa using this
theorem aqS:Op2 X (binaryOp .Mult) (fun x y H Q=>∃(l:List Nat) (n:Nat),x=.str (Tx l)/\y=.int n/\l.length*n<=100000/\n<=100000/\Q (.str (Tx (List.replicate n l).flatten)) H):=by
 refine⟨fun pins s σ H x y v u Q I rx ry h=>?_⟩
 obtain⟨l,n,rfl,rfl,hz,hn,q⟩:=h
 obtain⟨t,rfl⟩:=rx
 obtain⟨t2,rfl⟩:=ry
 refine SB.mul ⟨?_,fun h1 h2=>?_,fun h1 h2=>?_⟩ fun t' k=>⟨.str (Tx (List.replicate n l).flatten),H,I.tok _,⟨t',by rw[alD]⟩,q⟩
 ·have a:¬(n:Int)< -(2^63):=by omega
  have b:¬(n:Int) ≥ 2^63:=by omega
  rw[decide_eq_false a,decide_eq_false b]
  rfl
 ·rw[abA]
  intro z
  have hn0:0<n:=by omega
  have h3:(l.length:Int)*(n:Int)<=100000:=by
   have:((l.length*n:Nat):Int)<=((100000:Nat):Int):=Int.ofNat_le.mpr hz
   rwa [Int.natCast_mul] at this
  have h4:((2^63-1:Int) / n)<l.length:=z
  have h5:=Int.lt_ediv_add_one_mul_self (2^63-1:Int) (show (0:Int)<n by omega)
  have h6:=Int.mul_le_mul_of_nonneg_right (show (2^63-1:Int) / n+1<=l.length by omega) (show (0:Int)<=n by omega)
  omega
 ·rw[abA,Int.toNat_natCast]
  exact decide_eq_false (by rw[sizeLine_eq];omega)
end
section
variable{prog:Program}{w:World}{A:Around}{E:Value->Shared->Prop}{s:Shared}{a:Addr}{es:Array (Int×Value)}{ep:Nat}{t:SetTable}{z:Int}{tk:Tok}
end
section
variable{prog:Program}{w:World}{A:Around}{R:Result->Shared->Prop}{I:Addr}{fp wr:List Addr}{G:Array GenState->Array GenState->Prop}{n:Nat}{P:Nat->Value->Prop}{St:Nat->Shared->Prop}
end
section
variable{prog:Program}{w:World}{A:Around}{E:Value->Shared->Prop}{s:Shared}
end
section
variable{M:Model}{A:Around}{E:Value->Shared->Prop}{s:Shared}
end
section
variable{prog:Program}{w:World}{A:Around}{E:Value->Shared->Prop}{s:Shared}{a I:Addr}{es:Array (Int×Value)}{ep:Nat}{t:SetTable}
end
section
variable{prog:Program}{w:World}{A:Around}{E:Value->Shared->Prop}{s:Shared}{a I:Addr}{es:Array (Int×Value)}{ep:Nat}{t:SetTable}
end
section
variable{X:Cx}
end
section
variable{X:Cx}
end
section
variable{js:List Nat}{σ:St}{tt:TT}{te:TE}{Q:VK}{H1:Hp}
end
end L2
namespace KM
open PySem PySem.Spec PyProof.Rows L2
inductive Mk where
 |num (m:Int) | lst (b:Int) | nea (d:Int) | wrk | wkd (m:Int) | nth (w m:Int) | one (w:Int) | nil
 deriving DecidableEq
def wk(f:Int)(n:Nat):Bool:=decide (1<=(f+(1+(n:Int))-1)%7)&&decide ((f+(1+(n:Int))-1)%7<=5)
def ab(i:Int):Int:=if i<0 then -i else i
theorem rng{l:Int}(hl:28<=l/\l<=31):(-(2^62)<=(1:Int)/\(1:Int)<2^62/\ -(2^62)<=l+1/\l+1<2^62)/\(l+1-1).toNat=l.toNat/\(l+1-1).toNat<=sizeLine:=by
 obtain⟨h0,h1⟩:=hl
 refine⟨⟨by decide,by decide,by omega,by omega⟩,by omega,?_⟩
 rw[sizeLine_eq]
 omega
def fldN(w m:Int):List (Str×V):=amD "many" (.int m) (amD "weekday" (.int w) [])
def Mk.ok:Mk->Prop
 |.num m=>0<=m
 |.lst b=>0<=b/\b<=30
 |.nea d=>1<=d/\d<=31
 |.wrk=>True
 |.wkd m=>0<=m/\m<=127
 |.nth w m=>(0<=w/\w<=6)/\1<=m/\m<=5
 |.one w=>0<=w/\w<=6
 |.nil=>True
def Mk.wk:Mk->Bool
 |.wkd _ | .nth _ _ | .one _=>true
 |_=>false
def Mk.tup:Mk->List V
 |.num m=>[.str (Tx [112,108,97,105,110]),.int m,.int 0]
 |.wkd m=>[.str (Tx [112,108,97,105,110]),.int m,.int 0]
 |.lst b=>[.str (Tx [108,97,115,116]),.int b,.int 0]
 |.nea d=>[.str (Tx [110,101,97,114]),.int d,.int 0]
 |.wrk=>[.str (Tx [119,111,114,107]),.int 0,.int 0]
 |.nth w m=>[.str (Tx [110,116,104]),.int w,.int m]
 |.one w=>[.str (Tx [108,97,115,116,111,110,101]),.int w,.int 0]
 |.nil=>[]
def Mk.sp:Mk->Bool
 |.nil=>false
 |_=>true
structure Cs where
 (nu la ne lw we nt lo ma:Addr)
def MkAt(c:Cs)(H:Hp)(x:Addr):Mk->Prop
 |.num m=>∃dx,H x=some (.ins c.nu dx [("mask",.int m)])
 |.lst b=>∃dx,H x=some (.ins c.la dx [("back",.int b)])
 |.nea d=>∃dx,H x=some (.ins c.ne dx [("day",.int d)])
 |.wrk=>∃dx,H x=some (.ins c.lw dx [])
 |.wkd m=>∃dx,H x=some (.ins c.we dx [("mask",.int m)])
 |.nth w m=>∃dx,H x=some (.ins c.nt dx (fldN w m))
 |.one w=>∃dx,H x=some (.ins c.lo dx [("weekday",.int w)])
 |.nil=>∃dx,H x=some (.ins c.ma dx [])
theorem MkAt.keep{c:Cs}{H H':Hp}(s:Keep H H'){x:Addr}{k:Mk}(h:MkAt c H x k):MkAt c H' x k:=by
 cases k<;>(obtain⟨dx,h⟩:=h;exact⟨dx,s.ins h⟩)
def PrAt(H:Hp)(p:Addr)(k:Mk):Prop:=k.ok/\k.sp=true/\∃u,H p=some (.tup [.ref u,.bl k.wk])/\H u=some (.tup k.tup)
theorem PrAt.keep{H H':Hp}(s:Keep H H'){p:Addr}{k:Mk}(h:PrAt H p k):PrAt H' p k:=by
 obtain⟨o,e,u,h1,h2⟩:=h
 exact⟨o,e,u,s.tup h1,s.tup h2⟩
abbrev Ft(R:Addr->Mk->Prop):List Addr->List Mk->Prop:=Paired R
theorem Ft.keepM{c:Cs}{H H':Hp}(s:Keep H H'){ps:List Addr}{ks:List Mk}(h:Ft (MkAt c H) ps ks):Ft (MkAt c H') ps ks:=Paired.imp' (fun _ _ z=>z.keep s) h
theorem Ft.all{H:Hp}:∀{ps:List Addr} {ks:List Mk},Ft (PrAt H) ps ks->∀k∈ks,k.ok
 |_,_,.nil,k,hk=>nomatch hk
 |_,_,.cons r t,k,hk=>by
  rcases List.mem_cons.mp hk with rfl | hk
  ·exact r.1
  ·exact Ft.all t k hk
end KM
namespace L2
open PySem
theorem ah7{us:List Value}(h:us.length=1):∃a,us=[a]:=by
 cases us with
 |nil=>cases h
 |cons a r=>cases r with
  |nil=>exact⟨a,rfl⟩
  |cons b r=>cases h
theorem amI{us:List Value}{n:Nat}(h:us.length=n+1):∃a r,us=a::r/\r.length=n:=by
 cases us with
 |nil=>cases h
 |cons a r=>exact⟨a,r,rfl,Nat.succ.inj h⟩
theorem amA{us:List Value}(h:us.length=2):∃a b,us=[a,b]:=by
 obtain⟨a,r,rfl,h'⟩:=amI h
 obtain⟨b,rfl⟩:=ah7 h'
 exact⟨a,b,rfl⟩
theorem ad5{us:List Value}(h:us.length=3):∃a b c,us=[a,b,c]:=by
 obtain⟨a,r,rfl,h'⟩:=amI h
 obtain⟨b,c,rfl⟩:=amA h'
 exact⟨a,b,c,rfl⟩
theorem akQ{us:List Value}(h:us.length=4):∃a b c d,us=[a,b,c,d]:=by
 obtain⟨a,r,rfl,h'⟩:=amI h
 obtain⟨b,c,d,rfl⟩:=ad5 h'
 exact⟨a,b,c,d,rfl⟩
section
variable{X:Cx}{f:Addr}{k k':Nat}{ps:List Str}{sp:Sp}{y:Str}{e:Expr}{es:List Expr}{t:TA}{tv:TE}{p pos:Pos}
end
section
variable{X:Cx}
end
end L2
namespace KM
open PySem PySem.Spec PyProof.Rows L2
theorem aa4(c:Nat):∀(l:List Nat),∀w∈spl c l,w.length<=l.length
 |[],w,hw=>by simp[spl] at hw;simp[hw]
 |x::r,w,hw=>by
  have ih:=aa4 c r
  unfold spl at hw
  split at hw
  ·rcases List.mem_cons.mp hw with z | z
   ·subst z;simp
   ·have:=ih w z;simp;omega
  ·split at hw
   ·rename_i h t e
    rcases List.mem_cons.mp hw with z | z
    ·subst z
     have:=ih h (by rw[e];simp)
     simp;omega
    ·have:=ih w (by rw[e];simp[z])
     simp;omega
   ·have:w=[x]:=by simpa using hw
    subst this;simp
def aq3(H:Hp)(r:V):Option (Int×Int)->Prop
 |none=>r=.non
 |some (a,b)=>∃p,r=.ref p/\H p=some (.tup [.int a,.int b])
theorem ahR(es:List (Option Int)):(es.map oV).all ab4=true:=by
 rw[List.all_map]
 refine List.all_eq_true.mpr fun x _=>?_
 cases x<;>rfl
def Cl(t:List Nat):Prop:=(44∉t/\32∉t)/\t≠[]/\t.length<=8
instance (t:List Nat):Decidable (Cl t):=by unfold Cl;exact inferInstance
def ai3(lo hi:Int)(t:List Nat)(ns:List Int):Prop:=aaF lo hi t=some (abS ns)/\Cl t/\(∀n∈ns,lo<=n/\n<=hi)/\ns≠[]/\ns.length<=64
theorem aaZ{c:Nat}{a b:List Nat}{d:Nat}(h1:c∉a)(h2:c∉b)(h3:c≠d):c∉a++d::b:=by
 simp only[List.mem_append,List.mem_cons,not_or]
 exact⟨h1,h3,h2⟩
theorem ai4{a b:List Nat}{d:Nat}(ha:(44∉a/\32∉a)/\a≠[]/\a.length<=5)(hb:(44∉b/\32∉b)/\b.length<=2)(h1:44≠d)(h2:32≠d):Cl (a++d::b):=by
 refine⟨⟨aaZ ha.1.1 hb.1.1 h1,aaZ ha.1.2 hb.1.2 h2⟩,by simp,?_⟩
 have:=ha.2.2
 have:=hb.2
 rw[List.length_append,List.length_cons]
 omega
theorem afV{n:Nat}(h:n<100):(44∉num n/\32∉num n)/\num n≠[]/\(num n).length<=2:=⟨⟨aaJ h (by decide),aaJ h (by decide)⟩,amY n,(aa1 n h).2.2.2⟩
theorem ag3{a b s lo hi:Int}(h0:0<=a)(h1:b<=63)(hab:a<=b)(hs:0<s)(hl:lo<=a)(hb:b<=hi):(∀n∈ac5 a b s,lo<=n/\n<=hi)/\ac5 a b s≠[]/\(ac5 a b s).length<=64:=by
 refine⟨fun n hn=>?_,fun e=>?_,?_⟩
 ·have:=(acW hs).mp hn
  omega
 ·have:a∈ac5 a b s:=(acW hs).mpr ⟨Int.le_refl _,hab,by rw[Int.sub_self];rfl⟩
  rw[e] at this
  cases this
 ·rw[adN,List.length_map,List.length_range,adP hs,if_pos hab]
  have:=Int.ediv_le_self (a:=b-a) s (by omega)
  omega
theorem ak2(a:Int):ac5 a a 1=[a]:=by
 rw[adN,adP (by decide),if_pos (Int.le_refl a),Int.sub_self]
 show [a+((0:Nat):Int)*1]=[a]
 simp
theorem i1{lo hi a:Int}(h0:0<=lo)(h1:lo<=a)(h2:a<=hi)(h3:hi<=63):ai3 lo hi (num a.toNat) [a]:=by
 have ha:a.toNat<100:=by omega
 have e:=afR (lo:=lo) (hi:=hi) ha (by omega) (by omega)
 rw[Int.toNat_of_nonneg (by omega)] at e
 have c:=afV ha
 have r:=ag3 (a:=a) (b:=a) (s:=1) (lo:=lo) (hi:=hi) (by omega) (by omega) (by omega) (by decide) h1 h2
 have e2:=abW (aaJ ha (by decide)) e
 unfold ab1 at e2
 rw[ak2] at e2 r
 exact⟨e2,⟨c.1,c.2.1,by have:=c.2.2;omega⟩,r⟩
theorem i2{lo hi a b:Int}(h0:0<=lo)(h1:lo<=a)(h2:a<=b)(h4:b<=hi)(h3:hi<=63):ai3 lo hi (num a.toNat++45::num b.toNat) (ac5 a b 1):=by
 have ha:a.toNat<100:=by omega
 have hb:b.toNat<100:=by omega
 have e:=afQ (lo:=lo) (hi:=hi) ha hb (by omega) (by omega) (by omega)
 rw[Int.toNat_of_nonneg (by omega),Int.toNat_of_nonneg (by omega)] at e
 have ca:=afV ha
 have cb:=afV hb
 exact⟨abW (aaZ (aaJ ha (by decide)) (aaJ hb (by decide)) (by decide)) e,ai4 ⟨ca.1,ca.2.1,by have:=ca.2.2;omega⟩ ⟨cb.1,cb.2.2⟩ (by decide) (by decide),ag3 (by omega) (by omega) h2 (by decide) h1 h4⟩
theorem i3{lo hi s:Int}(h0:0<=lo)(h1:lo<=hi)(h3:hi<=63)(hs:1<=s/\s<=99):ai3 lo hi ([42]++47::num s.toNat) (ac5 lo hi s):=by
 have hs':s.toNat<100:=by omega
 have e:=acQ (show 47∉[42] by decide) (adW (lo:=lo) (hi:=hi)) hs' (by omega)
 rw[if_neg (by decide),Int.toNat_of_nonneg (by omega)] at e
 have cs:=afV hs'
 exact⟨e,ai4 (by decide) ⟨cs.1,cs.2.2⟩ (by decide) (by decide),ag3 h0 h3 h1 (by omega) (Int.le_refl _) (Int.le_refl _)⟩
end KM
namespace L2
open PySem PySem.Spec PyProof.Rows PySem.SeqAt
section
variable{X:Cx}
end
end L2
namespace KM
open PySem PySem.Spec PyProof.Rows L2
def TpAt(b:Bool)(H:Hp)(u:Addr)(k:Mk):Prop:=H u=some (.tup k.tup)/\k.sp=true/\k.wk=b/\k.ok
theorem TpAt.keep{b:Bool}{H H':Hp}(s:Keep H H'){u:Addr}{k:Mk}(h:TpAt b H u k):TpAt b H' u k:=⟨s.tup h.1,h.2⟩
theorem abN(c:Nat):∀(a b:List (List Nat)),a≠[]->b≠[]->aaE c (a++b)=aaE c a++c::aaE c b
 |[],_,h,_=>absurd rfl h
 |[p],b,_,hb=>by
  cases b with
  |nil=>exact absurd rfl hb
  |cons q r=>rfl
 |p::q::r,b,_,hb=>by
  have ih:=abN c (q::r) b (by simp) hb
  show p++c::aaE c ((q::r)++b)=(p++c::aaE c (q::r))++c::aaE c b
  rw[ih]
  simp
def PrT(H:Hp)(ts:List Addr)(prs:List (Nat×Nat)):Prop:=Paired (fun (t:Addr) (pr:Nat×Nat)=>H t=some (.tup [.int pr.1,.int pr.2])) ts prs
theorem PrT.keep{H H':Hp}{ts:List Addr}{prs:List (Nat×Nat)}(h:PrT H ts prs)(k:Keep H H'):PrT H' ts prs:=Paired.mapP h fun _ _ z=>k.tup z
theorem Paired.at{α β:Type}{F:α->β->Prop}:∀{l:List α} {r:List β} {i:Nat} {a:α},Paired F l r->l[i]? =some a->∃b,r[i]? =some b/\F a b
 |_,_,_,_,.nil,e=>by simp at e
 |_,_,0,_,.cons h _,e=>by
  have:=Option.some.inj e
  subst this
  exact⟨_,rfl,h⟩
 |_,_,i+1,_,.cons _ t,e=>Paired.at (i:=i) t e
theorem Paired.len{α β:Type}{F:α->β->Prop}:∀{l:List α} {r:List β},Paired F l r->l.length=r.length
 |_,_,.nil=>rfl
 |_,_,.cons _ t=>congrArg (·+1) (Paired.len t)
def rt(x:Nat×Nat):List Nat:=if x.1=x.2 then num x.1 else num x.1++45::num x.2
end KM
namespace L2
open PySem PySem.Spec PyProof.Rows
section
variable{X:Cx}{f:Addr}{k k':Nat}{ps:List Str}{sp:Sp}{x y e:Expr}{es:List Expr}{t:TA}{tv:TE}{p pos:Pos}
end
section
variable{X:Cx}{C:Addr}{m:Str}{k k':Nat}{ps:List Str}{sp:Sp}{o:Expr}{ta:TE}{apos pos:Pos}
end
section
variable{X:Cx}{body:List Stmt}{tb:TS}{h:ExceptHandler}{hs:List ExceptHandler}{pos:Pos}
end
section
variable{js:List Nat}{σ:St}{tt:TT}{te:TE}{Q:VK}{H1:Hp}
end
section
variable{X:Cx}{o i:Expr}{td ty:TE}{pos:Pos}
end
end L2
namespace KM
open PySem PySem.Spec PyProof.Rows L2
def DV(c:Cs)(H:Hp)(v:V):Option (List Mk)->Prop
 |none=>v=.non
 |some ks=>∃p qs,v=.ref p/\H p=some (.lst (qs.map V.ref))/\Ft (MkAt c H) qs ks/\∀k∈ks,k.ok
theorem DV.keep{c:Cs}{H H':Hp}(s:Same H H'){v:V}:∀{ko:Option (List Mk)},DV c H v ko->DV c H' v ko
 |none,h=>h
 |some _,⟨p,qs,e,h1,h2,h3⟩=>⟨p,qs,e,s _ _ h1,h2.keepM s.keep,h3⟩
end KM
namespace L2
open PySem PySem.Spec PyProof.Rows
def anE(l:List Value):Bool:=match l with
 |.ref _:: .ref _::r=>decide (r=amF)
 |_=>false
structure XS(K:PySem.W.Frag)(C:Addr)(f:Str):Prop where
 xf:XF K C
 cd:((PySem.W.clsIn K C).any fun c=>c.hasDict&&anE c.mro)=true
 sa:PySem.W.findIn K (.ref C) "__setattr__"=some (some (.builtin "object.__setattr__"))
 no:PySem.W.findIn K (.ref C) f=some none
theorem akA(self:Value){l:List Value}(e:anE l=true):refuseLoop self "__setattr__" l=pure ():=by
 unfold anE at e
 split at e
 ·rw[of_decide_eq_true e,refuseLoop_ref,refuseLoop_ref]
  exact PySem.F.store_ValueError.passes self
 ·cases e
section
open PySem.W Builtin Builtin.ObjectAttr
variable{prog:Program}{w:World}{A:Around}{E:Value->Shared->Prop}{s:Shared}{K:PySem.W.Frag}{x C:Addr}{f:Str}{v:Value}{o:Obj}{vs:Array Value}
theorem aiY{od:Option Obj}(hx:s.heap.get? x=some o)(hc:o.cls=.ref C)(hd:o.data=.fields vs)(hdi:match o.dict,od with | some dx,some q=>s.heap.get? dx=some q | none,none=>True | _,_=>False):PySem.W.InstAt s.heap x o C od:=
 ⟨hx,hc,by unfold notCls;rw[hd],hdi⟩
theorem arP{Q:Unit->Shared->Prop}(X:K.In s.heap)(F:XS K C f)(hx:s.heap.get? x=some o)(hc:o.cls=.ref C)(hd:o.data=.fields vs)(hn:o.dict=none)
  (k:∀h' tk,s.heap.get? s.heap.objs.size=none->s.heap.objs.size≠x->h'.get? x=some {o with dict:=some s.heap.objs.size}->h'.Ns1 s.heap.objs.size (fun y=>if y=f then some v else none)->
   (∀b u,b≠x->s.heap.get? b=some u->h'.get? b=some u)->Q () {s with heap:=h',toks:=tk}):
  wpAny (model prog w) A (setAttr (.ref x) f v) Q E s:=by
 have J:PySem.W.InstAt s.heap x o C none:=aiY hx hc hd (by rw[hn];exact True.intro)
 have SF:=PySem.F.store_object
 obtain⟨cd,hcl,hh⟩:=PySem.W.any_some F.cd
 obtain⟨hdct,hm⟩:=Bool.and_eq_true_iff.mp hh
 refine PySem.W.set_plain X J F.sa ?_
 have sub:Looks (model prog w) s.heap (isInstance (.ref x) (.type "object")) true:=J.type.andThen (PySem.W.looks_mroIn X F.xf.mo)
 refine codeAny_call_builtin SF.slot.plain SF.entry (@PySem.W.check_slot (model prog w) _ _ {s with toks:=s.toks+1} "object.__setattr__" "object" "__setattr__" (.ref x) [.str f s.toks,v] [] _ SF.kind SF.split sub (SF.args (.ref x) (.str f s.toks) v) ?_)
 have mr:Looks (model prog w) s.heap (mroOf (.ref C)) cd.mro:=(PySem.W.looks_clsIn X hcl).andThen .now
 have L3:Looks (model prog w) s.heap (storeTaker? none) none:=.now
 rw[PySem.W.osa_eq,refuse_eq]
 refine wpAny_bind (wpAny_bind (J.type.here (s:={s with toks:=s.toks+1}) (wpAny_bind (mr.here (s:={s with toks:=s.toks+1}) ?_))))
 rw[akA _ hm]
 refine wpAny_pure (wpAny_bind (J.type.here (s:={s with toks:=s.toks+1}) (wpAny_bind ((PySem.W.looks_findIn X F.no).here (s:={s with toks:=s.toks+1}) (wpAny_bind (L3.here (s:={s with toks:=s.toks+1}) ?_))))))
 have hp:s.heap.objs.size≠x:=Nat.ne_of_gt (Heap.lt_size hx)
 have fr:s.heap.get? s.heap.objs.size=none:=Heap.get?_none_of_le (Nat.le_refl _)
 obtain⟨oc,od,oda,osl⟩:=o
 obtain rfl:oc=.ref C:=hc
 obtain rfl:od=none:=hn
 obtain rfl:oda=.fields vs:=hd
 refine wpAny_bind (wpAny_pure (wpAny_bind (wpAny_bind (wpAny_loadPart hx (wpAny_bind (PySem.W.Looks.here (s:={s with toks:=s.toks+1}) (PySem.W.looks_clsIn X hcl) ?_))))))
 rw[hdct,if_neg (by decide)]
 dsimp only
 rw[if_neg (by simp[typeHasDict])]
 have hx1:=Heap.get?_push_of_some {cls:=.type "dict",data:=.dict #[]} hx
 refine wpAny_bind (wpAny_alloc' (wpAny_bind (wpAny_update' hx1 (wpAny_pure ?_))))
 have gD:((s.heap.push {cls:=.type "dict",data:=.dict #[]}).update x fun o=>{o with dict:=some s.heap.objs.size}).get? s.heap.objs.size=some {cls:=.type "dict",data:=.dict #[]}:=
  (Heap.get?_update_ne _ _ _ _ hp).trans (Heap.get?_push_at rfl rfl)
 refine wpAny_bind (wpAny_pure (wpAny_bind (wpAny_nsSet1 (Heap.Ns1.of_empty ⟨_,#[],_,gD,rfl,fun e he=>absurd he (by simp),fun _=>rfl⟩) fun h' n' sb=>?_)))
 obtain⟨oD,eD,pD,goD,dD,cD⟩:=n'.count (Within.cons f v Within.nil)
 refine wpAny_bind (wpAny_lookBehind goD (by rw[dD];exact pastItsLine_dict (Nat.le_trans cD (by rw[List.length_cons,List.length_nil,sizeLine_eq];omega))) (wpAny_pure ?_))
 refine k h' _ fr hp ((sb.2 x hp.symm).trans ?_) n' fun b u hb q=>(sb.2 b (Nat.ne_of_lt (Heap.lt_size q))).trans ((Heap.get?_update_ne _ _ _ _ hb).trans (Heap.get?_push_of_some _ q))
 exact Heap.get?_update_self _ hx1 rfl
theorem ao5{expr:Bool}{dx:Addr}{mA:Str->Option Value}{Q:Value->Shared->Prop}(X:K.In s.heap)(F:XS K C f)(hx:s.heap.get? x=some o)(hc:o.cls=.ref C)(hd:o.data=.fields vs)(hn:o.dict=some dx)(ns:s.heap.Ns1 dx mA)(hv:mA f=some v)(hh:PySem.W.handedIn v=true)
  (h:Q v {s with toks:=s.toks+1}):wpAny (model prog w) A (getAttr (.ref x) f expr) Q E s:=by
 obtain⟨od,ho,hl⟩:=aiD ns
 have J:PySem.W.InstAt s.heap x o C (some od):=aiY hx hc hd (by rw[hn];exact ho)
 have I:AtC x C s.heap:=⟨o,vs,hx,hc,hd⟩
 obtain⟨cd,hcl,hh2⟩:=PySem.W.any_some F.cd
 obtain⟨hdct,hm⟩:=Bool.and_eq_true_iff.mp hh2
 have L0:=I.ty (M:=model prog w)
 have L1:=PySem.W.looks_findIn (M:=model prog w) X F.xf.ga
 have L2:=PySem.W.looks_findIn (M:=model prog w) X F.xf.nga
 have f3:=PySem.F.attr_ValueError.ga.bind (.ref x)
 have e4:PySem.W.findObj K C (some od) f=some (.value v):=PySem.W.findObj_own (by unfold PySem.W.hasDictIn;rw[hcl];exact hdct) F.no rfl (by rw[hl,hv])
 have L4:=PySem.W.looks_find (M:=model prog w) X J e4
 have hx0:(expr&&onTheHeap (Value.builtin "BaseException.__getattribute__"))=false:=by cases expr<;>rfl
 unfold getAttr getAttrBy
 refine wpAny_bind (wpAny_mkText (wpAny_holding ?_))
 refine wpAny_bind (L0.at ?_)
 refine wpAny_bind (L1.at ?_)
 show wpAny _ _ (getAttrByItsOwn _ _ _ _ _ _) _ _ _
 unfold getAttrByItsOwn
 repeat (first | assumption | with_reducible refine Looks.at (by assumption) ?_ | wp_step)
 refine codeAny_call_builtin PySem.F.attr_ValueError.ga.plain PySem.F.entry_bexc_ga (acX F.xf X I ?_)
 unfold Builtin.«object.__getattribute__»
 repeat (first | assumption | with_reducible refine Looks.at (by assumption) ?_ | wp_step)
 show wpAny _ _ (handedOut v) _ _ _
 exact wpAny_of_eq (PySem.W.handedOut_of hh) h
end
def PY(e C:Addr)(d:Option Addr)(h:Heap):Prop:=∃(vs:Array Value) (sl:Array (Option Value)),h.get? e=some ⟨.ref C,d,.fields vs,sl⟩/\vs[1]? =some .none/\vs[2]? =some .none/\4<vs.size
def xn(a C:Addr)(d:Option Addr):HO:=.ext (PY a C d)
theorem PY.ok{P:Program}{w:World}{H:Hp}{h:Heap}{a C:Addr}{d:Option Addr}(x:PY a C d h):ObjOk P w H h a (xn a C d):=by
 obtain⟨vs,sl,e,r⟩:=id x
 exact⟨x,⟨_,e⟩,fun h1 h2 ⟨vs,sl,e,r⟩ k=>⟨vs,sl,k _ e,r⟩⟩
section
variable{X:Cx}{pins:List (Addr×Obj)}{σ:St}{H:Hp}{s:Shared}{a C:Addr}{f:Str}
theorem alB{A:Around}{E:Value->Shared->Prop}{y:V}{u:Value}{Q:Unit->Shared->Prop}(I:Inv X pins σ H s)(e:H a=some (xn a C none))(F:XS X.K C f)(ry:RelV y u)
  (k:∀dx s',H dx=none->dx≠a->Inv X pins σ (upd (upd H dx (.xd [(f,y)])) a (xn a C (some dx))) s'->Q () s'):wpAny (model X.prog X.w) A (setAttr (.ref a) f u) Q E s:=by
 obtain⟨⟨vs,sl,ha,h1,h2,h4⟩,_,_⟩:=I.hok a _ e
 refine arP I.kIn F ha rfl rfl rfl fun h' tk fr ne hx' ns kp=>?_
 have nD:H s.heap.objs.size=none:=I.hok.fresh (Nat.le_refl _)
 have nt:∀{b:Addr} {o:HO},H b=some o->(∀φ,o≠ .ext φ)->b≠a:=fun q n z=>by rw[z,e] at q;exact n _ (Option.some.inj q).symm
 have same:∀{b:Addr} {o:HO},H b=some o->b≠a->upd (upd H s.heap.objs.size (.xd [(f,y)])) a (xn a C (some s.heap.objs.size)) b=some o:=fun q n=>by
  rw[aaH n,aaH (aaG q nD)]
  exact q
 refine k s.heap.objs.size _ nD ne (I.un ⟨fun b o q n _ _=>kp b o (fun z=>by rw[z,e] at n;cases n) q,fun b o q n _ _=>⟨o.slots,kp b o (fun z=>by rw[z,e] at n;cases n) q⟩,fun b o q n _=>?_,fun b o q _=>?_,fun b xs q=>same q (nt q fun _ z=>nomatch z),fun b o v q=>same q (nt q fun _ z=>nomatch z),fun b ps q=>⟨#[],by rw[Array.append_empty];exact same q (nt q fun _ z=>nomatch z)⟩⟩ fun b o q=>?_)
 ·rw[aaH (fun z=>by rw[z,e] at n;cases n),aaH (fun z=>by rw[z,fr] at q;cases q)]
  exact n
 ·by_cases hb:b=a
  ·subst hb
   exact⟨_,hx'⟩
  ·exact⟨o,kp b o hb q⟩
 ·by_cases hb:b=a
  ·subst hb
   rw[aaA] at q
   cases q
   exact PY.ok ⟨vs,sl,hx',h1,h2,h4⟩
  ·rw[aaH hb] at q
   by_cases hd:b=s.heap.objs.size
   ·subst hd
    rw[aaA] at q
    cases q
    refine⟨_,ns,fun g=>?_⟩
    by_cases hg:g=f
    ·subst hg
     rw[List.lookup_cons,show (g==g)=true from beq_self_eq_true g,if_pos rfl]
     exact ry
    ·rw[List.lookup_cons,show (g==f)=false from beq_false_of_ne hg,if_neg hg]
     exact True.intro
   ·rw[aaH hd] at q
    refine (I.hok b o q).stay (fun c v hc z=>kp c v ?_ z) (fun c z=>same z (nt z fun _ y=>nomatch y)) fun c xs z=>same z (nt z fun _ y=>nomatch y)
    rcases hc with rfl | hc
    ·exact hb
    ·exact nt hc fun _ y=>nomatch y
theorem alF{A:Around}{E:Value->Shared->Prop}{expr b:Bool}{dx:Addr}{fs:List (Str×V)}{v:V}{Q:Value->Shared->Prop}(I:Inv X pins σ H s)(e:H a=some (xo a C (some dx) b))(ed:H dx=some (.xd fs))(F:XS X.K C f)(l:fs.lookup f=some v)
  (k:∀u s',RelV v u->Inv X pins σ H s'->Q u s'):wpAny (model X.prog X.w) A (getAttr (.ref a) f expr) Q E s:=by
 obtain⟨⟨o,ha,hc,hd,vs,hv,_⟩,_,_⟩:=I.hok a _ e
 obtain⟨mA,ns,r⟩:=I.hok dx _ ed
 have rf:=r f
 rw[l] at rf
 cases em:mA f with
 |none=>rw[em] at rf;exact False.elim rf
 |some u=>
  rw[em] at rf
  exact ao5 I.kIn F ha hc hv hd ns em (aiB rf) (k u _ rf (I.tok _))
end
def apA(K:PySem.W.Frag)(ta tv:TE)(f:Str):TS:=fun D σ H=>tv σ H fun y H1=>ta σ H1 fun x H2=>∃a C,x=.ref a/\H2 a=some (xn a C none)/\XS K C f/\∀dx,H2 dx=none->dx≠a->D.nx σ (upd (upd H2 dx (.xd [(f,y)])) a (xn a C (some dx)))
def apB(K:PySem.W.Frag)(ta:TE)(f:Str):TE:=fun σ H Q=>ta σ H fun x H1=>∃a C dx b fs v,x=.ref a/\H1 a=some (xo a C (some dx) b)/\H1 dx=some (.xd fs)/\XS K C f/\fs.lookup f=some v/\Q v H1
section
variable{X:Cx}{o e value:Expr}{ta tv:TE}{f:Str}{pos pos':Pos}
theorem sFlX(ha:E X o ta)(hv:E X value tv)(hs:swapsWith value (some (.Attribute o f pos')) pos.line X.env=pure false:=by rfl):S X (.Assign [.Attribute o f pos'] value pos) (apA X.K ta tv f):=by
 refine⟨fun pins s σ H D I h=>?_⟩
 refine plainObj_wpAny_Assign_Attribute (thn (hv.h pins s σ H _ I h) fun u s1 ⟨y,H1,I1,ry,q⟩=>thn (ha.h pins s1 σ H1 _ I1 q) fun ov s2 ⟨x,H2,I2,rx,a,C,ex,ea,F,q2⟩=>?_) hs
 subst ex
 obtain rfl:ov=Value.ref a:=rx
 exact alB I2 ea F ry fun dx s3 n1 n2 I3=>⟨σ,_,I3,q2 dx n1 n2⟩
theorem apG(he:E X e ta)(hb:attributeBase e f X.env (eval e X.env)=eval e X.env:=by rfl):E X (.Attribute e f pos) (apB X.K ta f):=by
 refine⟨fun pins s σ H Q I h=>?_⟩
 refine alI hb (thn (he.h pins s σ H _ I h) fun u s1 ⟨x,H1,I1,rx,a,C,dx,b,fs,v,ex,ea,ed,F,l,q⟩=>?_)
 subst ex
 obtain rfl:u=Value.ref a:=rx
 exact alF I1 ea ed F l fun u' s2 ru I2=>⟨v,H1,I2,ru,q⟩
end
def af5(K:PySem.W.Frag)(C:Addr):Bool:=match K.lookup C with
 |some o=>(match o.cls,o.data with
  |.type t,.cls cd=>(match cd.mro,o.slots.toList with
   |.ref C'::bm,[_,_,_,_,some (.builtin n),_]=>t=="type"&&C'==C&&n=="ValueError.__new__"&& !cd.hasDel&&PySem.W.tailIn K amF bm
   |_,_=>false)
  |_,_=>false)
 |none=>false
theorem afP{K:PySem.W.Frag}{C:Addr}{h:Heap}(X:K.In h)(q:af5 K C=true):
  ∃bm N nm qn bs hdct sn sub ab col dd k0 k1 k2 k3 k5,h.get? C=some (excClassObj nm qn C N bs bm hdct sn sub ab col dd k0 k1 k2 k3 k5 "ValueError.__new__")/\OwnTail h amF bm:=by
 unfold af5 at q
 split at q
 ·next o ho=>
  obtain⟨oc,od,oda,sl⟩:=o
  dsimp only at q
  split at q
  ·next t cd=>
   split at q
   ·next C' bm k0 k1 k2 k3 n k5 hm hs=>
    simp only[Bool.and_eq_true,beq_iff_eq,Bool.not_eq_true'] at q
    obtain⟨⟨⟨⟨rfl,rfl⟩,rfl⟩,hdel⟩,ht⟩:=q
    obtain⟨nm,bs,mro,ns,qn,hd,sn,sub,ab,col,del⟩:=cd
    dsimp only at hm hdel hs
    subst hm hdel
    obtain⟨l⟩:=sl
    have hs:l=[k0,k1,k2,k3,some (.builtin "ValueError.__new__"),k5]:=hs
    subst hs
    exact⟨bm,ns,nm,qn,bs,hd,sn,sub,ab,col,od,k0,k1,k2,k3,k5,X _ _ ho,PySem.W.tail_of_in X ht⟩
   ·cases q
  ·cases q
 ·cases q
section
open PySem.W
variable{prog:Program}{w:World}{A:Around}{E:Value->Shared->Prop}{s:Shared}{K:PySem.W.Frag}{C fI:Addr}
theorem ajZ{rest:List Value}{Q:Value->Shared->Prop}(X:K.In s.heap)(hq:af5 K C=true)(hi:findIn K (.ref C) "__init__"=some (some (.ref fI)))(hf:typeIn K (.ref fI)=some (.type "function"))(hz:rest.length<=sizeLine)
  (k:∀h' e,Heap.MadeExcOf s.heap h' e (.ref C) rest->wpAny (model prog w) (A.under (.builtin "type.__call__" ⟨.ref C::rest,[]⟩)) (call (.ref fI) (.ref e::rest)) (fun r s'=>r=.none/\Q (.ref e) s') E {s with heap:=h'}):
  wpAny (model prog w) A (call (.ref C) rest) Q E s:=by
 obtain⟨h,g,d,t,os⟩:=s
 obtain⟨bm,N,nm,qn,bs,hdct,sn,sub,ab,col,dd,k0,k1,k2,k3,k5,hC,T⟩:=afP X hq
 have VE:=PySem.F.excBase_ValueError
 have c1:=tc_lookup
 have c2:=tc_bind (.ref C)
 have cT:(⟨h,g,d,t,os⟩:Shared).TypeIs (.ref C) "type":=⟨_,hC,rfl⟩
 refine wpAny_call (codeAny_of_tree (show wpAny _ _ (callAny (.ref C) _) _ _ _ from ?_))
 repeat (any_goals (first | with_reducible refine wpAny_loadPart_at hC ?_ | assumption | wp_step))
 refine⟨rfl,codeAny_call_builtin_at (Code.quiet_builtin _ (by decide +kernel)) entry_typeCall (wpAny_check_type_call_sub hC ?_)⟩
 repeat (first | with_reducible refine wpAny_madeBy_exc hC ?_ | with_reducible refine wpAny_loadPart_at hC ?_ | wp_step)
 refine codeAny_call_builtin_code (Code.quiet_builtin _ VE.quiet) (wpAny_check_new_subT VE T hC (codeAny_exc_new_subT VE T hC ?_ hz))
 have kp:∀b o,h.get? b=some o->((h.push {cls:=.type "tuple",data:=.seq rest.toArray}).push {cls:=.ref C,data:=.fields #[.ref h.objs.size,.none,.none,.none,.bool false,.none]}).get? b=some o:=fun b o e=>Heap.get?_push_of_some _ (Heap.get?_push_of_some _ e)
 have he:((h.push {cls:=.type "tuple",data:=.seq rest.toArray}).push {cls:=.ref C,data:=.fields #[.ref h.objs.size,.none,.none,.none,.bool false,.none]}).get? (h.objs.size+1)=some {cls:=.ref C,data:=.fields #[.ref h.objs.size,.none,.none,.none,.bool false,.none]}:=by heap_get
 have ht:((h.push {cls:=.type "tuple",data:=.seq rest.toArray}).push {cls:=.ref C,data:=.fields #[.ref h.objs.size,.none,.none,.none,.bool false,.none]}).get? h.objs.size=some {cls:=.type "tuple",data:=.seq rest.toArray}:=Heap.get?_push_of_some _ (Heap.get?_push_at rfl rfl)
 show wpAny _ _ _ _ _ _
 have kk:=k _ (h.objs.size+1) ⟨kp,Heap.get?_none_of_le (Nat.le_succ _),h.objs.size,he,Heap.get?_none_of_le (Nat.le_refl _),ht⟩
 have hC2:=kp _ _ hC
 have inC:(Value.ref C::bm).contains (.ref C)=true:=by simp
 have X2:K.In _:=X.keeps kp
 have L1:=PySem.W.looks_findIn (M:=model prog w) X2 hi
 have L2:=PySem.W.bind_fn (M:=model prog w) X2 (.ref (h.objs.size+1)) hf
 have L0:Looks (model prog w) _ (typeOf (.ref (h.objs.size+1))) (.ref C):=(PySem.W.Looks.ld he).andThen .now
 unfold isInstance
 repeat (first | with_reducible refine wpAny_loadPart_at he ?_ | wp_step)
 dsimp only
 refine wpAny_isSubtype_exc hC2 ?_
 rw[inC]
 repeat (first | with_reducible refine wpAny_loadPart_at he ?_ | with_reducible refine Looks.at (by assumption) ?_ | wp_step)
 dsimp only
 refine L1.at (wpAny_holding (wpAny_bind (L2.at (wpAny_bind (wpAny_mono kk (fun r s' hr=>?_) fun _ _ z=>z)))))
 obtain⟨rfl,hQ⟩:=hr
 wp_walk
 exact hQ
end
def rem(H:Hp)(a:Addr):Hp:=fun b=>if b=a then none else H b
theorem ad8{H:Hp}{a:Addr}:rem H a a=none:=if_pos rfl
theorem ad1{H:Hp}{a b:Addr}(h:b≠a):rem H a b=H b:=if_neg h
section
variable{X:Cx}{pins:List (Addr×Obj)}{σ:St}{H:Hp}{s:Shared}
theorem Inv.forget{a:Addr}{φ:Heap->Prop}(I:Inv X pins σ H s)(e:H a=some (.ext φ)):Inv X pins σ (rem H a) s:=by
 have nt:∀{b:Addr} {o:HO},H b=some o->(∀φ,o≠ .ext φ)->rem H a b=some o:=fun {b o} q n=>by
  rw[ad1 (fun z=>by rw[z,e] at q;exact n _ (Option.some.inj q).symm)]
  exact q
 have fr:∀{b:Addr},H b=none->rem H a b=none:=fun {b} n=>by
  by_cases hb:b=a
  ·rw[hb];exact ad8
  ·rw[ad1 hb];exact n
 exact I.un (t':=s.toks) ⟨fun b o q _ _ _=>q,fun b o q _ _ _=>⟨o.slots,q⟩,fun b o _ n _=>fr n,fun b o q _=>⟨o,q⟩,fun b xs q=>nt q (fun _ z=>nomatch z),fun b o v q=>nt q (fun _ z=>nomatch z),fun b ps q=>⟨#[],(by rw[Array.append_empty];exact nt q fun _ z=>nomatch z)⟩⟩ fun b o q=>by
  by_cases hb:b=a
  ·rw[hb,ad8] at q;cases q
  ·rw[ad1 hb] at q
   exact (I.hok b o q).stay (fun _ _ _ z=>z) (fun c z=>nt z fun _ y=>nomatch y) fun c xs z=>nt z fun _ y=>nomatch y
theorem Inv.born{a:Addr}{o:HO}{h':Heap}{t':Nat}(I:Inv X pins σ H s)(k:∀b u,s.heap.get? b=some u->h'.get? b=some u)(n:s.heap.get? a=none)(new:ObjOk X.prog X.w (upd H a o) h' a o):Inv X pins σ (upd H a o) {s with heap:=h',toks:=t'}:=by
 have nH:H a=none:=by
  cases q:H a with
  |none=>rfl
  |some u=>
   obtain⟨ob,z⟩:=(I.hok a u q).at
   rw[n] at z;cases z
 have same:∀{b:Addr} {u:HO},H b=some u->upd H a o b=some u:=fun q=>by rw[aaH (aaG q nH)];exact q
 refine I.un ⟨fun b u q _ _ _=>k b u q,fun b u q _ _ _=>⟨u.slots,k b u q⟩,fun b u q m _=>?_,fun b u q _=>⟨u,k b u q⟩,fun b xs q=>same q,fun b u v q=>same q,fun b ps q=>⟨#[],(by rw[Array.append_empty];exact same q)⟩⟩ fun b u q=>?_
 ·rw[aaH (fun z=>by rw[z,n] at q;cases q)]
  exact m
 ·by_cases hb:b=a
  ·subst hb
   rw[aaA] at q
   cases q
   exact new
  ·rw[aaH hb] at q
   exact (I.hok b u q).stay (fun c v _ z=>k c v z) (fun c z=>same z) fun c xs z=>same z
end
section
variable{prog:Program}{w:World}{A:Around}{E:Value->Shared->Prop}{s:Shared}{env:Env}
theorem agZ{x:Sem Value}{Q:Flow->Shared->Prop}(hh:A.handled=none)(h:wpAny (model prog w) A x (fun v s1=>∃e C d,v=.ref e/\IsXC C s1.heap/\PX e C d s1.heap/\E (.ref e) s1) E s):wpAny (model prog w) A (raiseStmt env (some x) none) Q E s:=by
 unfold raiseStmt
 refine wpAny_bind (wpAny_mono h (fun v s1 h1=>?_) fun _ _ z=>z)
 obtain⟨e,C,d,rfl,⟨nm,q,N,bs,bm,hdct,sn,sub,ab,col,dd,k0,k1,k2,k3,k5,newId,hC,hB⟩,⟨vs,sl,he,hn,hz⟩,hE⟩:=h1
 have inB:(Value.ref C::bm).contains (.type "BaseException")=true:=by rw[List.contains_cons,hB,Bool.or_true]
 obtain⟨hp,g,dr,tk,os⟩:=s1
 generalize hsf:@setFlight=sf
 repeat (first | with_reducible refine wpAny_loadPart_at he ?_ | with_reducible refine wpAny_loadPart_at hC ?_ | (with_reducible refine wpAny_isSubtype_exc hC ?_;rw[inB]) | wp_step)
 subst hsf
 unfold setFlight
 refine wpAny_bind (wpAny_field he rfl hn ?_)
 rw[if_neg (by decide)]
 exact wpAny_pure (wpAny_raiseNew_none hh hE)
end
def ak3(C:Addr)(sp:Sp)(E:XK)(t:TA):TS:=fun _ σ H=>t σ H fun vs H1=>vs.length<=sizeLine/\∀e,H1 e=none->sp (.ref e::vs) (upd H1 e (xn e C none)) (fun v H2=>v=.non/\∃dx,H2 e=some (xn e C (some dx))/\E (.ref C) (some dx) (rem H2 e)) E0
section
variable{X:Cx}{E:XK}{x:Str}{C:Addr}{e:Expr}{es:List Expr}{t:TA}{np cpos pos:Pos}{k k':Nat}{ps:List Str}{sp:Sp}
theorem anU(hM:aqG X E)(hm:X.mg x=some (.ref C))(hq:af5 X.K C=true)(D:DfM X.prog X.w X.K X.mg X.base C "__init__" k ps sp)(hr:Room k' X.A)(ha:As X (e::es) t)(hk:k+1<=k':=by decide)(hex:X.ex=[]:=by rfl)(hc:X.calm=true:=by rfl)(hg:Gl X x:=by rfl)(hdb:(x==("__debug__":Str))=false:=by decide)
  (he:starEach (e::es) X.env=(false,eval e X.env)::starEach es X.env:=by rfl) (hpl:(backTo cpos (starEach es X.env)).any (·.1)=false:=by rfl):
  S X (.Raise (some (.Call (.Name x np) (e::es) [] cpos)) none pos) (ak3 C sp E t):=by
 obtain⟨f,fd,F,hb,hme⟩:=D.ex
 refine⟨fun pins s σ H De I h=>?_⟩
 have pl:(backTo cpos ((false,eval e X.env)::starEach es X.env)).any (·.1)=false:=hpl
 rw[arm_exec_Raise]
 simp only[evalOpt,Option.map]
 refine wpAny_bind (wpAny_standAt (agZ (I.ok.hd hc) ?_))
 refine wpAny_bind (wpAny_mono (wpAny_Call_ofName (ab7 I hg hm ?_ hdb)) (fun v s3 h3=>wpAny_bind (wpAny_standAt (wpAny_pure h3))) fun _ _ z=>z)
 unfold callWith
 have hw:=ha.h cpos pins s σ H _ I h
 rw[he] at hw ⊢
 refine wpAny_bind (wpAny_holding (Calls.evalArgs_plain (thn hw fun us s2 ⟨vs,H2,I2,r,hz,q⟩=>wpAny_bind (wpAny_standAt ?_))))
 obtain⟨bm,N,nm,qn,bs,hdct,sn,sub,ab,col,dd,k0,k1,k2,k3,k5,hC,T⟩:=afP I2.kIn hq
 simp only[pl]
 refine wpAny_bind (wpAny_keeperOf_exc (h:=s2.heap) (g:=s2.gens) (d:=s2.drawn) (t:=s2.toks) (os:=s2.os) hC ?_)
 refine wpAny_bind (ajZ I2.kIn hq hme.at_ (beq_iff_eq.mp hme.fn) (by rw[List.nil_append,←r.length];exact hz) fun h' n mk=>?_)
 obtain⟨t0,there,_,_⟩:=mk.there
 obtain⟨Hn,gn⟩:=I2.newX hex mk.new
 have I3:Inv X pins σ (upd H2 n (xn n C none)) {s2 with heap:=h'}:=I2.born (t':=s2.toks) mk.keeps mk.new (PY.ok ⟨_,_,there,rfl,rfl,(show 4<6 by decide)⟩)
 have sp':=q n Hn
 have r2:Vals (V.ref n::vs) (Value.ref n::us):=.cons rfl r
 have hl:(Value.ref n::us).length=ps.length:=by rw[←r2.length];exact F.len _ _ _ _ sp'
 have hbd:=hb {s2 with heap:=h'} (Value.ref n::us) I3.kIn (by rw[List.append_nil];exact hl)
 rw[List.append_nil] at hbd
 refine wpAny_call (codeAny_mono (F.run _ X.stack _ _ ⟨Value.ref n::us,[]⟩ (Value.ref n::us) (V.ref n::vs) _ E0 ((hr.mono hk).make C us []) (I3.env0.make C us []) hbd r2 sp') fun rr s' hq'=>?_)
 cases rr with
 |error e=>exact False.elim hq'
 |ok fl=>
  cases fl with
  |next=>exact False.elim hq'
  |brk=>exact False.elim hq'
  |cont=>exact False.elim hq'
  |ret u=>
   obtain⟨v,H4,I4,rv,rfl,dx,hx,qE⟩:=I3.after hq'
   obtain⟨⟨vs4,sl4,e4,n1,n2,z4⟩,_,_⟩:=I4.hok n _ hx
   refine⟨rv,wpAny_bind (wpAny_holding (wpAny_point (wpAny_pure ⟨n,C,some dx,rfl,?_,⟨vs4,sl4,e4,n1,z4⟩,?_⟩)))⟩
   ·obtain⟨bm,N,nm,qn,bs,hdct,sn,sub,ab,col,dd,k0,k1,k2,k3,k5,hC4,T4⟩:=afP I4.kIn hq
    exact⟨nm,qn,N,bs,bm,hdct,sn,sub,ab,col,dd,k0,k1,k2,k3,k5,_,hC4,T4.hasType (by decide)⟩
   ·have I5:=I4.forget hx
    exact hM pins σ _ _ n C (some dx) true _ vs4 I5 ad8 gn e4 rfl n1 ⟨rfl,rfl,vs4,rfl,fun _=>n2⟩ qE
end
structure RoomQ(k:Nat)(A:Around):Prop where
 dp:A.depth+3*k+5<recursionLimit
 un:A.units+16*k+200<cLine
theorem Room.q{k:Nat}{A:Around}(r:Room k A):RoomQ k A:=⟨r.dp,r.un⟩
theorem RoomQ.mono{j k:Nat}{A:Around}(r:RoomQ k A)(h:j<=k):RoomQ j A:=⟨by have:=r.dp;omega,by have:=r.un;omega⟩
theorem RoomQ.mark{k:Nat}{A:Around}(r:RoomQ k A)(v:Option Value):RoomQ k (A.mark v):=⟨r.dp,r.un⟩
theorem RoomQ.deeper{k:Nat}{A:Around}(r:RoomQ (k+1) A)(env:Env):RoomQ k (A.deeper env):=
 ⟨by have:=r.dp;show A.depth+1+3*k+5<_;omega,by have:=r.un;show A.units+3+16*k+200<_;omega⟩
def alZ(P:Program)(w:World)(K:PySem.W.Frag)(mg:Str->Option Value)(base:Heap)(N:List Str)(qual:Str)(scope:Scope)(f:Addr)(cd:Value)(A:Around)(outer:List Env)(s:Shared)(H:Hp):Cx:=
 { (abT CX0 P w K mg base N qual scope f cd A outer s H E0).nox with calm:=false}
section
variable{P:Program}{w:World}{K:PySem.W.Frag}{mg:Str->Option Value}{base:Heap}{N ps:List Str}{qual:Str}{scope:Scope}{f:Addr}{cd:Value}{A:Around}{outer:List Env}{s s1:Shared}{H:Hp}{us:List Value}{vs:List V}
theorem ag7(S':FnScope N ps scope)(e0:Env0 P w K mg base A outer s H)(hl:vs.length=ps.length)(r:Vals vs us)
  (x:InCallC s s.heap.objs.size (bindL (envOfC qual scope s.heap.objs.size f cd).kindOf (ps.zip us) fun _=>none) (cellsFrom (s.heap.objs.size+1) scope.names []) (bindC (envOfC qual scope s.heap.objs.size f cd).kindOf (ps.zip us) fun _=>none) s1):
  Inv (alZ P w K mg base N qual scope f cd A outer s H) [] (abC N vs) H s1:=by
 have I:=aeW (CX:=CX0) (E:=E0) (A:={A with handled:=none}) (qual:=qual) (f:=f) (cd:=cd) S' rfl ⟨e0.frames,e0.mod,e0.bs,e0.bsz,e0.funs,e0.frf,e0.hok,e0.bare⟩ hl r x
 exact⟨⟨I.ok.mod,I.ok.kind,I.ok.glob,I.ok.blt,I.ok.above,I.ok.inj,I.ok.has,I.ok.cab,(fun z=>nomatch z),Around.frames_deeper e0.frames,I.ok.stk,I.ok.exf,I.ok.bs,I.ok.bsz,I.ok.noex,I.ok.exfs,I.ok.funs,I.ok.frf⟩,I.os,I.bare,I.base,I.loc,I.cell,I.free,I.freeC,I.pin,I.hok,I.len⟩
end
structure DfQ(P:Program)(w:World)(K:PySem.W.Frag)(mg:Str->Option Value)(base:Heap)(x:Str)(k:Nat)(ps:List Str)(sp:Sp):Prop where
 ex:∃(f:Addr) (fd:FuncData),(∀vs H Q E,sp vs H Q E->vs.length=ps.length)/\(∀(A:Around) (outer:List Env) (s:Shared) (H:Hp) (args:Args) (us:List Value) (vs:List V) (Q:VK),RoomQ k A->Env0 P w K mg base A outer s H->BindsTo s fd args (ps.zip us)->Vals vs us->sp vs H Q E0->
  codeAny (model P w) A (.call (.ref f) args) (CR CX0 outer P w H s Q E0) s)/\Binds K fd ps []/\mg x=some (.ref f)/\PySem.W.keepIn K (.ref f)=true
section
variable{P:Program}{w:World}{K:PySem.W.Frag}{mg:Str->Option Value}{base:Heap}{x:Str}{st:Stmt}{ps N:List Str}{k:Nat}{sp:Sp}
theorem Fn.dfsQ(F:Fn K mg x st ps)(S':FnScope N ps (aaD st))(len:∀vs H Q E,sp vs H Q E->vs.length=ps.length)
  (hbody:∀(f:Addr) (cdv:Value) (A:Around) (outer:List Env) (s:Shared) (H:Hp) (vs:List V) (Q:VK),RoomQ k (A.deeper (envOfC x (aaD st) s.heap.objs.size f cdv))->sp vs H Q E0->
   ∃t,Ss (alZ P w K mg base N x (aaD st) f cdv A outer s H) (aaS st) t/\t {nx:=fun _ H'=>Q .non H',rt:=Q} (abC N vs) H):DfQ P w K mg base x (k+1) ps sp:=by
 obtain⟨f,fd,F1,hb,hm⟩:=F.ex
 have kp:=F1.kp
 obtain⟨oc,od,kV,doc,pm,an,cdv,ct,osl,rfl,lk,hcd⟩:=F1.ex
 refine⟨⟨f,_,len,fun A outer s H args us vs Q hr e0 hbd r hsp=>?_,hb,hm,kp⟩⟩
 have stay:∀b o,base.get? b=some o->s.heap.get? b=some o:=fun b o e=>(e0.bs b o e).1
 have KX:=e0.mod.kin.keeps stay
 have names:∀y∈ps.zip us,(aaD st).names.lookup y.1=some .local∨((aaD st).names.lookup y.1=some .cell/\((cellsFrom (s.heap.objs.size+1) (aaD st).names []).lookup y.1).isSome=true):=fun y hy=>by
  rcases S'.par y.1 (List.of_mem_zip hy).1 with q | q
  ·exact .inl q
  ·exact .inr ⟨q,PySem.W.cellsFrom_some _ _ _ (.inl q)⟩
 refine codeAny_call_function (by have:=hr.dp;omega) (KX _ _ lk) rfl S'.co S'.gen rfl (PySem.W.codeRec_of KX hcd) (hbd _ _ _ _ (wpAny_newFunctionEnv_cells S'.kind names fun env he s1 y=>?_))
 subst he
 refine⟨(e0.mod.nolimit.keeps stay).keeps y.toInCall.keep,codeAny_func ?_⟩
 obtain⟨t,ht,hq⟩:=hbody f cdv A outer s H vs Q (hr.deeper _) hsp
 have I:=ag7 (qual:=x) (f:=f) (cd:=cdv) S' e0 (len _ _ _ _ hsp) r y
 refine wpAny_mono (ht.h [] s1 (abC N vs) H _ I hq) (fun fl s' hs=>?_) fun e s' hs=>False.elim hs
 cases fl with
 |ret u=>
  obtain⟨v,σ',H',J,rv,q⟩:=hs
  exact⟨v,H',J.os,J.bare,J.base,J.hok,rv,q⟩
 |next=>
  obtain⟨σ',H',J,q⟩:=hs
  exact⟨V.non,H',J.os,J.bare,J.base,J.hok,rfl,q⟩
 |brk=>obtain⟨_,_,_,q⟩:=hs;exact False.elim q
 |cont=>obtain⟨_,_,_,q⟩:=hs;exact False.elim q
end
section
variable{X:Cx}{k k':Nat}{ps:List Str}{sp:Sp}{x:Str}{e:Expr}{es:List Expr}{tA:TA}{p pos:Pos}
theorem eDQ(D:DfQ X.prog X.w X.K X.mg X.base x k ps sp)(hr:RoomQ k' X.A)(ha:As X (e::es) tA)(hk:k<=k':=by decide)(hg:Gl X x:=by rfl)(hdb:(x==("__debug__":Str))=false:=by decide)
  (he:starEach (e::es) X.env=(false,eval e X.env)::starEach es X.env:=by rfl) (hpl:(backTo pos (starEach es X.env)).any (·.1)=false:=by rfl):E X (.Call (.Name x p) (e::es) [] pos) (agA sp [] E0 tA):=by
 obtain⟨f,fd,len,run,hb,hm,kp⟩:=D.ex
 refine⟨fun pins s σ H Q I h=>?_⟩
 refine wpAny_Call_Name_kw (ab7 I hg hm ?_ hdb)
 refine PySem.W.callWith_K (h₀:=X.base) I.ok.mod.kin kp (thn (ha.h pos pins s σ H _ I h) fun us s1 ⟨vs,H1,I1,r,q⟩=>⟨I1.kIn,?_⟩) he hpl
 have q:sp (vs++[]) H1 Q E0:=q
 rw[List.append_nil] at q
 have hl:us.length=ps.length:=by rw[←r.length];exact len _ _ _ _ q
 have hbd:=hb s1 us I1.kIn (by rw[List.append_nil];exact hl)
 rw[List.append_nil] at hbd
 refine wpAny_call (codeAny_mono (run X.A X.stack s1 H1 ⟨us,[]⟩ us vs Q (hr.mono hk) I1.env0 hbd r q) fun rr s' hq=>?_)
 cases rr with
 |error e=>exact False.elim hq
 |ok fl=>
  cases fl with
  |ret u=>exact I1.after hq
  |next=>exact False.elim hq
  |brk=>exact False.elim hq
  |cont=>exact False.elim hq
end
end L2
namespace K24
open PySem PySem.Spec PyProof.Rows L2
def top(i:Nat):Stmt:=PySem.Challenge.pw_fivefields_k24_first_wrong_item.main.body.getD i (.Pass ⟨0,0,0,0⟩)
abbrev acD:Stmt:=top 12
abbrev acY:Stmt:=top 13
abbrev ae1:Stmt:=top 18
abbrev ad0:Stmt:=top 19
abbrev acB:Stmt:=top 20
abbrev adV:Stmt:=top 21
abbrev abV:Stmt:=top 22
abbrev adF:Stmt:=top 23
abbrev abF:Stmt:=ak8 (top 4) 0
abbrev acS:Stmt:=top 24
abbrev ab3:Stmt:=top 26
abbrev ac8:Stmt:=top 27
abbrev acE:Stmt:=top 28
abbrev acP:Stmt:=top 29
abbrev acC:Stmt:=top 30
abbrev ac7:Stmt:=top 31
abbrev ab2:Stmt:=top 35
abbrev acN:Stmt:=top 34
abbrev acM:Stmt:=top 36
abbrev acI:Stmt:=top 37
abbrev adC:Stmt:=top 38
abbrev aeY:Stmt:=top 39
def aq3(H:Hp)(r:V):Option (Int×Int)->Prop
 |none=>r=.non
 |some (a,b)=>∃p,r=.ref p/\H p=some (.tup [.int a,.int b])
theorem ahR(es:List (Option Int)):(es.map oV).all ab4=true:=by
 rw[List.all_map]
 refine List.all_eq_true.mpr fun x _=>?_
 cases x<;>rfl
theorem aa4(c:Nat):∀(l:List Nat),∀w∈spl c l,w.length<=l.length
 |[],w,hw=>by simp[spl] at hw;simp[hw]
 |x::r,w,hw=>by
  have ih:=aa4 c r
  unfold spl at hw
  split at hw
  ·rcases List.mem_cons.mp hw with z | z
   ·subst z;simp
   ·have:=ih w z;simp;omega
  ·split at hw
   ·rename_i h t e
    rcases List.mem_cons.mp hw with z | z
    ·subst z
     have:=ih h (by rw[e];simp)
     simp;omega
    ·have:=ih w (by rw[e];simp[z])
     simp;omega
   ·have:w=[x]:=by simpa using hw
    subst this;simp
def acK(lo hi:Int)(t:List Nat)(a b s:Int):Prop:=aaF lo hi t=some (ab1 a b s)/\44∉t/\t.length<=20/\(0<=a/\a<=63)/\(0<=b/\b<=63)/\(1<=s/\s<=99)
theorem aaZ{c:Nat}{a b:List Nat}{d:Nat}(h1:c∉a)(h2:c∉b)(h3:c≠d):c∉a++d::b:=by
 simp only[List.mem_append,List.mem_cons,not_or]
 exact⟨h1,h3,h2⟩
theorem adO{c:Nat}(h:c≠42):c∉[42]:=by simpa using h
theorem aaP{z:Int}(h:0<=z):((z.toNat:Nat):Int)=z:=Int.toNat_of_nonneg h
theorem acZ{a b:List Nat}{d n m:Nat}(h1:a.length<=n)(h2:b.length<=m):(a++d::b).length<=n+m+1:=by
 rw[List.length_append,List.length_cons]
 omega
theorem f1{lo hi a:Int}(h0:0<=lo)(h1:lo<=a)(h2:a<=hi)(h3:hi<=63):acK lo hi (num a.toNat) a a 1:=by
 have ha:a.toNat<100:=by omega
 have e:=afR (lo:=lo) (hi:=hi) ha (by omega) (by omega)
 rw[aaP (by omega)] at e
 have l:=(aa1 _ ha).2.2.2
 exact⟨abW (aaJ ha (by decide)) e,aaJ ha (by decide),by omega,⟨by omega,by omega⟩,⟨by omega,by omega⟩,by decide,by decide⟩
theorem f2{lo hi a b:Int}(h0:0<=lo)(h1:lo<=a)(h2:a<=b)(h4:b<=hi)(h3:hi<=63):acK lo hi (num a.toNat++45::num b.toNat) a b 1:=by
 have ha:a.toNat<100:=by omega
 have hb:b.toNat<100:=by omega
 have e:=afQ (lo:=lo) (hi:=hi) ha hb (by omega) (by omega) (by omega)
 rw[aaP (by omega),aaP (by omega)] at e
 have l:=acZ (d:=45) (aa1 _ ha).2.2.2 (aa1 _ hb).2.2.2
 exact⟨abW (aaZ (aaJ ha (by decide)) (aaJ hb (by decide)) (by decide)) e,aaZ (aaJ ha (by decide)) (aaJ hb (by decide)) (by decide),by omega,⟨by omega,by omega⟩,⟨by omega,by omega⟩,by decide,by decide⟩
theorem f0{lo hi:Int}(h0:0<=lo)(h1:lo<=hi)(h3:hi<=63):acK lo hi [42] lo hi 1:=
 ⟨abW (adO (by decide)) adW,adO (by decide),by decide,⟨by omega,by omega⟩,⟨by omega,by omega⟩,by decide,by decide⟩
theorem f3{lo hi s:Int}(h0:0<=lo)(h1:lo<=hi)(h3:hi<=63)(hs:1<=s/\s<=99):acK lo hi ([42]++47::num s.toNat) lo hi s:=by
 have hs':s.toNat<100:=by omega
 have e:=acQ (adO (by decide)) (adW (lo:=lo) (hi:=hi)) hs' (by omega)
 rw[if_neg (by decide),aaP (by omega)] at e
 have l:=acZ (a:=[42]) (n:=1) (d:=47) (by decide) (aa1 _ hs').2.2.2
 exact⟨e,aaZ (adO (by decide)) (aaJ hs' (by decide)) (by decide),by omega,⟨by omega,by omega⟩,⟨by omega,by omega⟩,hs⟩
theorem f4{lo hi a s:Int}(h0:0<=lo)(h1:lo<=a)(h2:a<=hi)(h3:hi<=63)(hs:1<=s/\s<=99):acK lo hi (num a.toNat++47::num s.toNat) a hi s:=by
 have ha:a.toNat<100:=by omega
 have hs':s.toNat<100:=by omega
 have e1:=afR (lo:=lo) (hi:=hi) ha (by omega) (by omega)
 have e:=acQ (aaJ ha (by decide)) e1 hs' (by omega)
 rw[if_pos (aa1 _ ha).1,aaP (by omega),aaP (by omega)] at e
 have l:=acZ (d:=47) (aa1 _ ha).2.2.2 (aa1 _ hs').2.2.2
 exact⟨e,aaZ (aaJ ha (by decide)) (aaJ hs' (by decide)) (by decide),by omega,⟨by omega,by omega⟩,⟨by omega,by omega⟩,hs⟩
theorem f5{lo hi a b s:Int}(h0:0<=lo)(h1:lo<=a)(h2:a<=b)(h4:b<=hi)(h3:hi<=63)(hs:1<=s/\s<=99):acK lo hi ((num a.toNat++45::num b.toNat)++47::num s.toNat) a b s:=by
 have ha:a.toNat<100:=by omega
 have hb:b.toNat<100:=by omega
 have hs':s.toNat<100:=by omega
 have e1:=afQ (lo:=lo) (hi:=hi) ha hb (by omega) (by omega) (by omega)
 have e:=acQ (aaZ (aaJ ha (by decide)) (aaJ hb (by decide)) (by decide)) e1 hs' (by omega)
 rw[if_neg (by rw[anQ (c:=45) (by simp) (by decide)];exact Bool.false_ne_true),aaP (by omega),aaP (by omega),aaP (by omega)] at e
 have l:=acZ (d:=47) (acZ (d:=45) (aa1 _ ha).2.2.2 (aa1 _ hb).2.2.2) (aa1 _ hs').2.2.2
 exact⟨e,aaZ (aaZ (aaJ ha (by decide)) (aaJ hb (by decide)) (by decide)) (aaJ hs' (by decide)) (by decide),by omega,⟨by omega,by omega⟩,⟨by omega,by omega⟩,hs⟩
theorem at6{i:Int}{x0 x1 x2 x3 x4 x5:V}(h0:0<=i)(h1:i<6):∃v,atI [x0,x1,x2,x3,x4,x5] i=some v/\(v=x0∨v=x1∨v=x2∨v=x3∨v=x4∨v=x5):=by
 have:i=0∨i=1∨i=2∨i=3∨i=4∨i=5:=by omega
 rcases this with rfl | rfl | rfl | rfl | rfl | rfl
 ·exact⟨_,rfl,.inl rfl⟩
 ·exact⟨_,rfl,.inr (.inl rfl)⟩
 ·exact⟨_,rfl,.inr (.inr (.inl rfl))⟩
 ·exact⟨_,rfl,.inr (.inr (.inr (.inl rfl)))⟩
 ·exact⟨_,rfl,.inr (.inr (.inr (.inr (.inl rfl))))⟩
 ·exact⟨_,rfl,.inr (.inr (.inr (.inr (.inr rfl))))⟩
theorem abN(c:Nat):∀(a b:List (List Nat)),a≠[]->b≠[]->aaE c (a++b)=aaE c a++c::aaE c b
 |[],_,h,_=>absurd rfl h
 |[p],b,_,hb=>by
  cases b with
  |nil=>exact absurd rfl hb
  |cons q r=>rfl
 |p::q::r,b,_,hb=>by
  have ih:=abN c (q::r) b (by simp) hb
  show p++c::aaE c ((q::r)++b)=(p++c::aaE c (q::r))++c::aaE c b
  rw[ih]
  simp
structure Sofar(lo hi:Int)(ws:List (List Nat))(zs:List Int):Prop where
 it:∀w∈ws,44∉w/\(aaF lo hi w).isSome=true/\∀i:Nat,tb ((aaF lo hi w).getD 0) i=true->lo<=i/\(i:Int)<=hi
 bits:∀i,tb (abS zs) i=ws.any fun w=>tb ((aaF lo hi w).getD 0) i
 len:(aaE 44 ws).length<=300
theorem Sofar.none{lo hi:Int}:Sofar lo hi [] []:=⟨fun w h=>(nomatch h),fun i=>by rw[agH];rfl,by decide⟩
theorem adE{H H1:Hp}{e dx:Addr}{o u1 u2:HO}(s:Same H H1)(he:H1 e=none)(hd:upd H1 e u1 dx=none)(ne:dx≠e):Same H (rem (upd (upd (upd H1 e u1) dx o) e u2) e)/\rem (upd (upd (upd H1 e u1) dx o) e u2) e dx=some o:=by
 have n1:H1 dx=none:=by rw[aaH ne] at hd;exact hd
 refine⟨fun b v hb=>?_,by rw[ad1 ne,aaH ne,aaA]⟩
 have hb1:=s b v hb
 rw[ad1 (aaG hb1 he),aaH (aaG hb1 he),aaH (aaG hb1 n1),aaH (aaG hb1 he)]
 exact hb1
def aaW(lo hi:Int)(l:List Nat):Option Nat:=
 if 300<l.length then some 0 else match ((spl 44 l).take 40).findIdx? (fun w=>(aaF lo hi w).isNone) with
  |some p=>some p
  |none=>if 40<(spl 44 l).length then some 40 else none
theorem amP(xs:List V):agU xs none (some 40)=xs.take 40:=by
 unfold agU
 have e1:HT.sIx xs.length 0 none=0:=rfl
 have e2:HT.sIx xs.length xs.length (some 40)=min 40 xs.length:=by
  unfold HT.sIx
  simp
 rw[e1,e2,List.drop_zero,Nat.sub_zero,List.take_eq_take_iff]
 omega
theorem ahO{α:Type}{p:α->Bool}:∀{xs:List α} {i:Nat} {x:α},xs[i]? =some x->p x=true->(∀y∈xs.take i,p y=false)->xs.findIdx? p=some i
 |[],_,_,h,_,_=>by cases h
 |a::xs,0,x,h,hp,_=>by
  obtain rfl:a=x:=by simpa using h
  rw[List.findIdx?_cons,hp]
  rfl
 |a::xs,i+1,x,h,hp,hn=>by
  have ha:p a=false:=hn a (by simp)
  have ih:=ahO (xs:=xs) (i:=i) (by simpa using h) hp fun y hy=>hn y (by rw[List.take_succ_cons];exact List.mem_cons_of_mem _ hy)
  rw[List.findIdx?_cons,ha,ih]
  rfl
theorem ahY{α:Type}{p:α->Bool}{xs:List α}(h:∀y∈xs,p y=false):xs.findIdx? p=none:=List.findIdx?_eq_none_iff.mpr h
theorem aeV{lo hi:Int}{l w:List Nat}{i:Nat}(h3:¬300<l.length)(h:((spl 44 l).take 40)[i]? =some w)(hw:(aaF lo hi w).isNone=true)(hg:∀v∈((spl 44 l).take 40).take i,(aaF lo hi v).isNone=false):aaW lo hi l=some i:=by
 unfold aaW
 rw[if_neg h3,ahO h hw hg]
theorem af0{lo hi:Int}{l:List Nat}(h3:¬300<l.length)(h4:40<(spl 44 l).length)(hg:∀v∈(spl 44 l).take 40,(aaF lo hi v).isNone=false):aaW lo hi l=some 40:=by
 unfold aaW
 rw[if_neg h3,ahY hg]
 exact if_pos h4
theorem af8{lo hi:Int}{l:List Nat}(h3:¬300<l.length)(h4:¬40<(spl 44 l).length)(hg:∀v∈(spl 44 l).take 40,(aaF lo hi v).isNone=false):aaW lo hi l=none:=by
 unfold aaW
 rw[if_neg h3,ahY hg]
 exact if_neg h4
def Refd(K:PySem.W.Frag)(H:Hp)(v:V)(lo hi at_:Int):Prop:=(∃kd,agO K H v kd/\kd≠ .str/\at_=0)∨∃l:List Nat,v=.str (Tx l)/\l.length<=100000/\∃p:Nat,aaW lo hi l=some p/\at_=p
theorem ag8{xs:List V}{i:Int}(h0:0<=i)(h1:i<xs.length):∃v,atI xs i=some v/\v∈xs:=by
 have hk:i.toNat<xs.length:=by omega
 have e:i=((i.toNat:Nat):Int):=by omega
 refine⟨xs[i.toNat],?_,List.getElem_mem hk⟩
 have z:atI xs ((i.toNat:Nat):Int)=some xs[i.toNat]:=afX (List.getElem?_eq_getElem hk)
 rw[←e] at z
 exact z
theorem ajB{z:Int}(h1: -100<=z)(h2:z<=100):(aaC z).length<=4:=by
 have all:∀n:Nat,n<201->(aaC ((n:Int)-100)).length<=4:=by decide +kernel
 have:=all (z+100).toNat (by omega)
 rw[show (((z+100).toNat:Nat):Int)-100=z by omega] at this
 exact this
def wr(a b:Nat):List (List Nat):=[([]:List Nat),([32]:List Nat),([120]:List Nat),([42,42]:List Nat),(([42]:List Nat)++aaC (a:Int)),(aaC (a:Int)++([45]:List Nat)),(([45]:List Nat)++aaC (a:Int)),([45,45]:List Nat),((aaC (a:Int)++([45,45]:List Nat))++aaC (a:Int)),((((aaC (a:Int)++([45]:List Nat))++aaC (a:Int))++([45]:List Nat))++aaC (a:Int)),(([48]:List Nat)++aaC (a:Int)),(([48,48]:List Nat)++aaC (a:Int)),(([43]:List Nat)++aaC (a:Int)),(([32]:List Nat)++aaC (a:Int)),(aaC (a:Int)++([32]:List Nat)),(aaC (a:Int)++([46,48]:List Nat)),(aaC (a:Int)++([95,48]:List Nat)),([76]:List Nat),(aaC (a:Int)++([45,42]:List Nat)),(aaC (a:Int)++([47]:List Nat)),([47]:List Nat),([47,49]:List Nat),([42,47]:List Nat),([42,47,48]:List Nat),([42,47,49,48,48]:List Nat),([42,47,48,49]:List Nat),([42,47,45,49]:List Nat),([42,47,49,47,49]:List Nat),(aaC (a:Int)++([47,49,47]:List Nat)),([42,47,42]:List Nat),(aaC (a:Int)++([47,47,49]:List Nat)),((aaC (a:Int)++([45]:List Nat))++aaC ((b:Int)+1)),aaC ((b:Int)+1),(aaC ((b:Int)+1)++([47,49]:List Nat)),((aaC (a:Int)++([45,48]:List Nat))++aaC (a:Int)),(([42,45]:List Nat)++aaC (a:Int)),((aaC (b:Int)++([45]:List Nat))++aaC ((a:Int)-1)),aaC ((a:Int)-1),([42,47,49,32]:List Nat),(((aaC (a:Int)++([45]:List Nat))++aaC (a:Int))++([47,48]:List Nat)),(List.replicate 60 [57]).flatten,((aaC (a:Int)++([59]:List Nat))++aaC (a:Int)),(aaC (a:Int)++([10]:List Nat)),(([9]:List Nat)++aaC (a:Int)),(((aaC (a:Int)++([45]:List Nat))++aaC (a:Int))++([47]:List Nat))]
def okI(lo hi:Int)(l:List Nat):Bool:=match spl 47 l with
 |[r,s]=>(aaK lo hi r).isSome&&(aaR 1 99 s).isSome
 |_=>(aaK lo hi l).isSome
theorem anF{lo hi:Int}{l:List Nat}(h:okI lo hi l=false):(aaF lo hi l).isNone=true:=by
 unfold okI at h
 unfold aaF
 revert h
 generalize spl 47 l=z
 rcases z with _ | ⟨r,_ | ⟨s,_ | ⟨t,u⟩⟩⟩
 ·intro h
  change (aaK lo hi l).isSome=false at h
  cases e:aaK lo hi l with
  |none=>rfl
  |some x=>rw[e] at h;cases h
 ·intro h
  change (aaK lo hi l).isSome=false at h
  cases e:aaK lo hi l with
  |none=>rfl
  |some x=>rw[e] at h;cases h
 ·intro h
  change ((aaK lo hi r).isSome&&(aaR 1 99 s).isSome)=false at h
  show (aaU lo hi r s).isNone=true
  unfold aaU
  cases e1:aaK lo hi r with
  |none=>cases aaR 1 99 s<;>rfl
  |some p=>
   obtain⟨a,b⟩:=p
   cases e2:aaR 1 99 s with
   |none=>rfl
   |some q=>rw[e1,e2] at h;cases h
 ·intro h
  change (aaK lo hi l).isSome=false at h
  cases e:aaK lo hi l with
  |none=>rfl
  |some x=>rw[e] at h;cases h
def chk(a b:Nat)(w:List Nat):Bool:= !w.contains 44&&(decide (w.length<=60)&& !okI a b w)
theorem akZ:∀a<64,∀b<64,a<=b->(wr a b).all (chk a b)=true/\(a<b->chk a b (((aaC (b:Int)++([45]:List Nat))++aaC (a:Int)))=true):=by decide +kernel
theorem ajS{a b:Nat}{w:List Nat}(h:chk a b w=true):44∉w/\w.length<=60/\(aaF a b w).isNone=true:=by
 unfold chk at h
 rw[Bool.and_eq_true,Bool.and_eq_true,Bool.not_eq_true',Bool.not_eq_true'] at h
 exact⟨fun z=>(by rw[List.contains_iff_mem.mpr z] at h;exact absurd h.1 (by decide)),of_decide_eq_true h.2.1,anF h.2.2⟩
theorem ahF{n:Nat}:∀{vs:List (List Nat)},(∀v∈vs,v.length<=n)->(vs.map (·.length)).sum<=n*vs.length
 |[],_=>Nat.le_refl _
 |v::vs,h=>by
  have h1:=h v (by simp)
  have h2:=ahF (vs:=vs) fun u hu=>h u (List.mem_cons_of_mem _ hu)
  rw[List.map_cons,List.sum_cons,List.length_cons,Nat.mul_add]
  omega
theorem aa7{vs:List (List Nat)}(h:∀v∈vs,v.length<=320)(hn:vs.length<=60):(aaE 44 vs).length<=20000:=by
 have h1:=ab5 44 vs
 have h2:=ahF h
 have:320*vs.length<=320*60:=Nat.mul_le_mul_left _ hn
 split at h1<;>omega
theorem agD:∀{ws:List (List Nat)} {w:List Nat},w∈ws->w.length<=(aaE 44 ws).length
 |[u],w,h=>by rw[List.mem_singleton.mp h];exact Nat.le_refl _
 |u::v::ws,w,h=>by
  show w.length<=(u++44::aaE 44 (v::ws)).length
  rw[List.length_append,List.length_cons]
  rcases List.mem_cons.mp h with z | z
  ·rw[z];omega
  ·have:=agD (ws:=v::ws) z
   omega
theorem abO{lo hi:Int}{ws us:List (List Nat)}{m:Nat}{w:List Nat}(hg:∀w∈ws,44∉w/\(aaF lo hi w).isNone=false)(hs:∀k,k<m->us[k]? =ws[k]?)(hm:us[m]? =some w)(hw:(aaF lo hi w).isNone=true)
  (h44:∀v∈us,44∉v) (m40:m<40) (hl:¬300<(aaE 44 us).length):aaW lo hi (aaE 44 us)=some m:=by
 have hne:us≠[]:=fun e=>by rw[e] at hm;cases hm
 have e:=abL 44 us hne h44
 refine aeV (w:=w) hl (by rw[e,List.getElem?_take_of_lt m40];exact hm) hw fun v hv=>?_
 rw[e,List.take_take,Nat.min_eq_left (by omega)] at hv
 obtain⟨k,hk⟩:=List.mem_iff_getElem?.mp hv
 rw[List.getElem?_take] at hk
 split at hk
 ·next c=>
  rw[hs k c] at hk
  exact (hg v (List.mem_of_getElem? hk)).2
 ·cases hk
theorem ag9{lo hi:Int}{us:List (List Nat)}(hg:∀w∈us.take 40,(aaF lo hi w).isNone=false)(h44:∀v∈us,44∉v)(hn:40<us.length)(hl:¬300<(aaE 44 us).length):aaW lo hi (aaE 44 us)=some 40:=by
 have hne:us≠[]:=fun e=>by rw[e] at hn;exact absurd hn (by decide)
 have e:=abL 44 us hne h44
 exact af0 hl (by rw[e];exact hn) (by rw[e];exact hg)
theorem acV{lo hi:Int}{l:List Nat}(h:300<l.length):aaW lo hi l=some 0:=if_pos h
theorem abG{P:List Nat->Prop}{us:List (List Nat)}{j:Nat}{w:List Nat}(h:∀u∈us,P u)(hw:P w):∀u∈us.set j w,P u:=fun u hu=>(List.mem_or_eq_of_mem_set hu).elim (h u) fun e=>e▸hw
def Rfd(lo hi:Int)(l:List Nat)(A:Int):Prop:=l.length<=100000/\∃p:Nat,aaW lo hi l=some p/\A=p
theorem abE{lo hi:Int}{us:List (List Nat)}{m:Nat}(hl:∀v∈us,v.length<=320)(hn:us.length<=60)(h:aaW lo hi (aaE 44 us)=some m):Rfd lo hi (aaE 44 us) m:=⟨by have:=aa7 hl hn;omega,m,h,rfl⟩
theorem aj2{vs:List (List Nat)}(h:∀v∈vs,v.length<=2)(hn:vs.length<=60):(aaE 44 vs).length<=180:=by
 have h1:=ab5 44 vs
 have h2:=ahF h
 split at h1<;>omega
def aaV(lo hi x1 x2:Int)(n:Nat):List (List Nat):=(List.range n).map fun k:Nat=>num (lo+(x1+(0+(k:Int))*x2)%(hi-lo+1)).toNat
theorem aj9{lo hi x1 x2:Int}(hb:0<=lo/\lo<=hi/\hi<=63){n:Nat}:∀w∈aaV lo hi x1 x2 n,(44∉w/\(aaF lo hi w).isNone=false)/\w.length<=2:=fun w hw=>by
 obtain⟨k,_,rfl⟩:=List.mem_map.mp hw
 have p1:0<hi-lo+1:=by omega
 have m0:=Int.emod_nonneg (x1+(0+(k:Int))*x2) (show (hi-lo+1)≠0 by omega)
 have m1:=Int.emod_lt_of_pos (x1+(0+(k:Int))*x2) p1
 obtain⟨i1,i2,i3,_⟩:=f1 (a:=lo+(x1+(0+(k:Int))*x2)%(hi-lo+1)) hb.1 (by omega) (by omega) hb.2.2
 exact⟨⟨i2,by rw[i1];rfl⟩,(aa1 _ (by omega)).2.2.2⟩
theorem aa3(lo hi x1 x2:Int)(n:Nat):(aaV lo hi x1 x2 n).length=n:=by unfold aaV;rw[List.length_map,List.length_range]
def f40(w:List Nat):List (List Nat):=List.replicate 40 w
theorem ae6{lo hi:Int}{ws:List (List Nat)}(hg:∀w∈ws,44∉w/\(aaF lo hi w).isNone=false)(hne:ws≠[])(h40:ws.length<=40)(hj:(aaE 44 ws).length<=300):aaW lo hi (aaE 44 ws)=none:=by
 have e:=abL 44 ws hne fun w hw=>(hg w hw).1
 exact af8 (by omega) (by rw[e];omega) (by rw[e];exact fun v hv=>(hg v (List.mem_of_mem_take hv)).2)
theorem ahJ{m:Int}(h:0<=m):∀n:Nat,orM (List.replicate (n+1) m)=m
 |0=>by
  show Builtin.bitOr 0 m=m
  refine ag6 (ai8 (Int.le_refl 0) h) h fun i=>?_
  rw[ajI (Int.le_refl 0) h,ah1,Bool.false_or]
 |n+1=>by
  rw[List.replicate_succ',agK,ahJ h n]
  refine ag6 (ai8 h h) h fun i=>?_
  rw[ajI h h,Bool.or_self]
theorem akD{hi lo:Int}(h0:0<=lo)(h1:lo<=hi)(h2:hi<=63):(∀w∈f40 (num hi.toNat),44∉w/\(aaF lo hi w).isNone=false)/\(aaE 44 (f40 (num hi.toNat))).length<=180/\orM (aa9 lo hi (aaE 44 (f40 (num hi.toNat))))=1*2^hi.toNat:=by
 obtain⟨i1,i2,i3,_⟩:=f1 (a:=hi) h0 h1 (Int.le_refl hi) h2
 have hg:∀w∈f40 (num hi.toNat),44∉w/\(aaF lo hi w).isNone=false:=fun w hw=>by
  rw[(List.mem_replicate.mp hw).2]
  exact⟨i2,by rw[i1];rfl⟩
 refine⟨hg,aj2 (fun w hw=>by rw[(List.mem_replicate.mp hw).2];exact (aa1 _ (by omega)).2.2.2) (by show 40<=60;decide),?_⟩
 have e:=abL 44 (f40 (num hi.toNat)) (by unfold f40;exact fun z=>nomatch z) fun w hw=>(hg w hw).1
 unfold aa9
 rw[e]
 unfold f40
 rw[List.map_replicate,i1]
 show orM (List.replicate (39+1) (ab1 hi hi 1))=_
 rw[ahJ (ahG _ _ _)]
 refine ag6 (ahG _ _ _) (by have:=af9 hi.toNat;omega) fun i=>?_
 rw[amE (by omega) (by decide),Int.one_mul,ajX,Bool.eq_iff_iff]
 simp only[Bool.and_eq_true,decide_eq_true_eq]
 omega
def l33:List (List Nat):=List.replicate 33 [49,48,45,53,57,47,49,48]
theorem ajR:aaW 0 59 (aaE 44 l33++[44,48,45,57])=none/\aaW 0 59 [42,47,49,48,44,48,45,57]=none/\orM (aa9 0 59 (aaE 44 l33++[44,48,45,57]))=orM (aa9 0 59 [42,47,49,48,44,48,45,57]):=by decide +kernel
theorem acT:aaW 0 59 (aaE 44 l33++[44,48,45,49,48])=some 0/\aaW 0 59 (aaE 44 l33++[44,48,45,57,120])=some 0/\(aaE 44 l33).length=296:=by decide +kernel
def t101:List (List Nat):=List.replicate 101 [49,48]
theorem ac2:aaW 0 59 (aaE 44 t101)=some 0/\aaW 0 59 (aaE 44 ([[49],[120]]++t101))=some 0/\(aaE 44 t101).length=302/\(aaE 44 ([[49],[120]]++t101)).length=306:=by decide +kernel
def aeC(K:PySem.W.Frag):Sp:=fun vs H Q _=>∃l:List Nat,vs=[.str (Tx l)]/\l.length<=2000/\∀H',Same H H'->Q (.bl (ae9 l)) H'
def aeI(K:PySem.W.Frag):Sp:=fun vs H Q _=>∃l:List Nat,vs=[.str (Tx l)]/\l.length<=2000/\∀H',Same H H'->Q (.bl (isW l)) H'
def agX(K:PySem.W.Frag):Sp:=fun vs H Q _=>∃(a:Addr) (zs:List Int),vs=[.ref a]/\SqL K H a (zs.map V.int)/\(∀z∈zs,0<=z/\z<=100000)/\Q (.int (abS zs)) H
def afZ(K:PySem.W.Frag):Sp:=fun vs H Q _=>∃a b s:Int,vs=[.int a,.int b,.int s]/\(0<=a/\a<=1000)/\(-1<=b/\b<=1000)/\(0<s/\s<=1000)/\∀H',Same H H'->Q (.int (ab1 a b s)) H'
def adY(K:PySem.W.Frag):Sp:=fun vs H Q _=>∃(l:List Nat) (lo hi:Int),vs=[.str (Tx l),.int lo,.int hi]/\l.length<=600/\∀H',Same H H'->Q (oV (aaR lo hi l)) H'
def af1(K:PySem.W.Frag):Sp:=fun vs H Q _=>∃(l:List Nat) (lo hi:Int),vs=[.str (Tx l),.int lo,.int hi]/\l.length<=500/\∀(r:V) (H':Hp),Same H H'->aq3 H' r (aaK lo hi l)->Q r H'
def adL(K:PySem.W.Frag):Sp:=fun vs H Q _=>∃(r s:List Nat) (lo hi:Int),vs=[.str (Tx r),.str (Tx s),.int lo,.int hi]/\r.length<=400/\s.length<=400/\(0<=lo/\lo<=hi/\hi<=1000)/\∀H',Same H H'->Q (oV (aaU lo hi r s)) H'
def afJ(K:PySem.W.Frag):Sp:=fun vs H Q _=>∃(l:List Nat) (lo hi:Int),vs=[.str (Tx l),.int lo,.int hi]/\l.length<=300/\(0<=lo/\lo<=hi/\hi<=1000)/\∀H',Same H H'->Q (oV (aaF lo hi l)) H'
def acA(K:PySem.W.Frag)(C:Addr):Sp:=fun vs H Q _=>∃(a:Addr) (v:V),vs=[.ref a,v]/\H a=some (xn a C none)/\XS K C "at"/\∀dx H',H dx=none->dx≠a->H'=upd (upd H dx (.xd [(("at":Str),v)])) a (xn a C (some dx))->Q .non H'
def aeH(K:PySem.W.Frag)(C_NoField:Addr):Sp:=fun vs H Q E=>∃(v:V) (lo hi:Int),vs=[v,.int lo,.int hi]/\(0<=lo/\lo<=hi/\hi<=1000)/\((∃kd,agO K H v kd/\kd≠ .str/\∀dx H',Same H H'->H' dx=some (.xd [(("at":Str),.int 0)])->E (.ref C_NoField) (some dx) H')∨∃l:List Nat,v=.str (Tx l)/\l.length<=100000/\(∀p:Nat,aaW lo hi l=some p->∀dx H',Same H H'->H' dx=some (.xd [(("at":Str),.int p)])->E (.ref C_NoField) (some dx) H')/\(aaW lo hi l=none->∀H',Same H H'->Q (.int (orM (aa9 lo hi l))) H'))
def adG(K:PySem.W.Frag):Sp:=fun vs H Q _=>∃(a:Addr) (k:Int),vs=[.ref a,.int k]/\(∃ns:List Int,SqL K H a (ns.map V.int))/\(0<=k/\k<1000)/\∀c:Int,Q (.int c) H
def afE(K:PySem.W.Frag):Sp:=fun vs H Q _=>∃n:Int,vs=[.int n]/\∀r:Int,0<=r->r<2147483629->Q (.int r) H
def aeB(K:PySem.W.Frag):Sp:=fun vs H Q _=>∃(c:Int) (a:Addr) (b:Bool) (ss:List Int),vs=[.int c,.ref a,.bl b]/\SqL K H a (ss.map V.int)/\(∀z∈ss,0<z/\z<1073741824)/\ss.length<=63/\∀(ds:List Int) (p:Addr) (H':Hp),Same H H'->H' p=some (.lst (ds.map V.int))->Digs ds ss->Q (.ref p) H'
def aeN(K:PySem.W.Frag):Sp:=fun vs H Q _=>∃(v:V) (k:Kd),vs=[v]/\agO K H v k/\Q (.bl k.wh) H
def aeA(K:PySem.W.Frag):Sp:=fun vs H Q _=>∃wh one oth:Int,vs=[.int wh,.int one,.int oth]/\0<=wh/\(0<=one/\one<64)/\∀(p:Addr) (lo hi:Int) (H':Hp),Same H H'->H' p=some (.tup [.int lo,.int hi])->0<=lo->lo<=hi->hi<=63->Q (.ref p) H'
def afK(K:PySem.W.Frag):Sp:=fun vs H Q _=>∃(d:Addr) (z0 z1 z2 z3 z4 lo hi:Int),vs=[.ref d,.int lo,.int hi]/\H d=some (.lst ([z0,z1,z2,z3,z4].map V.int))/\(0<=z0/\z0<6)/\(0<=z3/\z3<3)/\(0<=lo/\lo<=hi/\hi<=63)/\∀(p:Addr) (t:List Nat) (a b s:Int) (H':Hp),Same H H'->H' p=some (.tup [.str (Tx t),.int a,.int b,.int s])->acK lo hi t a b s->lo<=a->b<=hi->Q (.ref p) H'
def adH(K:PySem.W.Frag):Sp:=fun vs H Q _=>∃(v:V) (lo hi at_:Int),vs=[v,.int lo,.int hi,.int at_]/\(0<=lo/\lo<=hi/\hi<=1000)/\Refd K H v lo hi at_/\∀H',Same H H'->Q (.bl true) H'
def aeJ(K:PySem.W.Frag):Sp:=fun vs H Q _=>∃c lo hi:Int,vs=[.int c,.int lo,.int hi]/\(0<=lo/\lo<=hi/\hi<=63)/\∀(w:List Nat) (H':Hp),Same H H'->44∉w->w.length<=60->(aaF lo hi w).isNone=true->Q (.str (Tx w)) H'
def aeF(K:PySem.W.Frag):Sp:=fun vs H Q _=>∃(a:Addr) (ns:List Int) (lo hi:Int) (bm:Bool),vs=[.ref a,.int lo,.int hi,.bl bm]/\SqL K H a (ns.map V.int)/\ns.length<=63/\(0<=lo/\lo<=hi/\hi<=63)/\∀(p:Addr) (ws:List (List Nat)) (H':Hp),Same H H'->H' p=some (.lst (ws.map fun w=>V.str (Tx w)))->(∀w∈ws,44∉w/\(aaF lo hi w).isNone=false)->ws≠[]->ws.length<=40->(aaE 44 ws).length<=300->Q (.ref p) H'
def ad6(K:PySem.W.Frag):Sp:=fun vs H Q _=>∃(d p:Addr) (x0 x1 x2 x3 x4 lo hi:Int) (ws:List (List Nat)),vs=[.ref d,.ref p,.int lo,.int hi]/\H d=some (.lst [.int x0,.int x1,.int x2,.int x3,.int x4])/\H p=some (.lst (ws.map fun w=>V.str (Tx w)))/\(∀w∈ws,44∉w/\(aaF lo hi w).isNone=false)/\ws≠[]/\ws.length<=40/\(aaE 44 ws).length<=300/\(0<=lo/\lo<=hi/\hi<=63)/\∀(t:Addr) (l:List Nat) (A:Int) (H':Hp),Same H H'->H' t=some (.tup [.str (Tx l),.int A])->Rfd lo hi l A->Q (.ref t) H'
def afN(K:PySem.W.Frag):Sp:=fun vs H Q _=>∃(d:Addr) (x0 x1 x2 x3 x4 x5 lo hi:Int),vs=[.ref d,.int lo,.int hi]/\H d=some (.lst [.int x0,.int x1,.int x2,.int x3,.int x4,.int x5])/\(0<=x0/\x0<12)/\(0<=x4/\x4<40)/\(0<=lo/\lo<=hi/\hi<=63)/\∀(t:Addr) (l:List Nat) (A:Int) (H':Hp),Same H H'->H' t=some (.tup [.str (Tx l),.int A])->Rfd lo hi l A->Q (.ref t) H'
def sp_law(K:PySem.W.Frag):Sp:=fun vs H Q _=>∃(a:Addr) (ns:List Int),vs=[.ref a]/\SqL K H a (ns.map V.int)/\ns.length<=63/\∀H',Q (.bl true) H'
theorem mg_tx{K:PySem.W.Frag}{h:Heap}{mg:Str->Option Value}{x n:Str}{l:List Nat}{t:Tok}(X:K.In h)(G:h.Ns mainGlobals mg)(e:x=Tx l)(a:PySem.W.nsIn K mainGlobals n=some (some (.str x t))):mg n=some (.str (Tx l) t):=e▸PySem.W.mg_of X G a
theorem adX:FnScope ["text"] ["text"] (aaD acD):=⟨rfl,rfl,rfl,by decide +kernel,rfl,by decide +kernel,by decide +kernel⟩
theorem aeG:FnScope ["text"] ["text"] (aaD acY):=⟨rfl,rfl,rfl,by decide +kernel,rfl,by decide +kernel,by decide +kernel⟩
theorem sc_mask_of:FnScope ["numbers","mask","number"] ["numbers"] (aaD ae1):=⟨rfl,rfl,rfl,by decide +kernel,rfl,by decide +kernel,by decide +kernel⟩
theorem agB:FnScope ["first","last","stride"] ["first","last","stride"] (aaD ad0):=⟨rfl,rfl,rfl,by decide +kernel,rfl,by decide +kernel,by decide +kernel⟩
theorem sc_read_number:FnScope ["text","low","high","number"] ["text","low","high"] (aaD acB):=⟨rfl,rfl,rfl,by decide +kernel,rfl,by decide +kernel,by decide +kernel⟩
theorem sc_read_run:FnScope ["text","low","high","ends"] ["text","low","high"] (aaD adV):=⟨rfl,rfl,rfl,by decide +kernel,rfl,by decide +kernel,by decide +kernel⟩
theorem sc_read_strided:FnScope ["run_text","stride_text","low","high","run","stride","last"] ["run_text","stride_text","low","high"] (aaD abV):=⟨rfl,rfl,rfl,by decide +kernel,rfl,by decide +kernel,by decide +kernel⟩
theorem sc_read_item:FnScope ["item","low","high","parts","run"] ["item","low","high"] (aaD adF):=⟨rfl,rfl,rfl,by decide +kernel,rfl,by decide +kernel,by decide +kernel⟩
theorem ab9:FnScope ["self","at"] ["self","at"] (aaD abF):=⟨rfl,rfl,rfl,by decide +kernel,rfl,by decide +kernel,by decide +kernel⟩
theorem sc_read_field:FnScope ["text","low","high","items","mask","place","item","told"] ["text","low","high"] (aaD acS):=⟨rfl,rfl,rfl,by decide +kernel,rfl,by decide +kernel,by decide +kernel⟩
theorem adK:FnScope ["_law_script","_law_k"] ["_law_script","_law_k"] (aaD ab3):=⟨rfl,rfl,rfl,by decide +kernel,rfl,by decide +kernel,by decide +kernel⟩
theorem sc__law_stir:FnScope ["_law_number","_law_first","_law_second"] ["_law_number"] (aaD ac8):=⟨rfl,rfl,rfl,by decide +kernel,rfl,by decide +kernel,by decide +kernel⟩
theorem sc__law_digits:FnScope ["_law_cell","_law_sizes","_law_mixed","_law_found","_law_size"] ["_law_cell","_law_sizes","_law_mixed"] (aaD acE):=⟨rfl,rfl,rfl,by decide +kernel,rfl,by decide +kernel,by decide +kernel⟩
theorem aeK:FnScope ["_law_found"] ["_law_found"] (aaD acP):=⟨rfl,rfl,rfl,by decide +kernel,rfl,by decide +kernel,by decide +kernel⟩
theorem sc__law_bounds:FnScope ["_law_which","_law_one","_law_other","_law_some"] ["_law_which","_law_one","_law_other"] (aaD acC):=⟨rfl,rfl,rfl,by decide +kernel,rfl,by decide +kernel,by decide +kernel⟩
theorem sc__law_item:FnScope ["_law_digits_here","_law_low","_law_high","_law_form","_law_one","_law_other","_law_far","_law_steps","_law_first","_law_last","_law_step"] ["_law_digits_here","_law_low","_law_high"] (aaD ac7):=⟨rfl,rfl,rfl,by decide +kernel,rfl,by decide +kernel,by decide +kernel⟩
theorem sc__law_refused:FnScope ["_law_text","_law_low","_law_high","_law_at","e"] ["_law_text","_law_low","_law_high","_law_at"] (aaD ab2):=⟨rfl,rfl,rfl,by decide +kernel,rfl,by decide +kernel,by decide +kernel⟩
theorem sc__law_wrong:FnScope ["_law_cell","_law_low","_law_high","_law_one","_law_some"] ["_law_cell","_law_low","_law_high"] (aaD acN):=⟨rfl,rfl,rfl,by decide +kernel,rfl,by decide +kernel,by decide +kernel⟩
theorem sc__law_right:FnScope ["_law_script","_law_low","_law_high","_law_mixed","_law_texts","_law_k","_law_item_here"] ["_law_script","_law_low","_law_high","_law_mixed"] (aaD acM):=⟨rfl,rfl,rfl,by decide +kernel,rfl,by decide +kernel,by decide +kernel⟩
theorem sc__law_spoilt:FnScope ["_law_digits_here","_law_texts","_law_low","_law_high","_law_at","_law_other"] ["_law_digits_here","_law_texts","_law_low","_law_high"] (aaD acI):=⟨rfl,rfl,rfl,by decide +kernel,rfl,by decide +kernel,by decide +kernel⟩
theorem sc__law_many:FnScope ["_law_digits_here","_law_low","_law_high","_law_many_here","_law_texts","_law_at"] ["_law_digits_here","_law_low","_law_high"] (aaD adC):=⟨rfl,rfl,rfl,by decide +kernel,rfl,by decide +kernel,by decide +kernel⟩
theorem sc_law:FnScope ["_law_script","_law_mixed","_law_which","_law_one","_law_other","_law_kind","_law_low","_law_high","_law_texts","_law_there","_law_digits_here","_law_text","_law_at","_law_forty","_law_long","_law_many_here"] ["_law_script"] (aaD aeY):=⟨rfl,rfl,rfl,by decide +kernel,rfl,by decide +kernel,by decide +kernel⟩
structure Fs(K:PySem.W.Frag)(mg:Str->Option Value)(C_NoField C_FieldError C_NoDay C_NoMoment C_NoRow C_NoBook C_NoClock C_NoName C_NoWord:Addr)(t_FIGURES t_MOST_STRIDE t_MOST_SIGNS t_MOST_ITEMS:Tok):Prop where
 m_NoField:mg "NoField"=some (.ref C_NoField)
 m_FieldError:mg "FieldError"=some (.ref C_FieldError)
 m_NoDay:mg "NoDay"=some (.ref C_NoDay)
 m_NoMoment:mg "NoMoment"=some (.ref C_NoMoment)
 m_NoRow:mg "NoRow"=some (.ref C_NoRow)
 m_NoBook:mg "NoBook"=some (.ref C_NoBook)
 m_NoClock:mg "NoClock"=some (.ref C_NoClock)
 m_NoName:mg "NoName"=some (.ref C_NoName)
 m_NoWord:mg "NoWord"=some (.ref C_NoWord)
 xs_NoField:XS K C_NoField "at"
 xj_NoField:af5 K C_NoField=true
 xb_FieldError:PySem.W.subIn K (.ref C_FieldError) (.type "BaseException")=some true
 xk_NoField_FieldError:PySem.W.kitCls K (.ref C_NoField) (.ref C_FieldError)=some true
 xi_NoField:PySem.W.kitOne K (.ref C_NoField) (.ref C_NoField)=some true
 xv_NoField:PySem.W.kitOne K (.ref C_NoField) (.type "ValueError")=some true
 xt_NoField:PySem.W.kitAny K (.ref C_NoField) ([C_NoDay,C_NoMoment,C_NoRow,C_NoBook,C_NoClock,C_NoName,C_NoWord].map Value.ref)=some false
 m_FIGURES:mg "FIGURES"=some (.str (Tx [48,49,50,51,52,53,54,55,56,57]) t_FIGURES)
 m_MOST_STRIDE:mg "MOST_STRIDE"=some (.int 99 t_MOST_STRIDE)
 m_MOST_SIGNS:mg "MOST_SIGNS"=some (.int 300 t_MOST_SIGNS)
 m_MOST_ITEMS:mg "MOST_ITEMS"=some (.int 40 t_MOST_ITEMS)
 z_all:mg "all"=none
 z_range:mg "range"=none
 z_list:mg "list"=none
 z_int:mg "int"=none
 z_len:mg "len"=none
 z_str:mg "str"=none
 z_isinstance:mg "isinstance"=none
 z_enumerate:mg "enumerate"=none
 z_abs:mg "abs"=none
 z_bool:mg "bool"=none
 z_ValueError:mg "ValueError"=none
 z_min:mg "min"=none
 z_max:mg "max"=none
 F_all_figures:Fn K mg "all_figures" acD ["text"]
 F_is_written:Fn K mg "is_written" acY ["text"]
 F_mask_of:Fn K mg "mask_of" ae1 ["numbers"]
 F_run_mask:Fn K mg "run_mask" ad0 ["first","last","stride"]
 F_read_number:Fn K mg "read_number" acB ["text","low","high"]
 F_read_run:Fn K mg "read_run" adV ["text","low","high"]
 F_read_strided:Fn K mg "read_strided" abV ["run_text","stride_text","low","high"]
 F_read_item:Fn K mg "read_item" adF ["item","low","high"]
 F_NoField___init__:FnM K C_NoField "__init__" "NoField.__init__" abF ["self","at"]
 F_read_field:Fn K mg "read_field" acS ["text","low","high"]
 F__law_cell_at:Fn K mg "_law_cell_at" ab3 ["_law_script","_law_k"]
 F__law_stir:Fn K mg "_law_stir" ac8 ["_law_number"]
 F__law_digits:Fn K mg "_law_digits" acE ["_law_cell","_law_sizes","_law_mixed"]
 F__law_whole:Fn K mg "_law_whole" acP ["_law_found"]
 F__law_bounds:Fn K mg "_law_bounds" acC ["_law_which","_law_one","_law_other"]
 F__law_item:Fn K mg "_law_item" ac7 ["_law_digits_here","_law_low","_law_high"]
 F__law_refused:Fn K mg "_law_refused" ab2 ["_law_text","_law_low","_law_high","_law_at"]
 F__law_wrong:Fn K mg "_law_wrong" acN ["_law_cell","_law_low","_law_high"]
 F__law_right:Fn K mg "_law_right" acM ["_law_script","_law_low","_law_high","_law_mixed"]
 F__law_spoilt:Fn K mg "_law_spoilt" acI ["_law_digits_here","_law_texts","_law_low","_law_high"]
 F__law_many:Fn K mg "_law_many" adC ["_law_digits_here","_law_low","_law_high"]
section
set_option maxHeartbeats 400000000
variable{P:Program}{w:World}{K:PySem.W.Frag}{mg:Str->Option Value}{base:Heap}{C_NoField C_FieldError C_NoDay C_NoMoment C_NoRow C_NoBook C_NoClock C_NoName C_NoWord:Addr}{t_FIGURES t_MOST_STRIDE t_MOST_SIGNS t_MOST_ITEMS:Tok}(ZZ:Fs K mg C_NoField C_FieldError C_NoDay C_NoMoment C_NoRow C_NoBook C_NoClock C_NoName C_NoWord t_FIGURES t_MOST_STRIDE t_MOST_SIGNS t_MOST_ITEMS)
include ZZ
theorem adS:Df P w K mg base "all_figures" 1 ["text"] (aeC K):=by
 refine ZZ.F_all_figures.dfs adX (fun vs H Q E h=>?_) (fun f cdv A outer s H vs Q E hr h=>?_)
 ·obtain⟨l,rfl,hl,q⟩:=h
  rfl
 obtain⟨l,rfl,hl,q⟩:=h
 refine⟨_,(ss1 (aaN (alK (af4 oNe (v_ 0) (eSx [])) (ah6 (eCB cAll ZZ.z_all boot_all (aC (an5 [] [] (iX (v_ 0)) (fun _ _ _ _ _ _=>fsN) (fun _ _ _ _ _ _=>(af4 oInX (v_ 0) (eGl (v:=.str (Tx [48,49,50,51,52,53,54,55,56,57])) ZZ.m_FIGURES ⟨_,rfl⟩)))) aN)))))),?_⟩
 refine⟨_,rfl,rfl,_,rfl,?_⟩
 rw[akO l []]
 by_cases c:l=[]
 ·rw[decide_eq_true c]
  have e:ae9 l=false:=by unfold ae9;rw[decide_eq_true c];rfl
  rw[e] at q
  exact aa2 (q H (Same.refl H))
 ·rw[decide_eq_false c]
  have e:ae9 l=l.all acJ:=by unfold ae9;rw[decide_eq_false c];rfl
  rw[e] at q
  refine abY ⟨_,rfl,Tx l,rfl,ajQ (xs:=l) (fun i z=>z=((l.take i).map acJ).map V.bl) (by rw[sizeLine_eq];omega) rfl ?_ ?_⟩
  ·intro i ch z D H2 E' F' hv hR hD s2 hz hE hF
   subst hR
   refine⟨_,rfl,ch,amT,rfl,rfl,?_⟩
   rw[ajF]
   exact hE _ _ (Same.refl _) (by rw[List.take_succ,hv,List.map_append,List.map_append];rfl)
  ·intro D H2 z hR hD s2 hz
   subst hR
   rw[List.take_length] at hz
   refine⟨D,l.map acJ,rfl,SqL.of hz,?_⟩
   rw[List.all_map]
   exact q H2 s2
theorem acH:Df P w K mg base "is_written" 2 ["text"] (aeI K):=by
 refine ZZ.F_is_written.dfs aeG (fun vs H Q E h=>?_) (fun f cdv A outer s H vs Q E hr h=>?_)
 ·obtain⟨l,rfl,hl,q⟩:=h
  rfl
 obtain⟨l,rfl,hl,q⟩:=h
 refine⟨_,(ss1 (aaN (alK (eD (adS ZZ) hr (aC (v_ 0) aN)) (ah6 (eOr (af4 oEq (v_ 0) (eSx [48])) (ah6 (af4 oNe (eIx xX (v_ 0) eI) (eSx [48])))))))),?_⟩
 refine⟨_,rfl,l,rfl,hl,fun H1 s1=>⟨_,rfl,?_⟩⟩
 refine if2 (fun c=>?_) (fun c=>?_)
 ·have hne:l≠[]:=fun e=>by
   unfold ae9 at c
   rw[decide_eq_true e] at c
   exact absurd (show false=true from c) Bool.false_ne_true
  refine⟨_,rfl,rfl,_,rfl,?_⟩
  rw[akO l [48]]
  by_cases c2:l=[48]
  ·rw[decide_eq_true c2]
   have e:isW l=true:=by unfold isW;rw[c,decide_eq_true c2];rfl
   rw[e] at q
   exact abY (q H1 s1)
  ·rw[decide_eq_false c2]
   obtain⟨x,r,rfl⟩:∃x r,l=x::r:=by
    cases l with
    |nil=>exact absurd rfl hne
    |cons x r=>exact⟨x,r,rfl⟩
   refine aa2 ⟨_,rfl,x::r,0,x,rfl,rfl,(by rw[sizeLine_eq];omega),(show atI (x::r) ((0:Nat):Int)=some x from afX rfl),rfl,?_⟩
   rw[akO [x] [48]]
   have e:isW (x::r)= !decide ([x]=[48]):=by
    unfold isW
    rw[c,decide_eq_false c2]
    show (!decide (x=48))=_
    rw[decide_eq_decide.mpr (show x=48↔[x]=[48] by simp)]
   rw[e] at q
   exact q H1 s1
 ·have e:isW l=false:=by unfold isW;rw[c];rfl
  rw[e] at q
  exact q H1 s1
theorem agY:Df P w K mg base "mask_of" 1 ["numbers"] (agX K):=by
 refine ZZ.F_mask_of.dfs sc_mask_of (fun vs H Q E h=>?_) (fun f cdv A outer s H vs Q E hr h=>?_)
 ·obtain⟨a,zs,rfl,hS,hz,q⟩:=h
  rfl
 obtain⟨a,zs,rfl,hS,hz,q⟩:=h
 refine⟨_,(ssC (aaO 1 eI sc_mask_of.nd)
   (ssC (alE (iL (v_ 0)) (gN 2 sc_mask_of.nd) (ss1 (aaO 1 (eOp oOr (v_ 1) (eOp aq9 eI (v_ 2))) sc_mask_of.nd)) PassesOwn.never)
   (ss1 (aaN (v_ 1))))),?_⟩
 refine⟨_,rfl,a,rfl,⟨_,hS⟩,af2 (K:=K) (a:=a) (xs:=zs.map V.int) (fun i σ H2=>H2=H/\∃u:Option V,σ=[some (.ref a),some (.int (abS (zs.take i))),u]) ⟨rfl,_,rfl⟩ (fun i σ H2 _ hP=>by rw[hP.1];exact hS) ?_ ?_⟩
 ·rintro i x σ H2 hx ⟨rfl,u,rfl⟩
  rw[List.getElem?_map] at hx
  cases ez:zs[i]? with
  |none=>rw[ez] at hx;cases hx
  |some z=>
   rw[ez] at hx
   obtain rfl:V.int z=x:=Option.some.inj hx
   have h:=hz z (List.mem_of_getElem? ez)
   have et:abS (zs.take (i+1))=Builtin.bitOr (abS (zs.take i)) (1*2^z.toNat):=by
    rw[List.take_succ,ez,←agV]
    rfl
   exact⟨_,rfl,_,rfl,_,_,rfl,rfl,⟨h.1,by omega,by decide⟩,_,_,rfl,rfl,rfl,_,by rw[et];rfl⟩
 ·rintro σ H2 ⟨rfl,u,rfl⟩
  rw[List.length_map,List.take_length]
  exact⟨_,rfl,q⟩
theorem adD:Df P w K mg base "run_mask" 2 ["first","last","stride"] (afZ K):=by
 refine ZZ.F_run_mask.dfs agB (fun vs H Q E h=>?_) (fun f cdv A outer s H vs Q E hr h=>?_)
 ·obtain⟨a,b,st,rfl,ha,hb,hs,q⟩:=h
  rfl
 obtain⟨a,b,st,rfl,ha,hb,hs,q⟩:=h
 refine⟨_,(ss1 (aaN (eD (agY ZZ) hr (aC (eCT cLR ZZ.z_list PyProof.Rows.boot_list (aC (eCT cRg3 ZZ.z_range boot_range (aC (v_ 0) (aC (eOp abQ (v_ 1) eI) (aC (v_ 2) aN)))) aN)) aN)))),?_⟩
 obtain⟨n1,n2⟩:=ahN ha.1 hb.2 hs.1
 have bd:∀z∈ac5 a b st,0<=z/\z<=100000:=fun z hz=>by
  have:=(acW hs.1).mp hz
  omega
 refine⟨_,rfl,_,rfl,_,_,rfl,rfl,_,rfl,_,_,_,rfl,⟨hs.1,by omega⟩,fun p hp=>⟨p,a,b+1,st,(Builtin.Range.rangeSize a (b+1) st).toNat,rfl,aaA,ai7 ha.1 ha.2 hb.1 hb.2 hs.1 hs.2,n2,(by omega),fun l hl=>⟨l,ac5 a b st,rfl,SqL.of (by rw[adN,List.map_map];exact aaA),bd,?_⟩⟩⟩
 exact q _ ((aaB hp _).trans (aaB hl _))
theorem abU:Df P w K mg base "read_number" 3 ["text","low","high"] (adY K):=by
 refine ZZ.F_read_number.dfs sc_read_number (fun vs H Q E h=>?_) (fun f cdv A outer s H vs Q E hr h=>?_)
 ·obtain⟨l,lo,hi,rfl,hl,q⟩:=h
  rfl
 obtain⟨l,lo,hi,rfl,hl,q⟩:=h
 refine⟨_,(ssC (sIf (tNo (tVa (eD (acH ZZ) hr (aC (v_ 0) aN)))) (ss1 (aaN eN)) ssN)
   (ssC (aaO 3 (eCT ao9 ZZ.z_int PyProof.Rows.boot_int (aC (v_ 0) aN)) sc_read_number.nd)
   (ssC (sIf (tCh oLe oLe (v_ 1) (v_ 3) (v_ 2)) (ss1 (aaN (v_ 3))) ssN)
   (ss1 (aaN eN))))),?_⟩
 refine⟨_,rfl,l,rfl,(by omega),fun H1 s1=>⟨_,rfl,?_⟩⟩
 by_cases c:isW l=true
 ·rw[c]
  obtain⟨d1,d2⟩:=agT c
  refine aa2 ⟨_,rfl,l,rfl,d1,d2,(by omega),?_⟩
  refine⟨_,rfl,_,rfl,_,_,rfl,rfl,_,rfl,?_⟩
  show if decide (lo<=dv l)=true then _ else _
  refine ifD (fun c1=>⟨_,rfl,_,_,rfl,rfl,_,rfl,?_⟩) (fun c1=>⟨_,rfl,?_⟩)
  ·show if decide (dv l<=hi)=true then _ else _
   refine ifD (fun c2=>?_) (fun c2=>?_)
   ·have e:aaR lo hi l=some (dv l):=by unfold aaR;rw[if_pos c,if_pos ⟨c1,c2⟩]
    rw[e] at q
    exact⟨_,rfl,q H1 s1⟩
   ·have e:aaR lo hi l=none:=by unfold aaR;rw[if_pos c,if_neg fun z=>c2 z.2]
    rw[e] at q
    exact q H1 s1
  ·have e:aaR lo hi l=none:=by unfold aaR;rw[if_pos c,if_neg fun z=>c1 z.1]
   rw[e] at q
   exact aa2 (q H1 s1)
 ·have c':isW l=false:=by simpa using c
  rw[c']
  have e:aaR lo hi l=none:=by unfold aaR;rw[if_neg c]
  rw[e] at q
  exact abY (q H1 s1)
theorem adA:Df P w K mg base "read_run" 4 ["text","low","high"] (af1 K):=by
 refine ZZ.F_read_run.dfs sc_read_run (fun vs H Q E h=>?_) (fun f cdv A outer s H vs Q E hr h=>?_)
 ·obtain⟨l,lo,hi,rfl,hl,q⟩:=h
  rfl
 obtain⟨l,lo,hi,rfl,hl,q⟩:=h
 refine⟨_,(ssC (sIf (tCm oEq (v_ 0) (eSx [42])) (ss1 (aaN (abI (aC (v_ 1) (aC (v_ 2) aN))))) ssN)
   (ssC (al6 3 ["low","high"] [1,2] (iL (anA (v_ 0) (eSx [45]))) (fun _ _ _ _ _ _=>fsN) (fun _ _ _ _ _ _=>(eD (abU ZZ) hr (aC (v_ 0) (aC (v_ 1) (aC (v_ 2) aN))))) sc_read_run.nd)
   (ssC (sIf (tW (wOr (tCm oGt (eCB af6 ZZ.z_len PySem.boot_len (aC (v_ 3) aN)) eI) (wOr (tCm oIn eN (v_ 3)) (agP (tCm oGt (eIx xL (v_ 3) eI) (eIx xL (v_ 3) (eUn apQ eI))))))) (ss1 (aaN eN)) ssN)
   (ss1 (aaN (abI (aC (eIx xL (v_ 3) eI) (aC (eIx xL (v_ 3) (eUn apQ eI)) aN)))))))),?_⟩
 refine⟨_,rfl,rfl,_,rfl,?_⟩
 rw[akO l [42]]
 by_cases c:l=[42]
 ·rw[decide_eq_true c]
  refine abY ⟨_,rfl,_,rfl,(by show 2<=sizeLine;decide),fun p hp=>?_⟩
  have e:aaK lo hi l=some (lo,hi):=by unfold aaK;rw[if_pos c]
  rw[e] at q
  exact q _ _ (aaB hp _) ⟨p,rfl,aaA⟩
 rw[decide_eq_false c]
 have hsl:=adQ 45 l
 have eR:aaK lo hi l=ac9 ((spl 45 l).map (aaR lo hi)):=by unfold aaK;rw[if_neg c]
 rw[eR] at q
 refine aa2 ⟨_,rfl,rfl,l,45,rfl,rfl,(by rw[sizeLine_eq];omega),fun ps hps=>⟨ps,rfl,⟨_,SqL.of aaA⟩,aiK (xs:=(spl 45 l).map fun q=>V.str (Tx q)) (fun i z=>z=((spl 45 l).take i).map fun q=>oV (aaR lo hi q)) (by rw[List.length_map,sizeLine_eq];omega) rfl (SqL.of aaA) ?_ ?_⟩⟩
 ·intro i v z D H2 E' F' hv hR hD s2 hz hE hF
  subst hR
  rw[List.getElem?_map] at hv
  cases ew:(spl 45 l)[i]? with
  |none=>rw[ew] at hv;cases hv
  |some w0=>
   rw[ew] at hv
   obtain rfl:V.str (Tx w0)=v:=Option.some.inj hv
   have hw:=aa4 45 l w0 (List.mem_of_getElem? ew)
   exact⟨_,rfl,_,rfl,_,rfl,w0,lo,hi,rfl,(by omega),fun H3 s3=>hE _ _ s3 (by rw[List.take_succ,ew,List.map_append];rfl)⟩
 intro D H2 z hR hD s2 hz
 subst hR
 rw[List.length_map,List.take_length] at hz
 have hz2:H2 D=some (.lst (((spl 45 l).map (aaR lo hi)).map oV)):=by rw[hz,List.map_map];rfl
 have hlen:((spl 45 l).map (aaR lo hi)).length<=600:=by rw[List.length_map];omega
 have hnn:(spl 45 l).map (aaR lo hi)≠[]:=fun e=>amR 45 l (List.map_eq_nil_iff.mp e)
 generalize (spl 45 l).map (aaR lo hi)=es at hz2 q hlen hnn
 have s02:Same H H2:=(aaB hps _).trans s2
 have hfl:(es.map oV).all ab4=true:=ahR es
 refine⟨_,rfl,D,_,rfl,.inl (SqL.of hz2),_,_,rfl,rfl,_,rfl,?_⟩
 match es,hnn with
 |[],h=>exact absurd rfl h
 |[none],_=>
  refine aa2 ⟨_,rfl,D,_,rfl,.inl (SqL.of hz2),rfl,hfl,_,rfl,abY ?_⟩
  exact q _ _ s02 rfl
 |[some a],_=>
  refine aa2 ⟨_,rfl,D,_,rfl,.inl (SqL.of hz2),rfl,hfl,_,rfl,aa2 ⟨_,rfl,D,_,_,_,rfl,rfl,SqL.of hz2,rfl,_,rfl,_,rfl,D,_,_,_,rfl,rfl,SqL.of hz2,rfl,_,_,rfl,rfl,_,rfl,?_⟩⟩
  rw[decide_eq_false (show ¬a<a by omega)]
  refine aa2 ⟨_,rfl,D,_,_,_,rfl,rfl,SqL.of hz2,rfl,_,rfl,_,rfl,D,_,_,_,rfl,rfl,SqL.of hz2,rfl,(by show 2<=sizeLine;decide),fun p hp=>?_⟩
  exact q _ _ (s02.trans (aaB hp _)) ⟨p,rfl,aaA⟩
 |[none,y],_=>
  refine aa2 ⟨_,rfl,D,_,rfl,.inl (SqL.of hz2),rfl,hfl,_,rfl,abY ?_⟩
  exact q _ _ s02 rfl
 |[some a,none],_=>
  refine aa2 ⟨_,rfl,D,_,rfl,.inl (SqL.of hz2),rfl,hfl,_,rfl,abY ?_⟩
  exact q _ _ s02 rfl
 |[some a,some b],_=>
  refine aa2 ⟨_,rfl,D,_,rfl,.inl (SqL.of hz2),rfl,hfl,_,rfl,aa2 ⟨_,rfl,D,_,_,_,rfl,rfl,SqL.of hz2,rfl,_,rfl,_,rfl,D,_,_,_,rfl,rfl,SqL.of hz2,rfl,_,_,rfl,rfl,_,rfl,?_⟩⟩
  refine ifD (fun c2=>?_) (fun c2=>?_)
  ·have e:ac9 [some a,some b]=none:=by show (if b<a then none else some (a,b))=none;rw[if_pos c2]
   rw[e] at q
   exact q _ _ s02 rfl
  ·have e:ac9 [some a,some b]=some (a,b):=by show (if b<a then none else some (a,b))=some (a,b);rw[if_neg c2]
   rw[e] at q
   refine⟨_,rfl,D,_,_,_,rfl,rfl,SqL.of hz2,rfl,_,rfl,_,rfl,D,_,_,_,rfl,rfl,SqL.of hz2,rfl,(by show 2<=sizeLine;decide),fun p hp=>?_⟩
   exact q _ _ (s02.trans (aaB hp _)) ⟨p,rfl,aaA⟩
 |x::y::u::r,_=>
  have e3:decide ((2:Int)<(((x::y::u::r).map oV).length:Nat))=true:=decide_eq_true (by rw[List.length_map];show (2:Int)<((r.length+1+1+1:Nat):Int);omega)
  refine ifT e3 ?_
  have e:ac9 (x::y::u::r)=none:=by cases x<;>cases y<;>rfl
  rw[e] at q
  exact q _ _ s02 rfl
theorem adI:Df P w K mg base "read_strided" 5 ["run_text","stride_text","low","high"] (adL K):=by
 refine ZZ.F_read_strided.dfs sc_read_strided (fun vs H Q E h=>?_) (fun f cdv A outer s H vs Q E hr h=>?_)
 ·obtain⟨r,st,lo,hi,rfl,hr1,hs1,hb,q⟩:=h
  rfl
 obtain⟨r,st,lo,hi,rfl,hr1,hs1,hb,q⟩:=h
 refine⟨_,(ssC (aaO 4 (eD (adA ZZ) hr (aC (v_ 0) (aC (v_ 2) (aC (v_ 3) aN)))) sc_read_strided.nd)
   (ssC (aaO 5 (eD (abU ZZ) hr (aC (v_ 1) (aC eI (aC (eGl (v:=.int 99) ZZ.m_MOST_STRIDE ⟨_,rfl⟩) aN)))) sc_read_strided.nd)
   (ssC (sIf (tW (wOr (tCm akR (v_ 4) eN) (agP (tCm akR (v_ 5) eN)))) (ss1 (aaN eN)) ssN)
   (ssC (aaO 6 (eIf (tVa (eD (acH ZZ) hr (aC (v_ 0) aN))) (v_ 3) (eIx xT (v_ 4) eI)) sc_read_strided.nd)
   (ss1 (aaN (eD (adD ZZ) hr (aC (eIx xT (v_ 4) eI) (aC (v_ 6) (aC (v_ 5) aN)))))))))),?_⟩
 refine⟨_,rfl,_,rfl,_,rfl,r,lo,hi,rfl,(by omega),fun rv H1 s1 hrv=>?_⟩
 refine⟨_,rfl,st,1,99,rfl,(by omega),fun H2 s2=>?_⟩
 cases er:aaK lo hi r with
 |none=>
  rw[er] at hrv
  have hrv:rv=.non:=hrv
  subst hrv
  have e:aaU lo hi r st=none:=by unfold aaU;rw[er]
  rw[e] at q
  exact⟨_,rfl,rfl,_,rfl,abY (q H2 (s1.trans s2))⟩
 |some ab=>
  obtain⟨a,b⟩:=ab
  rw[er] at hrv
  obtain⟨p,rfl,hp⟩:=hrv
  have bd:=ad7 hb.2.1 er
  refine⟨_,rfl,rfl,_,rfl,ifF rfl ⟨_,rfl,rfl,_,rfl,?_⟩⟩
  cases es:aaR 1 99 st with
  |none=>
   have e:aaU lo hi r st=none:=by unfold aaU;rw[er,es]
   rw[e] at q
   exact ifT rfl (q H2 (s1.trans s2))
  |some sv=>
   have bs:=agE es
   have hp2:=s2 _ _ hp
   refine ifF rfl ⟨_,rfl,r,rfl,(by omega),fun H3 s3=>⟨_,rfl,?_⟩⟩
   have hp3:=s3 _ _ hp2
   refine if2 (fun c=>?_) (fun c=>?_)
   ·have e:aaU lo hi r st=some (ab1 a hi sv):=by unfold aaU;rw[er,es];show some (ab1 a (if isW r=true then hi else b) sv)=_;rw[if_pos c]
    rw[e] at q
    refine⟨_,rfl,_,rfl,p,_,_,_,rfl,rfl,SqT.of hp3,rfl,_,rfl,_,rfl,a,hi,sv,rfl,⟨by omega,by omega⟩,⟨by omega,by omega⟩,⟨by omega,by omega⟩,fun H4 s4=>?_⟩
    exact q H4 (s1.trans (s2.trans (s3.trans s4)))
   ·have e:aaU lo hi r st=some (ab1 a b sv):=by unfold aaU;rw[er,es];show some (ab1 a (if isW r=true then hi else b) sv)=_;rw[if_neg (by rw[c];exact Bool.false_ne_true)]
    rw[e] at q
    refine⟨_,rfl,p,_,_,_,rfl,rfl,SqT.of hp3,rfl,_,rfl,p,_,_,_,rfl,rfl,SqT.of hp3,rfl,_,rfl,_,rfl,a,b,sv,rfl,⟨by omega,by omega⟩,⟨by omega,by omega⟩,⟨by omega,by omega⟩,fun H4 s4=>?_⟩
    exact q H4 (s1.trans (s2.trans (s3.trans s4)))
theorem afG:Df P w K mg base "read_item" 6 ["item","low","high"] (afJ K):=by
 refine ZZ.F_read_item.dfs sc_read_item (fun vs H Q E h=>?_) (fun f cdv A outer s H vs Q E hr h=>?_)
 ·obtain⟨l,lo,hi,rfl,hl,hb,q⟩:=h
  rfl
 obtain⟨l,lo,hi,rfl,hl,hb,q⟩:=h
 refine⟨_,(ssC (aaO 3 (anA (v_ 0) (eSx [47])) sc_read_item.nd)
   (ssC (sIf (tCm oEq (eCB af6 ZZ.z_len PySem.boot_len (aC (v_ 3) aN)) eI) (ss1 (aaN (eD (adI ZZ) hr (aC (eIx xL (v_ 3) eI) (aC (eIx xL (v_ 3) eI) (aC (v_ 1) (aC (v_ 2) aN))))))) ssN)
   (ssC (aaO 4 (eD (adA ZZ) hr (aC (v_ 0) (aC (v_ 1) (aC (v_ 2) aN)))) sc_read_item.nd)
   (ssC (sIf (tCm akR (v_ 4) eN) (ss1 (aaN eN)) ssN)
   (ss1 (aaN (eD (adD ZZ) hr (aC (eIx xT (v_ 4) eI) (aC (eIx xT (v_ 4) eI) (aC eI aN)))))))))),?_⟩
 have hsl:=adQ 47 l
 have hml:=aa4 47 l
 refine⟨_,rfl,rfl,l,47,rfl,rfl,(by rw[sizeLine_eq];omega),fun ps hps=>?_⟩
 have s0:=aaB hps (.lst ((spl 47 l).map fun q=>V.str (Tx q)))
 refine⟨_,rfl,ps,_,rfl,.inl (SqL.of aaA),rfl,_,rfl,?_⟩
 have two:(∃r s,spl 47 l=[r,s])∨(∀r s,spl 47 l≠[r,s]):=by
  by_cases z:∃r s,spl 47 l=[r,s]
  ·exact .inl z
  ·exact .inr fun r s e=>z ⟨r,s,e⟩
 rcases two with ⟨r,s,e2⟩ | hno
 ·have e:aaF lo hi l=aaU lo hi r s:=by unfold aaF;rw[e2]
  rw[e] at q
  have h1:=hml r (by rw[e2];simp)
  have h2:=hml s (by rw[e2];simp)
  rw[e2]
  refine ifT rfl ⟨_,rfl,ps,_,_,_,rfl,rfl,SqL.of aaA,rfl,_,rfl,ps,_,_,_,rfl,rfl,SqL.of aaA,rfl,_,rfl,_,rfl,r,s,lo,hi,rfl,(by omega),(by omega),hb,fun H1 s1=>?_⟩
  exact q H1 ((aaB hps _).trans s1)
 ·have hlen:¬(spl 47 l).length=2:=fun e=>by
   match h:spl 47 l,e with
   |[r,s],_=>exact hno r s h
  have e:aaF lo hi l=match aaK lo hi l with | some (a,b)=>some (ab1 a b 1) | none=>none:=by
   unfold aaF
   split
   ·rename_i r s h
    exact absurd h (hno r s)
   ·rfl
  refine ifF (decide_eq_false fun z=>hlen (by have z:=V.int.inj z;rw[List.length_map] at z;omega)) ?_
  refine⟨_,rfl,_,rfl,_,rfl,l,lo,hi,rfl,(by omega),fun rv H1 s1 hrv=>?_⟩
  cases er:aaK lo hi l with
  |none=>
   rw[er] at hrv e
   have hrv:rv=.non:=hrv
   subst hrv
   rw[e] at q
   exact⟨_,rfl,rfl,_,rfl,abY (q H1 (s0.trans s1))⟩
  |some ab=>
   obtain⟨a,b⟩:=ab
   rw[er] at hrv e
   obtain⟨p,rfl,hp⟩:=hrv
   have bd:=ad7 hb.2.1 er
   have e:aaF lo hi l=some (ab1 a b 1):=e
   rw[e] at q
   refine⟨_,rfl,rfl,_,rfl,ifF rfl ⟨_,rfl,p,_,_,_,rfl,rfl,SqT.of hp,rfl,_,rfl,p,_,_,_,rfl,rfl,SqT.of hp,rfl,a,b,1,rfl,⟨by omega,by omega⟩,⟨by omega,by omega⟩,⟨by decide,by decide⟩,fun H4 s4=>?_⟩⟩
   exact q H4 (s0.trans (s1.trans s4))
theorem aa0:DfM P w K mg base C_NoField "__init__" 1 ["self","at"] (acA K C_NoField):=by
 refine ZZ.F_NoField___init__.dfs ab9 (fun vs H Q E h=>?_) (fun f cdv A outer s H vs Q E hr h=>?_)
 ·obtain⟨a,v,rfl,ha,hx,q⟩:=h
  rfl
 obtain⟨a,v,rfl,ha,hx,q⟩:=h
 refine⟨_,(ss1 (sFlX (v_ 0) (v_ 1))),?_⟩
 exact⟨_,rfl,_,rfl,a,C_NoField,rfl,ha,hx,fun dx h1 h2=>q dx _ h1 h2 rfl⟩
theorem aaY:Df1 P w K mg base "read_field" 7 ["text","low","high"] (aeH K C_NoField):=by
 refine ZZ.F_read_field.dfs1 sc_read_field (fun vs H Q E h=>?_) (fun f cdv A outer s H vs Q E hr h=>?_)
 ·obtain⟨v,lo,hi,rfl,hb,hv⟩:=h
  rfl
 obtain⟨v,lo,hi,rfl,hb,hv⟩:=h
 refine⟨_,(ssC (sIf (tW (wOr (tNo (tVa (eCB cIs ZZ.z_isinstance PyProof.Rows.boot_isinstance (aC (v_ 0) (aC (eTy ZZ.z_str PyProof.Rows.boot_str) aN))))) (agP (tCm oGt (eCB ahS ZZ.z_len PySem.boot_len (aC (v_ 0) aN)) (eGl (v:=.int 300) ZZ.m_MOST_SIGNS ⟨_,rfl⟩))))) (ss1 (anU ajY ZZ.m_NoField ZZ.xj_NoField (aa0 ZZ) hr (aC eI aN))) ssN)
   (ssC (aaO 3 (anA (v_ 0) (eSx [44])) sc_read_field.nd)
   (ssC (aaO 4 eI sc_read_field.nd)
   (ssC (alE (iE ZZ.z_enumerate (eSl slL (v_ 3) poN (poS (eGl (v:=.int 40) ZZ.m_MOST_ITEMS ⟨_,rfl⟩)))) (gTu (gsC (gN 5 sc_read_field.nd) (gsC (gN 6 sc_read_field.nd) gsN))) (ssC (aaO 7 (eD (afG ZZ) hr (aC (v_ 6) (aC (v_ 1) (aC (v_ 2) aN)))) sc_read_field.nd)
   (ssC (sIf (tCm akR (v_ 7) eN) (ss1 (anU ajY ZZ.m_NoField ZZ.xj_NoField (aa0 ZZ) hr (aC (v_ 5) aN))) ssN)
   (ss1 (aaO 4 (eOp oOr (v_ 4) (v_ 7)) sc_read_field.nd)))) PassesOwn.leaving)
   (ssC (sIf (tCm oGt (eCB af6 ZZ.z_len PySem.boot_len (aC (v_ 3) aN)) (eGl (v:=.int 40) ZZ.m_MOST_ITEMS ⟨_,rfl⟩)) (ss1 (anU ajY ZZ.m_NoField ZZ.xj_NoField (aa0 ZZ) hr (aC (eGl (v:=.int 40) ZZ.m_MOST_ITEMS ⟨_,rfl⟩) aN))) ssN)
   (ss1 (aaN (v_ 4)))))))),?_⟩
 rcases hv with ⟨kd,hk,ns,hE⟩ | ⟨l,rfl,hl,hE,hQ⟩
 ·refine⟨_,rfl,v,.str,kd,rfl,(by decide),hk,_,rfl,?_⟩
  have e:Kd.isa kd .str=false:=by cases kd<;>first | rfl | exact absurd rfl ns
  rw[e]
  exact abY ⟨(by show 1<=sizeLine;decide),fun e he=>⟨e,_,rfl,aaA,ZZ.xs_NoField,fun dx H' n1 n2 eH=>⟨rfl,dx,(by rw[eH];exact aaA),(by rw[eH];exact hE dx _ (adE (Same.refl _) he n1 n2).1 (adE (Same.refl _) he n1 n2).2)⟩⟩⟩
 have hml:=aa4 44 l
 refine⟨_,rfl,_,.str,.str,rfl,(by decide),rfl,_,rfl,ifF rfl ⟨_,rfl,l,rfl,(by rw[sizeLine_eq];omega),_,_,rfl,rfl,_,rfl,?_⟩⟩
 by_cases c3:300<l.length
 ·rw[decide_eq_true (show (300:Int)<((l.length:Nat):Int) by omega)]
  exact abY ⟨(by show 1<=sizeLine;decide),fun e he=>⟨e,_,rfl,aaA,ZZ.xs_NoField,fun dx H' n1 n2 eH=>⟨rfl,dx,(by rw[eH];exact aaA),(by rw[eH];exact hE 0 (by unfold aaW;rw[if_pos c3]) dx _ (adE (Same.refl _) he n1 n2).1 (adE (Same.refl _) he n1 n2).2)⟩⟩⟩
 rw[decide_eq_false (show ¬(300:Int)<((l.length:Nat):Int) by omega)]
 refine aa2 ⟨_,rfl,rfl,l,44,rfl,rfl,(by rw[sizeLine_eq];omega),fun ps hps=>?_⟩
 have s0:=aaB hps (.lst ((spl 44 l).map fun q=>V.str (Tx q)))
 refine⟨_,rfl,_,rfl,ps,_,rfl,SqL.of aaA,fun pc hpc=>?_⟩
 have ecut:agU ((spl 44 l).map fun q=>V.str (Tx q)) none (some 40)=((spl 44 l).take 40).map fun q=>V.str (Tx q):=by rw[amP,List.map_take]
 rw[ecut]
 have s1:=aaB hpc (.lst (((spl 44 l).take 40).map fun q=>V.str (Tx q)))
 refine⟨pc,rfl,⟨_,SqL.of aaA⟩,ajH (K:=K) (a:=pc) (xs:=((spl 44 l).take 40).map fun q=>V.str (Tx q)) (fun i σ H2=>∃(u1 u2 u3:Option V),σ=[some (.str (Tx l)),some (.int lo),some (.int hi),some (.ref ps),some (.int (orM ((aa9 lo hi l).take i))),u1,u2,u3]/\Same (upd (upd H ps (.lst ((spl 44 l).map fun q=>V.str (Tx q)))) pc (.lst (((spl 44 l).take 40).map fun q=>V.str (Tx q)))) H2/\∀w∈((spl 44 l).take 40).take i,(aaF lo hi w).isNone=false) ⟨_,_,_,rfl,Same.refl _,fun w hw=>(nomatch hw)⟩ (fun i σ H2 _ ⟨_,_,_,_,s2,_⟩=>SqL.of (s2 _ _ aaA)) ?_ ?_⟩
 ·rintro i x σ H2 T hx ⟨u1,u2,u3,rfl,s2,hg⟩ hT
  rw[List.getElem?_map] at hx
  cases ew:((spl 44 l).take 40)[i]? with
  |none=>rw[ew] at hx;cases hx
  |some w0=>
   rw[ew] at hx
   obtain rfl:V.str (Tx w0)=x:=Option.some.inj hx
   have hw:=hml w0 (List.mem_of_mem_take (List.mem_of_getElem? ew))
   refine⟨T,_,rfl,SqT.of aaA,rfl,_,_,rfl,_,_,rfl,rfl,?_⟩
   refine⟨_,rfl,_,rfl,_,rfl,w0,lo,hi,rfl,(by omega),hb,fun H3 s3=>?_⟩
   have sA:Same H H3:=s0.trans (s1.trans (s2.trans ((aaB hT _).trans s3)))
   cases em:aaF lo hi w0 with
   |none=>
    have hat:aaW lo hi l=some i:=aeV c3 ew (by rw[em];rfl) hg
    refine⟨_,rfl,rfl,_,rfl,?_⟩
    show if decide (V.non=V.non)=true then _ else _
    rw[decide_eq_true rfl]
    exact abY ⟨_,rfl,(by show 1<=sizeLine;decide),fun e he=>⟨e,_,rfl,aaA,ZZ.xs_NoField,fun dx H' n1 n2 eH=>⟨rfl,dx,(by rw[eH];exact aaA),(by rw[eH];exact hE i hat dx _ (adE sA he n1 n2).1 (adE sA he n1 n2).2)⟩⟩⟩
   |some m=>
    refine⟨_,rfl,rfl,_,rfl,ifF rfl ⟨_,rfl,_,rfl,_,_,rfl,rfl,?_⟩⟩
    have ew':(spl 44 l)[i]? =some w0:=by rw[List.getElem?_take] at ew;split at ew<;>first | exact ew | cases ew
    have et:orM ((aa9 lo hi l).take (i+1))=Builtin.bitOr (orM ((aa9 lo hi l).take i)) m:=by
     rw[←agK,List.take_succ]
     unfold aa9
     rw[List.getElem?_map,ew']
     show orM (_++[(aaF lo hi w0).getD 0])=_
     rw[em]
     rfl
    refine⟨_,_,_,by rw[et];rfl,s2.trans ((aaB hT _).trans s3),fun w hw=>?_⟩
    rw[List.take_succ,ew] at hw
    rcases List.mem_append.mp hw with z | z
    ·exact hg w z
    ·rw[show w=w0 by simpa using z,em]
     rfl
 ·rintro σ H2 ⟨u1,u2,u3,rfl,s2,hg⟩
  rw[List.length_map,List.take_of_length_le (Nat.le_refl _)] at hg
  have sA:Same H H2:=s0.trans (s1.trans s2)
  refine⟨_,rfl,ps,_,rfl,.inl (SqL.of (s2 _ _ (s1 _ _ aaA))),_,_,rfl,rfl,_,rfl,?_⟩
  have eL:((spl 44 l).map fun q=>V.str (Tx q)).length=(spl 44 l).length:=List.length_map _
  rw[eL]
  by_cases c4:40<(spl 44 l).length
  ·rw[decide_eq_true (show (40:Int)<(((spl 44 l).length:Nat):Int) by omega)]
   have hat:aaW lo hi l=some 40:=af0 c3 c4 hg
   exact abY ⟨(by show 1<=sizeLine;decide),fun e he=>⟨e,_,rfl,aaA,ZZ.xs_NoField,fun dx H' n1 n2 eH=>⟨rfl,dx,(by rw[eH];exact aaA),(by rw[eH];exact hE 40 hat dx _ (adE sA he n1 n2).1 (adE sA he n1 n2).2)⟩⟩⟩
  ·rw[decide_eq_false (show ¬(40:Int)<(((spl 44 l).length:Nat):Int) by omega)]
   refine aa2 ⟨_,rfl,?_⟩
   have e1:(((spl 44 l).take 40).map fun q=>V.str (Tx q)).length=(aa9 lo hi l).length:=by unfold aa9;rw[List.length_map,List.length_map,List.take_of_length_le (by omega)]
   rw[e1,List.take_length]
   exact hQ (af8 c3 c4 hg) H2 sA
theorem aaX:Df P w K mg base "_law_cell_at" 1 ["_law_script","_law_k"] (adG K):=by
 refine ZZ.F__law_cell_at.dfs adK (fun vs H Q E h=>?_) (fun f cdv A outer s H vs Q E hr h=>?_)
 ·obtain⟨a,k,rfl,⟨ns,hS⟩,⟨h0,h9⟩,q⟩:=h
  rfl
 obtain⟨a,k,rfl,⟨ns,hS⟩,⟨h0,h9⟩,q⟩:=h
 refine⟨_,(ssC (sIf (tCm oLt (v_ 1) (eCB af6 ZZ.z_len PySem.boot_len (aC (v_ 0) aN))) (ss1 (aaN (eIx xL (v_ 0) (v_ 1)))) ssN)
   (ss1 (aaN (eOp abR (eOp aj8 (eOp amG (eOp abQ (v_ 1) eI) eI) eI) eI)))),?_⟩
 refine⟨_,rfl,_,rfl,a,_,rfl,.inl hS,_,_,rfl,rfl,_,rfl,?_⟩
 refine ifD (fun c=>?_) (fun c=>?_)
 ·rw[List.length_map] at c
  have hk:k.toNat<ns.length:=by omega
  have ek:k=((k.toNat:Nat):Int):=by omega
  have e:atI (ns.map V.int) k=some (.int ns[k.toNat]):=by
   have z:atI (ns.map V.int) ((k.toNat:Nat):Int)=some (.int ns[k.toNat]):=afX (by rw[List.getElem?_map,List.getElem?_eq_getElem hk];rfl)
   rw[←ek] at z
   exact z
  refine⟨_,rfl,_,rfl,a,_,_,_,rfl,rfl,hS,e,?_⟩
  exact q _
 ·refine⟨_,rfl,_,_,rfl,rfl,_,_,rfl,rfl,⟨by decide,by decide,(by show (k+2).natAbs<2^64;omega)⟩,_,_,rfl,rfl,.inr ⟨by decide,by decide⟩,_,_,rfl,rfl,(by show (0:Int)<15485863;decide),?_⟩
  exact q _
theorem afA:Df P w K mg base "_law_stir" 1 ["_law_number"] (afE K):=by
 refine ZZ.F__law_stir.dfs sc__law_stir (fun vs H Q E h=>?_) (fun f cdv A outer s H vs Q E hr h=>?_)
 ·obtain⟨n,rfl,q⟩:=h
  rfl
 obtain⟨n,rfl,q⟩:=h
 refine⟨_,(ssC (aaO 1 (eOp abR (eOp aj8 (eOp abQ (eOp abR (v_ 0) (eOp amG eI eI)) eI) eI) eI) sc__law_stir.nd)
   (ssC (aaO 2 (eOp abR (eOp aj8 (v_ 1) (eOp abQ (eOp abR (v_ 1) eI) eI)) eI) sc__law_stir.nd)
   (ss1 (aaN (eOp abR (eOp aj8 (v_ 2) (eOp abQ (eOp abR (v_ 2) eI) eI)) eI))))),?_⟩
 refine⟨_,rfl,_,_,rfl,rfl,⟨by decide,by decide,by decide⟩,_,_,rfl,rfl,(by rw[ap1];show (0:Int)<_;decide),_,_,rfl,rfl,_,_,rfl,rfl,.inr ⟨by decide,by decide⟩,_,_,rfl,rfl,(by show (0:Int)<4294967291;decide),?_⟩
 refine⟨_,rfl,_,rfl,_,_,rfl,rfl,(by show (0:Int)<65521;decide),_,_,rfl,rfl,_,_,rfl,rfl,aoE (by decide) (by decide),_,_,rfl,rfl,(by show (0:Int)<999999937;decide),?_⟩
 refine⟨_,rfl,_,rfl,_,_,rfl,rfl,(by show (0:Int)<32749;decide),_,_,rfl,rfl,_,_,rfl,rfl,aoE (by decide) (by decide),_,_,rfl,rfl,(by show (0:Int)<2147483629;decide),?_⟩
 exact q _ (Int.emod_nonneg _ (by decide)) (Int.emod_lt_of_pos _ (by decide))
theorem aa6:Df P w K mg base "_law_digits" 2 ["_law_cell","_law_sizes","_law_mixed"] (aeB K):=by
 refine ZZ.F__law_digits.dfs sc__law_digits (fun vs H Q E h=>?_) (fun f cdv A outer s H vs Q E hr h=>?_)
 ·obtain⟨c,a,b,ss,rfl,hS,hz,hl,q⟩:=h
  rfl
 obtain⟨c,a,b,ss,rfl,hS,hz,hl,q⟩:=h
 refine⟨_,(ssC (aaO 3 (abJ aN) sc__law_digits.nd)
   (ssC (aaO 2 (eOr (v_ 2) (ah6 (af4 oLt (eCB cAbs ZZ.z_abs PyProof.Rows.boot_abs (aC (v_ 0) aN)) (eOp amG eI eI)))) sc__law_digits.nd)
   (ssC (alE (iL (v_ 1)) (gN 4 sc__law_digits.nd) (ss1 (sIf (tVa (v_ 2)) (ssC (aaO 0 (eD (afA ZZ) hr (aC (v_ 0) aN)) sc__law_digits.nd)
   (ss1 (ak9 (ak1 (v_ 3) (eOp abR (eOp amQ (v_ 0) eI) (v_ 4)))))) (ssC (ak9 (ak1 (v_ 3) (eOp abR (v_ 0) (v_ 4))))
   (ss1 (aaO 0 (eOp amQ (v_ 0) (v_ 4)) sc__law_digits.nd))))) PassesOwn.never)
   (ss1 (aaN (v_ 3)))))),?_⟩
 refine⟨(by show 0<=sizeLine;decide),fun fl hfl=>?_⟩
 refine⟨_,rfl,_,rfl,anG (fun _=>?_) (fun _=>⟨_,rfl,_,rfl,_,_,rfl,rfl,⟨by decide,by decide,by decide⟩,_,_,rfl,rfl,?_⟩)⟩
 all_goals
  refine⟨_,rfl,a,rfl,⟨_,(aaB hfl _).seq hS⟩,af2 (K:=K) (a:=a) (xs:=ss.map V.int) (fun i σ H2=>∃(c':Int) (b':Bool) (u:Option V) (ds:List Int),σ=[some (.int c'),some (.ref a),some (.bl b'),some (.ref fl),u]/\Same H H2/\H2 fl=some (.lst (ds.map V.int))/\Digs ds (ss.take i)) ⟨_,_,_,[],rfl,aaB hfl _,aaA,.nil⟩ (fun i σ H2 _ ⟨_,_,_,_,_,s2,_⟩=>s2.seq hS) ?_ ?_⟩
  ·rintro i x σ H2 hx ⟨c',b',u,ds,rfl,s2,hf,hd⟩
   rw[List.getElem?_map] at hx
   cases e:ss[i]? with
   |none=>rw[e] at hx;cases hx
   |some z=>
    rw[e] at hx
    obtain rfl:V.int z=x:=Option.some.inj hx
    have hzz:=hz z (List.mem_of_getElem? e)
    have et:ss.take (i+1)=ss.take i++[z]:=by rw[List.take_succ,e];rfl
    have hdl:(ds.map V.int).length<sizeLine:=by
     have q1:=hd.len
     rw[List.length_take] at q1
     rw[List.length_map,sizeLine_eq]
     omega
    have app:∀d:Int,(ds.map V.int)++[V.int d]=(ds++[d]).map V.int:=fun d=>by rw[List.map_append];rfl
    refine⟨_,rfl,_,rfl,?_⟩
    cases b' with
    |true=>
     refine abY ⟨_,rfl,_,rfl,fun r hr0 hr1=>?_⟩
     refine⟨_,rfl,.inl ⟨rfl,_,SqL.of hf⟩,_,rfl,_,_,rfl,rfl,⟨by decide,by decide⟩,_,rfl,_,_,rfl,rfl,hzz.1,fl,_,_,rfl,rfl,hf,hdl,?_⟩
     refine⟨_,_,_,ds++[r / 8%z],rfl,abB hfl s2,by rw[app];exact aaA,?_⟩
     rw[et]
     exact hd.snoc (Int.emod_nonneg _ (Int.ne_of_gt hzz.1)) (Int.emod_lt_of_pos _ hzz.1)
    |false=>
     refine aa2 ⟨_,rfl,.inl ⟨rfl,_,SqL.of hf⟩,_,rfl,_,rfl,_,_,rfl,rfl,hzz.1,fl,_,_,rfl,rfl,hf,hdl,?_⟩
     refine⟨_,rfl,_,rfl,_,_,rfl,rfl,hzz,?_⟩
     refine⟨_,_,_,ds++[c'%z],rfl,abB hfl s2,by rw[app];exact aaA,?_⟩
     rw[et]
     exact hd.snoc (Int.emod_nonneg _ (Int.ne_of_gt hzz.1)) (Int.emod_lt_of_pos _ hzz.1)
  ·rintro σ H2 ⟨c',b',u,ds,rfl,s2,hf,hd⟩
   rw[List.length_map,List.take_length] at hd
   exact⟨_,rfl,q ds fl H2 s2 hf hd⟩
theorem ad3:DfQ P w K mg base "_law_whole" 1 ["_law_found"] (aeN K):=by
 refine ZZ.F__law_whole.dfsQ aeK (fun vs H Q E h=>?_) (fun f cdv A outer s H vs Q hr h=>?_)
 ·obtain⟨v,k,rfl,hk,q⟩:=h
  rfl
 obtain⟨v,k,rfl,hk,q⟩:=h
 refine⟨_,(ss1 (aaN (alK (eCB cIs ZZ.z_isinstance PyProof.Rows.boot_isinstance (aC (v_ 0) (aC (eTy ZZ.z_int PyProof.Rows.boot_int) aN))) (ah6 (eNot (eCB cIs ZZ.z_isinstance PyProof.Rows.boot_isinstance (aC (v_ 0) (aC (eTy ZZ.z_bool PyProof.Rows.boot_bool) aN)))))))),?_⟩
 refine⟨_,rfl,v,.int,k,rfl,(by decide),hk,_,rfl,?_⟩
 cases k with
 |int=>exact abY ⟨_,rfl,v,.bool,.int,rfl,(by decide),hk,_,rfl,q⟩
 |bool=>exact abY ⟨_,rfl,v,.bool,.bool,rfl,(by decide),hk,_,rfl,q⟩
 |str=>exact aa2 q
 |non=>exact aa2 q
 |list=>exact aa2 q
 |tuple=>exact aa2 q
 |dict=>exact aa2 q
theorem adT:Df P w K mg base "_law_bounds" 1 ["_law_which","_law_one","_law_other"] (aeA K):=by
 refine ZZ.F__law_bounds.dfs sc__law_bounds (fun vs H Q E h=>?_) (fun f cdv A outer s H vs Q E hr h=>?_)
 ·obtain⟨wh,one,oth,rfl,hw,ho,q⟩:=h
  rfl
 obtain⟨wh,one,oth,rfl,hw,ho,q⟩:=h
 refine⟨_,(ssC (aaO 3 (abJ (aC (abI (aC eI (aC eI aN))) (aC (abI (aC eI (aC eI aN))) (aC (abI (aC eI (aC eI aN))) (aC (abI (aC eI (aC eI aN))) (aC (abI (aC eI (aC eI aN))) (aC (abI (aC eI (aC eI aN))) aN))))))) sc__law_bounds.nd)
   (ssC (sIf (tCm oLt (v_ 0) eI) (ss1 (aaN (eIx xL (v_ 3) (v_ 0)))) ssN)
   (ss1 (aaN (abI (aC (v_ 1) (aC (eOp abQ (v_ 1) (eOp abR (v_ 2) (eOp agW eI (v_ 1)))) aN))))))),?_⟩
 refine⟨(by show 2<=sizeLine;decide),fun t0 h0=>⟨(by show 2<=sizeLine;decide),fun t1 h1=>⟨(by show 2<=sizeLine;decide),fun t2 h2=>⟨(by show 2<=sizeLine;decide),fun t3 h3=>⟨(by show 2<=sizeLine;decide),fun t4 h4=>⟨(by show 2<=sizeLine;decide),fun t5 h5=>⟨(by show 6<=sizeLine;decide),fun ls hls=>?_⟩⟩⟩⟩⟩⟩⟩
 have u0:=aaB h0 (.tup [.int 0,.int 59])
 have u1:=aaB h1 (.tup [.int 0,.int 23])
 have u2:=aaB h2 (.tup [.int 1,.int 31])
 have u3:=aaB h3 (.tup [.int 1,.int 12])
 have u4:=aaB h4 (.tup [.int 0,.int 7])
 have u5:=aaB h5 (.tup [.int 0,.int 63])
 have ul:=aaB hls (.lst [.ref t0,.ref t1,.ref t2,.ref t3,.ref t4,.ref t5])
 have g0:=ul _ _ (u5 _ _ (u4 _ _ (u3 _ _ (u2 _ _ (u1 _ _ aaA)))))
 have g1:=ul _ _ (u5 _ _ (u4 _ _ (u3 _ _ (u2 _ _ aaA))))
 have g2:=ul _ _ (u5 _ _ (u4 _ _ (u3 _ _ aaA)))
 have g3:=ul _ _ (u5 _ _ (u4 _ _ aaA))
 have g4:=ul _ _ (u5 _ _ aaA)
 have g5:=ul _ _ aaA
 have sall:=u0.trans (u1.trans (u2.trans (u3.trans (u4.trans (u5.trans ul)))))
 refine⟨_,rfl,_,_,rfl,rfl,_,rfl,ifD (fun c=>?_) (fun c=>?_)⟩
 ·obtain⟨v,hv,hor⟩:=at6 (x0:=V.ref t0) (x1:=V.ref t1) (x2:=V.ref t2) (x3:=V.ref t3) (x4:=V.ref t4) (x5:=V.ref t5) hw c
  refine⟨_,rfl,_,rfl,ls,_,_,_,rfl,rfl,SqL.of aaA,hv,?_⟩
  rcases hor with rfl | rfl | rfl | rfl | rfl | rfl
  ·exact q _ _ _ _ sall g0 (by decide) (by decide) (by decide)
  ·exact q _ _ _ _ sall g1 (by decide) (by decide) (by decide)
  ·exact q _ _ _ _ sall g2 (by decide) (by decide) (by decide)
  ·exact q _ _ _ _ sall g3 (by decide) (by decide) (by decide)
  ·exact q _ _ _ _ sall g4 (by decide) (by decide) (by decide)
  ·exact q _ _ _ _ sall g5 (by decide) (by decide) (by decide)
 ·have hp:0<64-one:=by omega
  have m0:=Int.emod_nonneg oth (show (64-one)≠0 by omega)
  have m1:=Int.emod_lt_of_pos oth hp
  refine⟨_,rfl,_,rfl,_,rfl,_,rfl,_,_,rfl,rfl,_,_,rfl,rfl,hp,_,_,rfl,rfl,(by show 2<=sizeLine;decide),fun p hp2=>?_⟩
  exact q p _ _ _ (sall.trans (aaB hp2 _)) aaA ho.1 (by omega) (by omega)
theorem afF:Df P w K mg base "_law_item" 1 ["_law_digits_here","_law_low","_law_high"] (afK K):=by
 refine ZZ.F__law_item.dfs sc__law_item (fun vs H Q E h=>?_) (fun f cdv A outer s H vs Q E hr h=>?_)
 ·obtain⟨d,z0,z1,z2,z3,z4,lo,hi,rfl,hd,h0,h3,hb,q⟩:=h
  rfl
 obtain⟨d,z0,z1,z2,z3,z4,lo,hi,rfl,hd,h0,h3,hb,q⟩:=h
 refine⟨_,(ssC (af3 (v_ 0) (aoZ (gsC (gN 3 sc__law_item.nd) (gsC (gN 4 sc__law_item.nd) (gsC (gN 5 sc__law_item.nd) (gsC (gN 6 sc__law_item.nd) (gsC (gN 7 sc__law_item.nd) gsN)))))))
   (ssC (aaO 8 (eOp abQ (v_ 1) (eOp abR (v_ 4) (eOp abQ (eOp agW (v_ 2) (v_ 1)) eI))) sc__law_item.nd)
   (ssC (aaO 9 (eOp abQ (v_ 8) (eOp abR (v_ 5) (eOp abQ (eOp agW (v_ 2) (v_ 8)) eI))) sc__law_item.nd)
   (ssC (aaO 10 (eOp abQ eI (eOp abR (v_ 7) (eIx xL (abJ (aC eI (aC eI (aC eI aN)))) (v_ 6)))) sc__law_item.nd)
   (ssC (sIf (tCm oEq (v_ 3) eI) (ss1 (aaN (abI (aC (eSx [42]) (aC (v_ 1) (aC (v_ 2) (aC eI aN))))))) ssN)
   (ssC (sIf (tCm oEq (v_ 3) eI) (ss1 (aaN (abI (aC (eCT abZ ZZ.z_str PyProof.Rows.boot_str (aC (v_ 8) aN)) (aC (v_ 8) (aC (v_ 8) (aC eI aN))))))) ssN)
   (ssC (sIf (tCm oEq (v_ 3) eI) (ss1 (aaN (abI (aC (eOp aaI (eOp aaI (eCT abZ ZZ.z_str PyProof.Rows.boot_str (aC (v_ 8) aN)) (eSx [45])) (eCT abZ ZZ.z_str PyProof.Rows.boot_str (aC (v_ 9) aN))) (aC (v_ 8) (aC (v_ 9) (aC eI aN))))))) ssN)
   (ssC (sIf (tCm oEq (v_ 3) eI) (ss1 (aaN (abI (aC (eOp aaI (eSx [42,47]) (eCT abZ ZZ.z_str PyProof.Rows.boot_str (aC (v_ 10) aN))) (aC (v_ 1) (aC (v_ 2) (aC (v_ 10) aN))))))) ssN)
   (ssC (sIf (tCm oEq (v_ 3) eI) (ss1 (aaN (abI (aC (eOp aaI (eOp aaI (eCT abZ ZZ.z_str PyProof.Rows.boot_str (aC (v_ 8) aN)) (eSx [47])) (eCT abZ ZZ.z_str PyProof.Rows.boot_str (aC (v_ 10) aN))) (aC (v_ 8) (aC (v_ 2) (aC (v_ 10) aN))))))) ssN)
   (ss1 (aaN (abI (aC (eOp aaI (eOp aaI (eOp aaI (eOp aaI (eCT abZ ZZ.z_str PyProof.Rows.boot_str (aC (v_ 8) aN)) (eSx [45])) (eCT abZ ZZ.z_str PyProof.Rows.boot_str (aC (v_ 9) aN))) (eSx [47])) (eCT abZ ZZ.z_str PyProof.Rows.boot_str (aC (v_ 10) aN))) (aC (v_ 8) (aC (v_ 9) (aC (v_ 10) aN)))))))))))))))),?_⟩
 have p1:0<hi-lo+1:=by omega
 have m0:=Int.emod_nonneg z1 (show (hi-lo+1)≠0 by omega)
 have m1:=Int.emod_lt_of_pos z1 p1
 have a1:lo<=lo+z1%(hi-lo+1)/\lo+z1%(hi-lo+1)<=hi:=by omega
 have p2:0<hi-(lo+z1%(hi-lo+1))+1:=by omega
 have n0:=Int.emod_nonneg z2 (show (hi-(lo+z1%(hi-lo+1))+1)≠0 by omega)
 have n1:=Int.emod_lt_of_pos z2 p2
 have b1:lo+z1%(hi-lo+1)<=lo+z1%(hi-lo+1)+z2%(hi-(lo+z1%(hi-lo+1))+1)/\lo+z1%(hi-lo+1)+z2%(hi-(lo+z1%(hi-lo+1))+1)<=hi:=by omega
 refine⟨_,rfl,d,_,rfl,SqL.of hd,rfl,_,_,rfl,_,_,rfl,_,_,rfl,_,_,rfl,_,_,rfl,rfl,?_⟩
 refine⟨_,rfl,_,rfl,_,rfl,_,rfl,_,_,rfl,rfl,_,_,rfl,rfl,_,_,rfl,rfl,p1,_,_,rfl,rfl,?_⟩
 refine⟨_,rfl,_,rfl,_,rfl,_,rfl,_,_,rfl,rfl,_,_,rfl,rfl,_,_,rfl,rfl,p2,_,_,rfl,rfl,?_⟩
 obtain⟨v,hv,hor⟩:=at3 (i:=z3) (x:=V.int 4) (y:=V.int 12) (z:=V.int 99) h3.1 h3.2
 obtain⟨k,ek,k0,k1⟩:∃k:Int,v=V.int k/\0<k/\k<=99:=by
  rcases hor with rfl | rfl | rfl
  ·exact⟨4,rfl,by decide,by decide⟩
  ·exact⟨12,rfl,by decide,by decide⟩
  ·exact⟨99,rfl,by decide,by decide⟩
 subst ek
 refine⟨_,rfl,(by show 3<=sizeLine;decide),fun l1 hl1=>⟨_,rfl,l1,_,_,_,rfl,rfl,SqL.of aaA,hv,_,_,rfl,rfl,k0,_,_,rfl,rfl,?_⟩⟩
 have s0:=Int.emod_nonneg z4 (show k≠0 by omega)
 have s1:=Int.emod_lt_of_pos z4 k0
 have ss:1<=1+z4%k/\1+z4%k<=99:=by omega
 have sl:=aaB hl1 (.lst [V.int 4,V.int 12,V.int 99])
 have sm:∀z:Int,0<=z->z<=99->z.toNat<10^500/\V.int z=V.int (z.toNat:Nat):=fun z h1 h2=>⟨Nat.lt_of_lt_of_le (show z.toNat<100 by omega) (by decide +kernel),by rw[aaP h1]⟩
 have nl:∀z:Int,0<=z->z<=99->(num z.toNat).length<=2:=fun z h1 h2=>(aa1 _ (by omega)).2.2.2
 have qA:=sm (lo+z1%(hi-lo+1)) (by omega) (by omega)
 have qB:=sm (lo+z1%(hi-lo+1)+z2%(hi-(lo+z1%(hi-lo+1))+1)) (by omega) (by omega)
 have qS:=sm (1+z4%k) (by omega) (by omega)
 have lA:=nl (lo+z1%(hi-lo+1)) (by omega) (by omega)
 have lB:=nl (lo+z1%(hi-lo+1)+z2%(hi-(lo+z1%(hi-lo+1))+1)) (by omega) (by omega)
 have lS:=nl (1+z4%k) (by omega) (by omega)
 have eA:=congrArg (fun v=>[v]) qA.2
 have eB:=congrArg (fun v=>[v]) qB.2
 have eS:=congrArg (fun v=>[v]) qS.2
 have z4':∀{n m:Nat},n<=20->m<=20->n+m<=sizeLine:=fun {n m} h1 h2=>by rw[sizeLine_eq];omega
 refine⟨_,rfl,rfl,_,rfl,ifI (fun c=>⟨_,rfl,_,rfl,(by show 4<=sizeLine;decide),fun p hp=>?_⟩) (fun c0=>⟨_,rfl,rfl,_,rfl,ifI (fun c=>⟨_,rfl,(lo+z1%(hi-lo+1)).toNat,eA,qA.1,_,rfl,_,rfl,(by show 4<=sizeLine;decide),fun p hp=>?_⟩) (fun c1=>⟨_,rfl,rfl,_,rfl,ifI (fun c=>?g2) (fun c2=>⟨_,rfl,rfl,_,rfl,ifI (fun c=>?g3) (fun c3=>⟨_,rfl,rfl,_,rfl,ifI (fun c=>?g4) (fun c4=>?g5)⟩)⟩)⟩)⟩)⟩
 ·exact q p _ _ _ _ _ (sl.trans (aaB hp _)) aaA (f0 hb.1 hb.2.1 hb.2.2) (Int.le_refl _) (Int.le_refl _)
 ·exact q p _ _ _ _ _ (sl.trans (aaB hp _)) aaA (f1 hb.1 a1.1 a1.2 hb.2.2) a1.1 a1.2
 case g2=>
  refine⟨_,rfl,(lo+z1%(hi-lo+1)).toNat,eA,qA.1,_,_,rfl,rfl,z4' (by omega) (by decide),_,rfl,(lo+z1%(hi-lo+1)+z2%(hi-(lo+z1%(hi-lo+1))+1)).toNat,eB,qB.1,_,_,rfl,rfl,z4' (by rw[List.length_append];show _+1<=20;omega) (by omega),_,rfl,_,rfl,(by show 4<=sizeLine;decide),fun p hp=>?_⟩
  exact q p _ _ _ _ _ (sl.trans (aaB hp _)) aaA (by rw[List.append_assoc];exact f2 hb.1 a1.1 b1.1 b1.2 hb.2.2) a1.1 b1.2
 case g3=>
  refine⟨_,rfl,(1+z4%k).toNat,eS,qS.1,_,_,rfl,rfl,z4' (by decide) (by omega),_,rfl,_,rfl,_,rfl,(by show 4<=sizeLine;decide),fun p hp=>?_⟩
  exact q p _ _ _ _ _ (sl.trans (aaB hp _)) aaA (f3 hb.1 hb.2.1 hb.2.2 ss) (Int.le_refl _) (Int.le_refl _)
 case g4=>
  refine⟨_,rfl,(lo+z1%(hi-lo+1)).toNat,eA,qA.1,_,_,rfl,rfl,z4' (by omega) (by decide),_,rfl,(1+z4%k).toNat,eS,qS.1,_,_,rfl,rfl,z4' (by rw[List.length_append];show _+1<=20;omega) (by omega),_,rfl,_,rfl,_,rfl,(by show 4<=sizeLine;decide),fun p hp=>?_⟩
  exact q p _ _ _ _ _ (sl.trans (aaB hp _)) aaA (by rw[List.append_assoc];exact f4 hb.1 a1.1 a1.2 hb.2.2 ss) a1.1 (Int.le_refl _)
 case g5=>
  refine⟨_,rfl,(lo+z1%(hi-lo+1)).toNat,eA,qA.1,_,_,rfl,rfl,z4' (by omega) (by decide),_,rfl,(lo+z1%(hi-lo+1)+z2%(hi-(lo+z1%(hi-lo+1))+1)).toNat,eB,qB.1,_,_,rfl,rfl,z4' (by rw[List.length_append];show _+1<=20;omega) (by omega),_,_,rfl,rfl,z4' (by rw[List.length_append,List.length_append];show _+1+_<=20;omega) (by decide),_,rfl,(1+z4%k).toNat,eS,qS.1,_,_,rfl,rfl,z4' (by rw[List.length_append,List.length_append,List.length_append];show _+1+_+1<=20;omega) (by omega),_,rfl,_,rfl,_,rfl,(by show 4<=sizeLine;decide),fun p hp=>?_⟩
  have e5:((num (lo+z1%(hi-lo+1)).toNat++[45])++num (lo+z1%(hi-lo+1)+z2%(hi-(lo+z1%(hi-lo+1))+1)).toNat++[47])++num (1+z4%k).toNat=(num (lo+z1%(hi-lo+1)).toNat++45::num (lo+z1%(hi-lo+1)+z2%(hi-(lo+z1%(hi-lo+1))+1)).toNat)++47::num (1+z4%k).toNat:=by simp
  exact q p _ _ _ _ _ (sl.trans (aaB hp _)) aaA (by rw[e5];exact f5 hb.1 a1.1 b1.1 b1.2 hb.2.2 ss) a1.1 b1.2
theorem aaM:Df P w K mg base "_law_refused" 8 ["_law_text","_law_low","_law_high","_law_at"] (adH K):=by
 refine ZZ.F__law_refused.dfs sc__law_refused (fun vs H Q E h=>?_) (fun f cdv A outer s H vs Q E hr h=>?_)
 ·obtain⟨v,lo,hi,at_,rfl,hb,hv,q⟩:=h
  rfl
 obtain⟨v,lo,hi,at_,rfl,hb,hv,q⟩:=h
 refine⟨_,(ssC (an0 4 ZZ.m_FieldError ZZ.xb_FieldError (bE (xD (aaY ZZ) hr (aC (v_ 0) (aC (v_ 1) (aC (v_ 2) aN))))) (fun _=>(ssC (sIf (tW (wOr (tNo (tVa (eCB cXi ZZ.z_isinstance PyProof.Rows.boot_isinstance (aC (v_ 4) (aC (eGl (v:=.ref C_NoField) ZZ.m_NoField rfl) aN))))) (agP (tNo (tVa (eCB cXy ZZ.z_isinstance PyProof.Rows.boot_isinstance (aC (v_ 4) (aC (eTy ZZ.z_ValueError adJ) aN)))))))) (ss1 (aaN eB)) ssN)
   (ssC (sIf (tVa (eCB cXt ZZ.z_isinstance PyProof.Rows.boot_isinstance (aC (v_ 4) (aC (abI (aC (eGl (v:=.ref C_NoDay) ZZ.m_NoDay rfl) (aC (eGl (v:=.ref C_NoMoment) ZZ.m_NoMoment rfl) (aC (eGl (v:=.ref C_NoRow) ZZ.m_NoRow rfl) (aC (eGl (v:=.ref C_NoBook) ZZ.m_NoBook rfl) (aC (eGl (v:=.ref C_NoClock) ZZ.m_NoClock rfl) (aC (eGl (v:=.ref C_NoName) ZZ.m_NoName rfl) (aC (eGl (v:=.ref C_NoWord) ZZ.m_NoWord rfl) aN)))))))) aN)))) (ss1 (aaN eB)) ssN)
   (ss1 (aaN (alK (eDQ (ad3 ZZ) (hr.q.mark _) (aC (apG (v_ 4)) aN)) (ah6 (af4 oEq (apG (v_ 4)) (v_ 3))))))))) sc__law_refused.nd)
   (ss1 (aaN eB))),?_⟩
 refine⟨fun e d H'=>∃dx,e=.ref C_NoField/\d=some dx/\Same H H'/\H' dx=some (.xd [(("at":Str),.int at_)]),?_,fun C d b H' ⟨dx,hC,hd,s0,hat⟩=>?_⟩
 ·refine⟨_,rfl,_,rfl,_,rfl,v,lo,hi,rfl,hb,?_⟩
  rcases hv with ⟨kd,hk,ns,rfl⟩ | ⟨l,rfl,hl,p,hp,rfl⟩
  ·exact .inl ⟨kd,hk,ns,fun dx H' s h=>⟨dx,rfl,rfl,s,h⟩⟩
  ·refine .inr ⟨l,rfl,hl,fun p' h dx H' s hx=>⟨dx,rfl,rfl,s,?_⟩,fun z=>by rw[hp] at z;cases z⟩
   rw[hp] at h
   cases h
   exact hx
 ·obtain⟨rfl,rfl⟩:=am8 hC
  subst hd
  refine⟨ZZ.xk_NoField_FieldError,fun a ha=>?_⟩
  have sn:=aaB ha (xo a C (some dx) true)
  have sa:=s0.trans sn
  refine⟨_,rfl,a,C,C,_,_,true,rfl,aaA,ZZ.xs_NoField.xf,ZZ.xi_NoField,_,rfl,aa2 ⟨_,rfl,a,C,"ValueError",_,_,true,rfl,aaA,ZZ.xs_NoField.xf,ZZ.xv_NoField,_,rfl,aa2 ?_⟩⟩
  refine⟨_,rfl,(by show 7<=sizeLine;decide),fun tp htp=>⟨a,C,tp,[C_NoDay,C_NoMoment,C_NoRow,C_NoBook,C_NoClock,C_NoName,C_NoWord],_,_,false,rfl,aaB htp _ _ _ aaA,ZZ.xs_NoField.xf,SqT.of aaA,ZZ.xt_NoField,_,rfl,aa2 ?_⟩⟩
  have st:=aaB htp (.tup [V.ref C_NoDay,V.ref C_NoMoment,V.ref C_NoRow,V.ref C_NoBook,V.ref C_NoClock,V.ref C_NoName,V.ref C_NoWord])
  refine⟨_,rfl,a,C,dx,true,_,_,rfl,st _ _ aaA,st _ _ (sn _ _ hat),ZZ.xs_NoField,rfl,V.int at_,.int,rfl,rfl,_,rfl,abY ⟨_,rfl,a,C,dx,true,_,_,rfl,st _ _ aaA,st _ _ (sn _ _ hat),ZZ.xs_NoField,rfl,_,rfl,rfl,?_⟩⟩
  show Q (.bl (decide (V.int at_=V.int at_))) _
  rw[decide_eq_true rfl]
  exact q _ (sa.trans st)
theorem abH:Df P w K mg base "_law_wrong" 1 ["_law_cell","_law_low","_law_high"] (aeJ K):=by
 refine ZZ.F__law_wrong.dfs sc__law_wrong (fun vs H Q E h=>?_) (fun f cdv A outer s H vs Q E hr h=>?_)
 ·obtain⟨c,lo,hi,rfl,hb,q⟩:=h
  rfl
 obtain⟨c,lo,hi,rfl,hb,q⟩:=h
 refine⟨_,(ssC (aaO 3 (eCT adB ZZ.z_str PyProof.Rows.boot_str (aC (v_ 1) aN)) sc__law_wrong.nd)
   (ssC (aaO 4 (abJ (aC (eSx []) (aC (eSx [32]) (aC (eSx [120]) (aC (eSx [42,42]) (aC (eOp aaI (eSx [42]) (v_ 3)) (aC (eOp aaI (v_ 3) (eSx [45])) (aC (eOp aaI (eSx [45]) (v_ 3)) (aC (eSx [45,45]) (aC (eOp aaI (eOp aaI (v_ 3) (eSx [45,45])) (v_ 3)) (aC (eOp aaI (eOp aaI (eOp aaI (eOp aaI (v_ 3) (eSx [45])) (v_ 3)) (eSx [45])) (v_ 3)) aN))))))))))) sc__law_wrong.nd)
   (ssC (aaO 4 (eOp aiN (v_ 4) (abJ (aC (eOp aaI (eSx [48]) (v_ 3)) (aC (eOp aaI (eSx [48,48]) (v_ 3)) (aC (eOp aaI (eSx [43]) (v_ 3)) (aC (eOp aaI (eSx [32]) (v_ 3)) (aC (eOp aaI (v_ 3) (eSx [32])) (aC (eOp aaI (v_ 3) (eSx [46,48])) (aC (eOp aaI (v_ 3) (eSx [95,48])) (aC (eSx [76]) (aC (eOp aaI (v_ 3) (eSx [45,42])) aN))))))))))) sc__law_wrong.nd)
   (ssC (aaO 4 (eOp aiN (v_ 4) (abJ (aC (eOp aaI (v_ 3) (eSx [47])) (aC (eSx [47]) (aC (eSx [47,49]) (aC (eSx [42,47]) (aC (eSx [42,47,48]) (aC (eSx [42,47,49,48,48]) (aC (eSx [42,47,48,49]) (aC (eSx [42,47,45,49]) (aC (eSx [42,47,49,47,49]) (aC (eOp aaI (v_ 3) (eSx [47,49,47])) (aC (eSx [42,47,42]) (aC (eOp aaI (v_ 3) (eSx [47,47,49])) aN)))))))))))))) sc__law_wrong.nd)
   (ssC (aaO 4 (eOp aiN (v_ 4) (abJ (aC (eOp aaI (eOp aaI (v_ 3) (eSx [45])) (eCT adB ZZ.z_str PyProof.Rows.boot_str (aC (eOp abQ (v_ 2) eI) aN))) (aC (eCT adB ZZ.z_str PyProof.Rows.boot_str (aC (eOp abQ (v_ 2) eI) aN)) (aC (eOp aaI (eCT adB ZZ.z_str PyProof.Rows.boot_str (aC (eOp abQ (v_ 2) eI) aN)) (eSx [47,49])) (aC (eOp aaI (eOp aaI (v_ 3) (eSx [45,48])) (v_ 3)) (aC (eOp aaI (eSx [42,45]) (v_ 3)) aN))))))) sc__law_wrong.nd)
   (ssC (aaO 4 (eOp aiN (v_ 4) (abJ (aC (eOp aaI (eOp aaI (eCT adB ZZ.z_str PyProof.Rows.boot_str (aC (v_ 2) aN)) (eSx [45])) (eCT adB ZZ.z_str PyProof.Rows.boot_str (aC (eOp agW (v_ 1) eI) aN))) (aC (eCT adB ZZ.z_str PyProof.Rows.boot_str (aC (eOp agW (v_ 1) eI) aN)) (aC (eSx [42,47,49,32]) (aC (eOp aaI (eOp aaI (eOp aaI (v_ 3) (eSx [45])) (v_ 3)) (eSx [47,48])) aN)))))) sc__law_wrong.nd)
   (ssC (aaO 4 (eOp aiN (v_ 4) (abJ (aC (eOp aqS (eSx [57]) eI) (aC (eOp aaI (eOp aaI (v_ 3) (eSx [59])) (v_ 3)) (aC (eOp aaI (v_ 3) (eSx [10])) (aC (eOp aaI (eSx [9]) (v_ 3)) (aC (eOp aaI (eOp aaI (eOp aaI (v_ 3) (eSx [45])) (v_ 3)) (eSx [47])) aN))))))) sc__law_wrong.nd)
   (ssC (sIf (tCm oGt (v_ 2) (v_ 1)) (ss1 (ak9 (ak1 (v_ 4) (eOp aaI (eOp aaI (eCT adB ZZ.z_str PyProof.Rows.boot_str (aC (v_ 2) aN)) (eSx [45])) (v_ 3))))) ssN)
   (ss1 (aaN (eIx xL (v_ 4) (eOp abR (v_ 0) (eCB af6 ZZ.z_len PySem.boot_len (aC (v_ 4) aN)))))))))))))),?_⟩
 have zb:∀z:Int,-100<=z->z<=100-> -(10^500)<z/\z<10^500:=fun z h1 h2=>by
  have p:(100:Int)<10^500:=by decide +kernel
  omega
 obtain⟨a,rfl⟩:=Int.eq_ofNat_of_zero_le hb.1
 obtain⟨b,rfl⟩:=Int.eq_ofNat_of_zero_le (Int.le_trans hb.1 hb.2.1)
 have nl:∀z:Int,-100<=z->z<=100->(aaC z).length<=4:=fun z h1 h2=>ajB h1 h2
 have n0:=nl (a:Int) (by omega) (by omega)
 have n1:=nl (b:Int) (by omega) (by omega)
 have n2:=nl ((b:Int)+1) (by omega) (by omega)
 have n3:=nl ((a:Int)-1) (by omega) (by omega)
 refine⟨_,rfl,_,rfl,zb _ (by omega) (by omega),?_⟩
 refine⟨_,rfl,_,_,rfl,rfl,(by rw[sizeLine_eq];simp only[List.length_append,List.length_cons,List.length_nil];omega),_,rfl,_,_,rfl,rfl,(by rw[sizeLine_eq];simp only[List.length_append,List.length_cons,List.length_nil];omega),_,rfl,_,_,rfl,rfl,(by rw[sizeLine_eq];simp only[List.length_append,List.length_cons,List.length_nil];omega),_,rfl,_,_,rfl,rfl,(by rw[sizeLine_eq];simp only[List.length_append,List.length_cons,List.length_nil];omega),_,rfl,_,_,rfl,rfl,(by rw[sizeLine_eq];simp only[List.length_append,List.length_cons,List.length_nil];omega),_,rfl,_,_,rfl,rfl,(by rw[sizeLine_eq];simp only[List.length_append,List.length_cons,List.length_nil];omega),_,rfl,_,_,rfl,rfl,(by rw[sizeLine_eq];simp only[List.length_append,List.length_cons,List.length_nil];omega),_,_,rfl,rfl,(by rw[sizeLine_eq];simp only[List.length_append,List.length_cons,List.length_nil];omega),_,rfl,_,_,rfl,rfl,(by rw[sizeLine_eq];simp only[List.length_append,List.length_cons,List.length_nil];omega),(by show 10<=sizeLine;decide),fun p0 h0=>?_⟩
 have t0:=aaB h0 (.lst [V.str (Tx (([]:List Nat))),V.str (Tx (([32]:List Nat))),V.str (Tx (([120]:List Nat))),V.str (Tx (([42,42]:List Nat))),V.str (Tx ((([42]:List Nat)++aaC (a:Int)))),V.str (Tx ((aaC (a:Int)++([45]:List Nat)))),V.str (Tx ((([45]:List Nat)++aaC (a:Int)))),V.str (Tx (([45,45]:List Nat))),V.str (Tx (((aaC (a:Int)++([45,45]:List Nat))++aaC (a:Int)))),V.str (Tx (((((aaC (a:Int)++([45]:List Nat))++aaC (a:Int))++([45]:List Nat))++aaC (a:Int))))])
 refine⟨_,rfl,_,rfl,_,_,rfl,rfl,(by rw[sizeLine_eq];simp only[List.length_append,List.length_cons,List.length_nil];omega),_,rfl,_,_,rfl,rfl,(by rw[sizeLine_eq];simp only[List.length_append,List.length_cons,List.length_nil];omega),_,rfl,_,_,rfl,rfl,(by rw[sizeLine_eq];simp only[List.length_append,List.length_cons,List.length_nil];omega),_,rfl,_,_,rfl,rfl,(by rw[sizeLine_eq];simp only[List.length_append,List.length_cons,List.length_nil];omega),_,rfl,_,_,rfl,rfl,(by rw[sizeLine_eq];simp only[List.length_append,List.length_cons,List.length_nil];omega),_,rfl,_,_,rfl,rfl,(by rw[sizeLine_eq];simp only[List.length_append,List.length_cons,List.length_nil];omega),_,rfl,_,_,rfl,rfl,(by rw[sizeLine_eq];simp only[List.length_append,List.length_cons,List.length_nil];omega),_,rfl,_,_,rfl,rfl,(by rw[sizeLine_eq];simp only[List.length_append,List.length_cons,List.length_nil];omega),(by show 9<=sizeLine;decide),fun q1 g1=>⟨p0,q1,_,_,rfl,rfl,(aaB g1 _) _ _ aaA,aaA,(by show 10+9<=sizeLine;decide),fun p1 h1=>?_⟩⟩
 have t1:=t0.trans ((aaB g1 (.lst [V.str (Tx ((([48]:List Nat)++aaC (a:Int)))),V.str (Tx ((([48,48]:List Nat)++aaC (a:Int)))),V.str (Tx ((([43]:List Nat)++aaC (a:Int)))),V.str (Tx ((([32]:List Nat)++aaC (a:Int)))),V.str (Tx ((aaC (a:Int)++([32]:List Nat)))),V.str (Tx ((aaC (a:Int)++([46,48]:List Nat)))),V.str (Tx ((aaC (a:Int)++([95,48]:List Nat)))),V.str (Tx (([76]:List Nat))),V.str (Tx ((aaC (a:Int)++([45,42]:List Nat))))])).trans (aaB h1 (.lst ([V.str (Tx (([]:List Nat))),V.str (Tx (([32]:List Nat))),V.str (Tx (([120]:List Nat))),V.str (Tx (([42,42]:List Nat))),V.str (Tx ((([42]:List Nat)++aaC (a:Int)))),V.str (Tx ((aaC (a:Int)++([45]:List Nat)))),V.str (Tx ((([45]:List Nat)++aaC (a:Int)))),V.str (Tx (([45,45]:List Nat))),V.str (Tx (((aaC (a:Int)++([45,45]:List Nat))++aaC (a:Int)))),V.str (Tx (((((aaC (a:Int)++([45]:List Nat))++aaC (a:Int))++([45]:List Nat))++aaC (a:Int))))]++[V.str (Tx ((([48]:List Nat)++aaC (a:Int)))),V.str (Tx ((([48,48]:List Nat)++aaC (a:Int)))),V.str (Tx ((([43]:List Nat)++aaC (a:Int)))),V.str (Tx ((([32]:List Nat)++aaC (a:Int)))),V.str (Tx ((aaC (a:Int)++([32]:List Nat)))),V.str (Tx ((aaC (a:Int)++([46,48]:List Nat)))),V.str (Tx ((aaC (a:Int)++([95,48]:List Nat)))),V.str (Tx (([76]:List Nat))),V.str (Tx ((aaC (a:Int)++([45,42]:List Nat))))]))))
 refine⟨_,rfl,_,rfl,_,_,rfl,rfl,(by rw[sizeLine_eq];simp only[List.length_append,List.length_cons,List.length_nil];omega),_,rfl,_,_,rfl,rfl,(by rw[sizeLine_eq];simp only[List.length_append,List.length_cons,List.length_nil];omega),_,rfl,_,_,rfl,rfl,(by rw[sizeLine_eq];simp only[List.length_append,List.length_cons,List.length_nil];omega),(by show 12<=sizeLine;decide),fun q2 g2=>⟨p1,q2,_,_,rfl,rfl,(aaB g2 _) _ _ aaA,aaA,(by show 19+12<=sizeLine;decide),fun p2 h2=>?_⟩⟩
 have t2:=t1.trans ((aaB g2 (.lst [V.str (Tx ((aaC (a:Int)++([47]:List Nat)))),V.str (Tx (([47]:List Nat))),V.str (Tx (([47,49]:List Nat))),V.str (Tx (([42,47]:List Nat))),V.str (Tx (([42,47,48]:List Nat))),V.str (Tx (([42,47,49,48,48]:List Nat))),V.str (Tx (([42,47,48,49]:List Nat))),V.str (Tx (([42,47,45,49]:List Nat))),V.str (Tx (([42,47,49,47,49]:List Nat))),V.str (Tx ((aaC (a:Int)++([47,49,47]:List Nat)))),V.str (Tx (([42,47,42]:List Nat))),V.str (Tx ((aaC (a:Int)++([47,47,49]:List Nat))))])).trans (aaB h2 (.lst (([V.str (Tx (([]:List Nat))),V.str (Tx (([32]:List Nat))),V.str (Tx (([120]:List Nat))),V.str (Tx (([42,42]:List Nat))),V.str (Tx ((([42]:List Nat)++aaC (a:Int)))),V.str (Tx ((aaC (a:Int)++([45]:List Nat)))),V.str (Tx ((([45]:List Nat)++aaC (a:Int)))),V.str (Tx (([45,45]:List Nat))),V.str (Tx (((aaC (a:Int)++([45,45]:List Nat))++aaC (a:Int)))),V.str (Tx (((((aaC (a:Int)++([45]:List Nat))++aaC (a:Int))++([45]:List Nat))++aaC (a:Int))))]++[V.str (Tx ((([48]:List Nat)++aaC (a:Int)))),V.str (Tx ((([48,48]:List Nat)++aaC (a:Int)))),V.str (Tx ((([43]:List Nat)++aaC (a:Int)))),V.str (Tx ((([32]:List Nat)++aaC (a:Int)))),V.str (Tx ((aaC (a:Int)++([32]:List Nat)))),V.str (Tx ((aaC (a:Int)++([46,48]:List Nat)))),V.str (Tx ((aaC (a:Int)++([95,48]:List Nat)))),V.str (Tx (([76]:List Nat))),V.str (Tx ((aaC (a:Int)++([45,42]:List Nat))))])++[V.str (Tx ((aaC (a:Int)++([47]:List Nat)))),V.str (Tx (([47]:List Nat))),V.str (Tx (([47,49]:List Nat))),V.str (Tx (([42,47]:List Nat))),V.str (Tx (([42,47,48]:List Nat))),V.str (Tx (([42,47,49,48,48]:List Nat))),V.str (Tx (([42,47,48,49]:List Nat))),V.str (Tx (([42,47,45,49]:List Nat))),V.str (Tx (([42,47,49,47,49]:List Nat))),V.str (Tx ((aaC (a:Int)++([47,49,47]:List Nat)))),V.str (Tx (([42,47,42]:List Nat))),V.str (Tx ((aaC (a:Int)++([47,47,49]:List Nat))))]))))
 refine⟨_,rfl,_,rfl,_,_,rfl,rfl,(by rw[sizeLine_eq];simp only[List.length_append,List.length_cons,List.length_nil];omega),_,rfl,_,_,rfl,rfl,_,rfl,zb _ (by omega) (by omega),_,_,rfl,rfl,(by rw[sizeLine_eq];simp only[List.length_append,List.length_cons,List.length_nil];omega),_,rfl,_,_,rfl,rfl,_,rfl,zb _ (by omega) (by omega),_,rfl,_,_,rfl,rfl,_,rfl,zb _ (by omega) (by omega),_,_,rfl,rfl,(by rw[sizeLine_eq];simp only[List.length_append,List.length_cons,List.length_nil];omega),_,rfl,_,_,rfl,rfl,(by rw[sizeLine_eq];simp only[List.length_append,List.length_cons,List.length_nil];omega),_,rfl,_,_,rfl,rfl,(by rw[sizeLine_eq];simp only[List.length_append,List.length_cons,List.length_nil];omega),_,rfl,_,_,rfl,rfl,(by rw[sizeLine_eq];simp only[List.length_append,List.length_cons,List.length_nil];omega),(by show 5<=sizeLine;decide),fun q3 g3=>⟨p2,q3,_,_,rfl,rfl,(aaB g3 _) _ _ aaA,aaA,(by show 31+5<=sizeLine;decide),fun p3 h3=>?_⟩⟩
 have t3:=t2.trans ((aaB g3 (.lst [V.str (Tx (((aaC (a:Int)++([45]:List Nat))++aaC ((b:Int)+1)))),V.str (Tx (aaC ((b:Int)+1))),V.str (Tx ((aaC ((b:Int)+1)++([47,49]:List Nat)))),V.str (Tx (((aaC (a:Int)++([45,48]:List Nat))++aaC (a:Int)))),V.str (Tx ((([42,45]:List Nat)++aaC (a:Int))))])).trans (aaB h3 (.lst ((([V.str (Tx (([]:List Nat))),V.str (Tx (([32]:List Nat))),V.str (Tx (([120]:List Nat))),V.str (Tx (([42,42]:List Nat))),V.str (Tx ((([42]:List Nat)++aaC (a:Int)))),V.str (Tx ((aaC (a:Int)++([45]:List Nat)))),V.str (Tx ((([45]:List Nat)++aaC (a:Int)))),V.str (Tx (([45,45]:List Nat))),V.str (Tx (((aaC (a:Int)++([45,45]:List Nat))++aaC (a:Int)))),V.str (Tx (((((aaC (a:Int)++([45]:List Nat))++aaC (a:Int))++([45]:List Nat))++aaC (a:Int))))]++[V.str (Tx ((([48]:List Nat)++aaC (a:Int)))),V.str (Tx ((([48,48]:List Nat)++aaC (a:Int)))),V.str (Tx ((([43]:List Nat)++aaC (a:Int)))),V.str (Tx ((([32]:List Nat)++aaC (a:Int)))),V.str (Tx ((aaC (a:Int)++([32]:List Nat)))),V.str (Tx ((aaC (a:Int)++([46,48]:List Nat)))),V.str (Tx ((aaC (a:Int)++([95,48]:List Nat)))),V.str (Tx (([76]:List Nat))),V.str (Tx ((aaC (a:Int)++([45,42]:List Nat))))])++[V.str (Tx ((aaC (a:Int)++([47]:List Nat)))),V.str (Tx (([47]:List Nat))),V.str (Tx (([47,49]:List Nat))),V.str (Tx (([42,47]:List Nat))),V.str (Tx (([42,47,48]:List Nat))),V.str (Tx (([42,47,49,48,48]:List Nat))),V.str (Tx (([42,47,48,49]:List Nat))),V.str (Tx (([42,47,45,49]:List Nat))),V.str (Tx (([42,47,49,47,49]:List Nat))),V.str (Tx ((aaC (a:Int)++([47,49,47]:List Nat)))),V.str (Tx (([42,47,42]:List Nat))),V.str (Tx ((aaC (a:Int)++([47,47,49]:List Nat))))])++[V.str (Tx (((aaC (a:Int)++([45]:List Nat))++aaC ((b:Int)+1)))),V.str (Tx (aaC ((b:Int)+1))),V.str (Tx ((aaC ((b:Int)+1)++([47,49]:List Nat)))),V.str (Tx (((aaC (a:Int)++([45,48]:List Nat))++aaC (a:Int)))),V.str (Tx ((([42,45]:List Nat)++aaC (a:Int))))]))))
 refine⟨_,rfl,_,rfl,_,rfl,zb _ (by omega) (by omega),_,_,rfl,rfl,(by rw[sizeLine_eq];simp only[List.length_append,List.length_cons,List.length_nil];omega),_,rfl,_,_,rfl,rfl,_,rfl,zb _ (by omega) (by omega),_,_,rfl,rfl,(by rw[sizeLine_eq];simp only[List.length_append,List.length_cons,List.length_nil];omega),_,rfl,_,_,rfl,rfl,_,rfl,zb _ (by omega) (by omega),_,rfl,_,_,rfl,rfl,(by rw[sizeLine_eq];simp only[List.length_append,List.length_cons,List.length_nil];omega),_,rfl,_,_,rfl,rfl,(by rw[sizeLine_eq];simp only[List.length_append,List.length_cons,List.length_nil];omega),_,_,rfl,rfl,(by rw[sizeLine_eq];simp only[List.length_append,List.length_cons,List.length_nil];omega),(by show 4<=sizeLine;decide),fun q4 g4=>⟨p3,q4,_,_,rfl,rfl,(aaB g4 _) _ _ aaA,aaA,(by show 36+4<=sizeLine;decide),fun p4 h4=>?_⟩⟩
 have t4:=t3.trans ((aaB g4 (.lst [V.str (Tx (((aaC (b:Int)++([45]:List Nat))++aaC ((a:Int)-1)))),V.str (Tx (aaC ((a:Int)-1))),V.str (Tx (([42,47,49,32]:List Nat))),V.str (Tx ((((aaC (a:Int)++([45]:List Nat))++aaC (a:Int))++([47,48]:List Nat))))])).trans (aaB h4 (.lst (((([V.str (Tx (([]:List Nat))),V.str (Tx (([32]:List Nat))),V.str (Tx (([120]:List Nat))),V.str (Tx (([42,42]:List Nat))),V.str (Tx ((([42]:List Nat)++aaC (a:Int)))),V.str (Tx ((aaC (a:Int)++([45]:List Nat)))),V.str (Tx ((([45]:List Nat)++aaC (a:Int)))),V.str (Tx (([45,45]:List Nat))),V.str (Tx (((aaC (a:Int)++([45,45]:List Nat))++aaC (a:Int)))),V.str (Tx (((((aaC (a:Int)++([45]:List Nat))++aaC (a:Int))++([45]:List Nat))++aaC (a:Int))))]++[V.str (Tx ((([48]:List Nat)++aaC (a:Int)))),V.str (Tx ((([48,48]:List Nat)++aaC (a:Int)))),V.str (Tx ((([43]:List Nat)++aaC (a:Int)))),V.str (Tx ((([32]:List Nat)++aaC (a:Int)))),V.str (Tx ((aaC (a:Int)++([32]:List Nat)))),V.str (Tx ((aaC (a:Int)++([46,48]:List Nat)))),V.str (Tx ((aaC (a:Int)++([95,48]:List Nat)))),V.str (Tx (([76]:List Nat))),V.str (Tx ((aaC (a:Int)++([45,42]:List Nat))))])++[V.str (Tx ((aaC (a:Int)++([47]:List Nat)))),V.str (Tx (([47]:List Nat))),V.str (Tx (([47,49]:List Nat))),V.str (Tx (([42,47]:List Nat))),V.str (Tx (([42,47,48]:List Nat))),V.str (Tx (([42,47,49,48,48]:List Nat))),V.str (Tx (([42,47,48,49]:List Nat))),V.str (Tx (([42,47,45,49]:List Nat))),V.str (Tx (([42,47,49,47,49]:List Nat))),V.str (Tx ((aaC (a:Int)++([47,49,47]:List Nat)))),V.str (Tx (([42,47,42]:List Nat))),V.str (Tx ((aaC (a:Int)++([47,47,49]:List Nat))))])++[V.str (Tx (((aaC (a:Int)++([45]:List Nat))++aaC ((b:Int)+1)))),V.str (Tx (aaC ((b:Int)+1))),V.str (Tx ((aaC ((b:Int)+1)++([47,49]:List Nat)))),V.str (Tx (((aaC (a:Int)++([45,48]:List Nat))++aaC (a:Int)))),V.str (Tx ((([42,45]:List Nat)++aaC (a:Int))))])++[V.str (Tx (((aaC (b:Int)++([45]:List Nat))++aaC ((a:Int)-1)))),V.str (Tx (aaC ((a:Int)-1))),V.str (Tx (([42,47,49,32]:List Nat))),V.str (Tx ((((aaC (a:Int)++([45]:List Nat))++aaC (a:Int))++([47,48]:List Nat))))]))))
 refine⟨_,rfl,_,60,rfl,rfl,(by decide),(by decide),_,rfl,_,_,rfl,rfl,(by rw[sizeLine_eq];simp only[List.length_append,List.length_cons,List.length_nil];omega),_,rfl,_,_,rfl,rfl,(by rw[sizeLine_eq];simp only[List.length_append,List.length_cons,List.length_nil];omega),_,rfl,_,_,rfl,rfl,(by rw[sizeLine_eq];simp only[List.length_append,List.length_cons,List.length_nil];omega),_,rfl,_,_,rfl,rfl,(by rw[sizeLine_eq];simp only[List.length_append,List.length_cons,List.length_nil];omega),_,rfl,_,_,rfl,rfl,(by rw[sizeLine_eq];simp only[List.length_append,List.length_cons,List.length_nil];omega),_,rfl,_,_,rfl,rfl,(by rw[sizeLine_eq];simp only[List.length_append,List.length_cons,List.length_nil];omega),_,_,rfl,rfl,(by rw[sizeLine_eq];simp only[List.length_append,List.length_cons,List.length_nil];omega),(by show 5<=sizeLine;decide),fun q5 g5=>⟨p4,q5,_,_,rfl,rfl,(aaB g5 _) _ _ aaA,aaA,(by show 40+5<=sizeLine;decide),fun p5 h5=>?_⟩⟩
 have t5:=t4.trans ((aaB g5 (.lst [V.str (Tx ((List.replicate 60 [57]).flatten)),V.str (Tx (((aaC (a:Int)++([59]:List Nat))++aaC (a:Int)))),V.str (Tx ((aaC (a:Int)++([10]:List Nat)))),V.str (Tx ((([9]:List Nat)++aaC (a:Int)))),V.str (Tx ((((aaC (a:Int)++([45]:List Nat))++aaC (a:Int))++([47]:List Nat))))])).trans (aaB h5 (.lst ((((([V.str (Tx (([]:List Nat))),V.str (Tx (([32]:List Nat))),V.str (Tx (([120]:List Nat))),V.str (Tx (([42,42]:List Nat))),V.str (Tx ((([42]:List Nat)++aaC (a:Int)))),V.str (Tx ((aaC (a:Int)++([45]:List Nat)))),V.str (Tx ((([45]:List Nat)++aaC (a:Int)))),V.str (Tx (([45,45]:List Nat))),V.str (Tx (((aaC (a:Int)++([45,45]:List Nat))++aaC (a:Int)))),V.str (Tx (((((aaC (a:Int)++([45]:List Nat))++aaC (a:Int))++([45]:List Nat))++aaC (a:Int))))]++[V.str (Tx ((([48]:List Nat)++aaC (a:Int)))),V.str (Tx ((([48,48]:List Nat)++aaC (a:Int)))),V.str (Tx ((([43]:List Nat)++aaC (a:Int)))),V.str (Tx ((([32]:List Nat)++aaC (a:Int)))),V.str (Tx ((aaC (a:Int)++([32]:List Nat)))),V.str (Tx ((aaC (a:Int)++([46,48]:List Nat)))),V.str (Tx ((aaC (a:Int)++([95,48]:List Nat)))),V.str (Tx (([76]:List Nat))),V.str (Tx ((aaC (a:Int)++([45,42]:List Nat))))])++[V.str (Tx ((aaC (a:Int)++([47]:List Nat)))),V.str (Tx (([47]:List Nat))),V.str (Tx (([47,49]:List Nat))),V.str (Tx (([42,47]:List Nat))),V.str (Tx (([42,47,48]:List Nat))),V.str (Tx (([42,47,49,48,48]:List Nat))),V.str (Tx (([42,47,48,49]:List Nat))),V.str (Tx (([42,47,45,49]:List Nat))),V.str (Tx (([42,47,49,47,49]:List Nat))),V.str (Tx ((aaC (a:Int)++([47,49,47]:List Nat)))),V.str (Tx (([42,47,42]:List Nat))),V.str (Tx ((aaC (a:Int)++([47,47,49]:List Nat))))])++[V.str (Tx (((aaC (a:Int)++([45]:List Nat))++aaC ((b:Int)+1)))),V.str (Tx (aaC ((b:Int)+1))),V.str (Tx ((aaC ((b:Int)+1)++([47,49]:List Nat)))),V.str (Tx (((aaC (a:Int)++([45,48]:List Nat))++aaC (a:Int)))),V.str (Tx ((([42,45]:List Nat)++aaC (a:Int))))])++[V.str (Tx (((aaC (b:Int)++([45]:List Nat))++aaC ((a:Int)-1)))),V.str (Tx (aaC ((a:Int)-1))),V.str (Tx (([42,47,49,32]:List Nat))),V.str (Tx ((((aaC (a:Int)++([45]:List Nat))++aaC (a:Int))++([47,48]:List Nat))))])++[V.str (Tx ((List.replicate 60 [57]).flatten)),V.str (Tx (((aaC (a:Int)++([59]:List Nat))++aaC (a:Int)))),V.str (Tx ((aaC (a:Int)++([10]:List Nat)))),V.str (Tx ((([9]:List Nat)++aaC (a:Int)))),V.str (Tx ((((aaC (a:Int)++([45]:List Nat))++aaC (a:Int))++([47]:List Nat))))]))))
 have eW:((((([V.str (Tx (([]:List Nat))),V.str (Tx (([32]:List Nat))),V.str (Tx (([120]:List Nat))),V.str (Tx (([42,42]:List Nat))),V.str (Tx ((([42]:List Nat)++aaC (a:Int)))),V.str (Tx ((aaC (a:Int)++([45]:List Nat)))),V.str (Tx ((([45]:List Nat)++aaC (a:Int)))),V.str (Tx (([45,45]:List Nat))),V.str (Tx (((aaC (a:Int)++([45,45]:List Nat))++aaC (a:Int)))),V.str (Tx (((((aaC (a:Int)++([45]:List Nat))++aaC (a:Int))++([45]:List Nat))++aaC (a:Int))))]++[V.str (Tx ((([48]:List Nat)++aaC (a:Int)))),V.str (Tx ((([48,48]:List Nat)++aaC (a:Int)))),V.str (Tx ((([43]:List Nat)++aaC (a:Int)))),V.str (Tx ((([32]:List Nat)++aaC (a:Int)))),V.str (Tx ((aaC (a:Int)++([32]:List Nat)))),V.str (Tx ((aaC (a:Int)++([46,48]:List Nat)))),V.str (Tx ((aaC (a:Int)++([95,48]:List Nat)))),V.str (Tx (([76]:List Nat))),V.str (Tx ((aaC (a:Int)++([45,42]:List Nat))))])++[V.str (Tx ((aaC (a:Int)++([47]:List Nat)))),V.str (Tx (([47]:List Nat))),V.str (Tx (([47,49]:List Nat))),V.str (Tx (([42,47]:List Nat))),V.str (Tx (([42,47,48]:List Nat))),V.str (Tx (([42,47,49,48,48]:List Nat))),V.str (Tx (([42,47,48,49]:List Nat))),V.str (Tx (([42,47,45,49]:List Nat))),V.str (Tx (([42,47,49,47,49]:List Nat))),V.str (Tx ((aaC (a:Int)++([47,49,47]:List Nat)))),V.str (Tx (([42,47,42]:List Nat))),V.str (Tx ((aaC (a:Int)++([47,47,49]:List Nat))))])++[V.str (Tx (((aaC (a:Int)++([45]:List Nat))++aaC ((b:Int)+1)))),V.str (Tx (aaC ((b:Int)+1))),V.str (Tx ((aaC ((b:Int)+1)++([47,49]:List Nat)))),V.str (Tx (((aaC (a:Int)++([45,48]:List Nat))++aaC (a:Int)))),V.str (Tx ((([42,45]:List Nat)++aaC (a:Int))))])++[V.str (Tx (((aaC (b:Int)++([45]:List Nat))++aaC ((a:Int)-1)))),V.str (Tx (aaC ((a:Int)-1))),V.str (Tx (([42,47,49,32]:List Nat))),V.str (Tx ((((aaC (a:Int)++([45]:List Nat))++aaC (a:Int))++([47,48]:List Nat))))])++[V.str (Tx ((List.replicate 60 [57]).flatten)),V.str (Tx (((aaC (a:Int)++([59]:List Nat))++aaC (a:Int)))),V.str (Tx ((aaC (a:Int)++([10]:List Nat)))),V.str (Tx ((([9]:List Nat)++aaC (a:Int)))),V.str (Tx ((((aaC (a:Int)++([45]:List Nat))++aaC (a:Int))++([47]:List Nat))))])=(wr a b).map fun w=>V.str (Tx w):=rfl
 rw[eW] at t5
 have ck:=akZ a (by omega) b (by omega) (by omega)
 have hw:∀w∈wr a b,chk a b w=true:=List.all_eq_true.mp ck.1
 refine⟨_,rfl,_,rfl,_,_,rfl,rfl,_,rfl,ifD (fun c1=>?app) (fun c1=>?no)⟩
 case app=>
  have hz:H p5=none:=(t4.trans (aaB g5 _)).none h5
  have hm:(wr a b).map (fun w=>V.str (Tx w))++[V.str (Tx (((aaC (b:Int)++([45]:List Nat))++aaC (a:Int))))]=(wr a b++[((aaC (b:Int)++([45]:List Nat))++aaC (a:Int))]).map fun w=>V.str (Tx w):=by rw[List.map_append];rfl
  refine⟨_,rfl,.inl ⟨rfl,_,SqL.of (show _=some (HO.lst ((wr a b).map fun w=>V.str (Tx w))) from aaA)⟩,_,rfl,_,rfl,zb _ (by omega) (by omega),_,_,rfl,rfl,(by rw[sizeLine_eq];simp only[List.length_append,List.length_cons,List.length_nil];omega),_,rfl,_,_,rfl,rfl,(by rw[sizeLine_eq];simp only[List.length_append,List.length_cons,List.length_nil];omega),p5,_,_,rfl,rfl,(show _=some (HO.lst ((wr a b).map fun w=>V.str (Tx w))) from aaA),(by rw[sizeLine_eq,List.length_map];show 45<_;omega),?_⟩
  rw[hm]
  obtain⟨v,hv,hmem⟩:=ag8 (xs:=(wr a b++[((aaC (b:Int)++([45]:List Nat))++aaC (a:Int))]).map fun w=>V.str (Tx w)) (i:=c%46) (by omega) (by show c%46<46;omega)
  obtain⟨w,hwm,rfl⟩:=List.mem_map.mp hmem
  have z:=ajS (a:=a) (b:=b) (w:=w) (by
   rcases List.mem_append.mp hwm with z | z
   ·exact hw w z
   ·rw[List.mem_singleton.mp z];exact ck.2 (by omega))
  exact⟨_,rfl,_,rfl,_,rfl,p5,_,rfl,.inl (SqL.of aaA),_,_,rfl,rfl,(by show (0:Int)<46;decide),p5,_,_,_,rfl,rfl,SqL.of aaA,hv,q w _ (abB hz t5) z.1 z.2.1 z.2.2⟩
 case no=>
  obtain⟨v,hv,hmem⟩:=ag8 (xs:=(wr a b).map fun w=>V.str (Tx w)) (i:=c%45) (by omega) (by show c%45<45;omega)
  obtain⟨w,hwm,rfl⟩:=List.mem_map.mp hmem
  have z:=ajS (hw w hwm)
  exact⟨_,rfl,_,rfl,_,rfl,p5,_,rfl,.inl (SqL.of (show _=some (HO.lst ((wr a b).map fun w=>V.str (Tx w))) from aaA)),_,_,rfl,rfl,(by show (0:Int)<45;decide),p5,_,_,_,rfl,rfl,SqL.of (show _=some (HO.lst ((wr a b).map fun w=>V.str (Tx w))) from aaA),hv,q w _ t5 z.1 z.2.1 z.2.2⟩
theorem aeM:Df P w K mg base "_law_right" 3 ["_law_script","_law_low","_law_high","_law_mixed"] (aeF K):=by
 refine ZZ.F__law_right.dfs sc__law_right (fun vs H Q E h=>?_) (fun f cdv A outer s H vs Q E hr h=>?_)
 ·obtain⟨a,ns,lo,hi,bm,rfl,hS,hlen,hb,q⟩:=h
  rfl
 obtain⟨a,ns,lo,hi,bm,rfl,hS,hlen,hb,q⟩:=h
 refine⟨_,(ssC (aaO 4 (abJ aN) sc__law_right.nd)
   (ssC (alE (iR2 ZZ.z_range (aC eI (aC (eCB cMax ZZ.z_max PyProof.Rows.boot_max (aC eI (aC (eCB amL ZZ.z_min PyProof.Rows.boot_min (aC eI (aC (eCB af6 ZZ.z_len PySem.boot_len (aC (v_ 0) aN)) aN))) aN))) aN))) (gN 5 sc__law_right.nd) (ssC (aaO 6 (eD (afF ZZ) hr (aC (eD (aa6 ZZ) hr (aC (eD (aaX ZZ) hr (aC (v_ 0) (aC (v_ 5) aN))) (aC (abJ (ahV [6,64,64,3,99])) (aC (v_ 3) aN)))) (aC (v_ 1) (aC (v_ 2) aN)))) sc__law_right.nd)
   (ss1 (sIf (tCm oLe (eCB ahS ZZ.z_len PySem.boot_len (aC (abK (eSx [44]) (eOp an9 (v_ 4) (abJ (aC (eIx xT (v_ 6) eI) aN)))) aN)) eI) (ss1 (ak9 (ak1 (v_ 4) (eIx xT (v_ 6) eI)))) ssN))) PassesOwn.never)
   (ss1 (aaN (v_ 4))))),?_⟩
 have hl63:(ns.map V.int).length=ns.length:=List.length_map _
 have e5:∀z∈([6,64,64,3,99]:List Int),0<z/\z<1073741824:=by decide
 refine⟨(by show 0<=sizeLine;decide),fun pt hpt=>?_⟩
 refine⟨_,rfl,a,_,rfl,.inl ((aaB hpt _).seq hS),_,_,rfl,_,_,rfl,_,_,rfl,⟨by decide,by decide,?lo,?hi⟩,aiH (fun i σ H2=>∃(ws:List (List Nat)) (v5 v6:Option V),σ=[some (.ref a),some (.int lo),some (.int hi),some (.bl bm),some (.ref pt),v5,v6]/\Same H H2/\H2 pt=some (.lst (ws.map fun w=>V.str (Tx w)))/\(∀w∈ws,44∉w/\(aaF lo hi w).isNone=false)/\(aaE 44 ws).length<=300/\ws.length<=i/\(0<i->ws≠[])) ⟨[],_,_,rfl,aaB hpt _,aaA,(fun w h=>nomatch h),(by decide),Nat.le_refl _,fun z=>absurd z (Nat.lt_irrefl 0)⟩ ?turn ?done⟩
 case lo=>
  rw[hl63]
  split<;>(try split)<;>omega
 case hi=>
  rw[hl63]
  split<;>(try split)<;>omega
 case done=>
  rintro σ H2 ⟨ws,v5,v6,rfl,s2,h2,hg,hl,hw,h0⟩
  rw[hl63] at hw h0
  refine⟨_,rfl,q pt ws H2 s2 h2 hg (h0 ?_) ?_ hl⟩
  ·split<;>(try split)<;>omega
  ·split at hw<;>(try split at hw)<;>omega
 case turn=>
  rintro i σ H2 hi' ⟨ws,v5,v6,rfl,s2,h2,hg,hl,hw,h0⟩
  have hi40:i<40:=by
   rw[hl63] at hi'
   split at hi'<;>(try split at hi')<;>omega
  refine⟨_,rfl,_,rfl,a,_,rfl,⟨ns,s2.seq hS⟩,⟨by omega,by omega⟩,fun c=>⟨(by show 5<=sizeLine;decide),fun ls hls=>⟨_,rfl,c,ls,bm,[6,64,64,3,99],rfl,SqL.of aaA,e5,(by decide),fun ds p H3 s3 hp hd=>?_⟩⟩⟩
  obtain⟨f0,f1,f2,f3,f4,rfl,b0,b3⟩:∃f0 f1 f2 f3 f4:Int,ds=[f0,f1,f2,f3,f4]/\(0<=f0/\f0<6)/\0<=f3/\f3<3:=by
   cases hd with
   |cons h1 r=>cases r with | cons h2 r=>cases r with | cons h3 r=>cases r with | cons h4 r=>cases r with | cons h5 r=>cases r;exact⟨_,_,_,_,_,rfl,h1,h4⟩
  refine⟨_,rfl,_,rfl,p,f0,f1,f2,f3,f4,lo,hi,rfl,hp,b0,b3,hb,fun pi t A B S H5 s6 hpi hit hA hB=>?_⟩
  have k5:Same H2 H5:=(aaB hls _).trans (s3.trans s6)
  obtain⟨i1,i2,i3,iA,iB,iS⟩:=id hit
  have e300:∀n:Nat,n<=100000->n<=sizeLine:=fun n h=>by rw[sizeLine_eq];omega
  have emap:(ws.map fun w=>V.str (Tx w))++[V.str (Tx t)]=(ws++[t]).map fun w=>V.str (Tx w):=by rw[List.map_append];rfl
  have jl:(aaE 44 (ws++[t])).length<=321:=by
   by_cases c0:ws=[]
   ·subst c0
    show t.length<=321
    omega
   ·rw[abN 44 ws [t] c0 (by simp),List.length_append,List.length_cons]
    show _+(t.length+1)<=321
    omega
  have hwl':(ws.map fun w=>V.str (Tx w)).length=ws.length:=List.length_map _
  refine⟨rfl,_,rfl,_,rfl,pi,_,_,_,rfl,rfl,SqT.of hpi,rfl,(by show 1<=sizeLine;decide),fun pl hpl=>⟨pt,pl,_,_,rfl,rfl,SqL.of ((aaB hpl _) _ _ (k5 _ _ h2)),SqL.of aaA,e300 _ (by rw[hwl'];show ws.length+1<=_;omega),fun pj hpj=>?_⟩⟩
  refine⟨44,pj,ws++[t],rfl,rfl,?_,by omega,aaE 44 (ws++[t]),rfl,e300 _ (by omega),_,_,rfl,rfl,_,rfl,?_⟩
  ·rw[←emap]
   exact SqL.of aaA
  have k5b:Same H2 (upd (upd H5 pl (.lst [V.str (Tx t)])) pj (.lst ((ws.map fun w=>V.str (Tx w))++[V.str (Tx t)]))):=k5.trans ((aaB hpl _).trans (aaB hpj _))
  have hpi5:=(aaB hpj (.lst ((ws.map fun w=>V.str (Tx w))++[V.str (Tx t)]))) _ _ ((aaB hpl (.lst [V.str (Tx t)])) _ _ hpi)
  generalize upd (upd H5 pl (.lst [V.str (Tx t)])) pj (.lst ((ws.map fun w=>V.str (Tx w))++[V.str (Tx t)]))=H6 at k5b hpi5 ⊢
  have hpt6:=k5b _ _ h2
  refine ifD (fun c3=>?_) (fun c3=>?_)
  ·refine⟨_,rfl,.inl ⟨rfl,_,SqL.of hpt6⟩,_,rfl,pi,_,_,_,rfl,rfl,SqT.of hpi5,rfl,pt,_,_,rfl,rfl,hpt6,Nat.lt_of_lt_of_le (show _<100000 by rw[hwl'];omega) (e300 _ (Nat.le_refl _)),?_⟩
   refine⟨ws++[t],_,_,rfl,abB hpt (s2.trans k5b),(by rw[←emap];exact aaA),fun w hwm=>?_,(by omega),(by rw[List.length_append];show ws.length+1<=i+1;omega),fun _ e=>absurd e (by simp)⟩
   rcases List.mem_append.mp hwm with z | z
   ·exact hg w z
   ·rw[List.mem_singleton.mp z]
    exact⟨i2,by rw[i1];rfl⟩
  ·refine⟨ws,_,_,rfl,s2.trans k5b,hpt6,hg,hl,by omega,fun _ e=>?_⟩
   subst e
   exact c3 (by show ((t.length:Nat):Int)<=300;omega)
theorem ad2:Df P w K mg base "_law_spoilt" 2 ["_law_digits_here","_law_texts","_law_low","_law_high"] (ad6 K):=by
 refine ZZ.F__law_spoilt.dfs sc__law_spoilt (fun vs H Q E h=>?_) (fun f cdv A outer s H vs Q E hr h=>?_)
 ·obtain⟨d,p,x0,x1,x2,x3,x4,lo,hi,ws,rfl,hd,hp,hg,hne,hw40,hj3,hb,q⟩:=h
  rfl
 obtain⟨d,p,x0,x1,x2,x3,x4,lo,hi,ws,rfl,hd,hp,hg,hne,hw40,hj3,hb,q⟩:=h
 refine⟨_,(ssC (aaO 1 (eCT cLst ZZ.z_list PyProof.Rows.boot_list (aC (v_ 1) aN)) sc__law_spoilt.nd)
   (ssC (aaO 4 (eOp abR (eIx xL (v_ 0) eI) (eCB af6 ZZ.z_len PySem.boot_len (aC (v_ 1) aN))) sc__law_spoilt.nd)
   (ssC (af3 (eD (abH ZZ) hr (aC (eIx xL (v_ 0) eI) (aC (v_ 2) (aC (v_ 3) aN)))) (gSb (v_ 1) (v_ 4)))
   (ssC (sIf (tCm oEq (eIx xL (v_ 0) eI) eI) (ssC (aaO 5 (eOp abR (eIx xL (v_ 0) eI) (eCB af6 ZZ.z_len PySem.boot_len (aC (v_ 1) aN))) sc__law_spoilt.nd)
   (ssC (af3 (eD (abH ZZ) hr (aC (eIx xL (v_ 0) eI) (aC (v_ 2) (aC (v_ 3) aN)))) (gSb (v_ 1) (v_ 5)))
   (ss1 (aaO 4 (eCB amL ZZ.z_min PyProof.Rows.boot_min (aC (v_ 4) (aC (v_ 5) aN))) sc__law_spoilt.nd)))) ssN)
   (ssC (sIf (tCm oGt (eCB ahS ZZ.z_len PySem.boot_len (aC (abK (eSx [44]) (v_ 1)) aN)) eI) (ss1 (aaO 4 eI sc__law_spoilt.nd)) ssN)
   (ss1 (aaN (abI (aC (abK (eSx [44]) (v_ 1)) (aC (v_ 4) aN)))))))))),?_⟩
 have hpos:0<ws.length:=List.length_pos_iff.mpr hne
 have hml:∀us:List (List Nat),(us.map fun w=>V.str (Tx w)).length=us.length:=fun us=>List.length_map _
 have hwl:∀w∈ws,w.length<=320:=fun w hw=>by have:=agD hw;omega
 have h44:∀w∈ws,44∉w:=fun w hw=>(hg w hw).1
 refine⟨_,rfl,p,_,rfl,.inl (SqL.of hp),fun p2 h2=>?_⟩
 have t2:=aaB h2 (.lst (ws.map fun w=>V.str (Tx w)))
 have nd:d≠p2:=aaG hd h2
 refine⟨_,rfl,d,_,_,_,rfl,rfl,SqL.of (t2 _ _ hd),rfl,_,rfl,p2,_,rfl,.inl (SqL.of aaA),_,_,rfl,rfl,(by rw[hml];omega),?_⟩
 obtain⟨j,ej,hj⟩:∃j:Nat,x0%(((ws.map fun w=>V.str (Tx w)).length:Nat):Int)=(j:Int)/\j<ws.length:=by
  rw[hml]
  have m0:=Int.emod_nonneg x0 (show ((ws.length:Nat):Int)≠0 by omega)
  have m1:=Int.emod_lt_of_pos x0 (show (0:Int)<((ws.length:Nat):Int) by omega)
  exact⟨(x0%((ws.length:Nat):Int)).toNat,by omega,by omega⟩
 show acG 4 (V.int (x0%(((ws.map fun w=>V.str (Tx w)).length:Nat):Int))) _ _ _
 rw[ej]
 refine⟨_,rfl,d,_,_,_,rfl,rfl,SqL.of (t2 _ _ hd),rfl,_,rfl,_,rfl,x1,lo,hi,rfl,hb,fun w1 H3 s3 c1 l1 b1=>?_⟩
 refine⟨_,rfl,_,rfl,p2,_,_,j,rfl,rfl,s3 _ _ aaA,(by unfold ixN;rw[if_pos (by omega),if_pos (by rw[hml];omega)];rfl),?_⟩
 have m1:(ws.map fun w=>V.str (Tx w)).set j (V.str (Tx w1))=(ws.set j w1).map fun w=>V.str (Tx w):=(List.map_set ..).symm
 rw[m1]
 have sA:Same H (upd H3 p2 (.lst ((ws.set j w1).map fun w=>V.str (Tx w)))):=abB h2 (t2.trans s3)
 have hdA:upd H3 p2 (.lst ((ws.set j w1).map fun w=>V.str (Tx w))) d=some (.lst [.int x0,.int x1,.int x2,.int x3,.int x4]):=sA _ _ hd
 have wl1:=abG (j:=j) (w:=w1) hwl (by omega)
 have w41:=abG (P:=fun w=>44∉w) (j:=j) (w:=w1) h44 c1
 have ln1:(ws.set j w1).length=ws.length:=List.length_set
 refine⟨_,rfl,d,_,_,_,rfl,rfl,SqL.of (hdA),rfl,rfl,_,rfl,ifI (fun c2=>?two) (fun c2=>?one)⟩
 case one=>
  refine⟨rfl,_,rfl,44,p2,ws.set j w1,rfl,rfl,SqL.of aaA,(by have:=aa7 wl1 (by rw[ln1];omega);omega),aaE 44 (ws.set j w1),rfl,(by have:=aa7 wl1 (by rw[ln1];omega);rw[sizeLine_eq];omega),_,_,rfl,rfl,_,rfl,ifD (fun c9=>?_) (fun c9=>?_)⟩
  ·exact⟨rfl,_,rfl,44,p2,ws.set j w1,rfl,rfl,SqL.of aaA,(by have:=aa7 wl1 (by rw[ln1];omega);omega),_,rfl,(by show 2<=sizeLine;decide),fun t ht=>q t _ 0 _ (sA.trans (aaB ht _)) aaA (abE (m:=0) wl1 (by rw[ln1];omega) (acV (by omega)))⟩
  ·refine⟨rfl,_,rfl,44,p2,ws.set j w1,rfl,rfl,SqL.of aaA,(by have:=aa7 wl1 (by rw[ln1];omega);omega),_,rfl,(by show 2<=sizeLine;decide),fun t ht=>q t _ _ _ (sA.trans (aaB ht _)) aaA ?_⟩
   exact abE wl1 (by rw[ln1];omega) (abO hg (fun i hi=>List.getElem?_set_ne (by omega)) (by rw[List.getElem?_set_self hj]) b1 w41 (by omega) (by omega))
 case two=>
  refine⟨_,rfl,d,_,_,_,rfl,rfl,SqL.of (hdA),rfl,_,rfl,p2,_,rfl,.inl (SqL.of aaA),_,_,rfl,rfl,(by rw[hml,ln1];omega),?_⟩
  obtain⟨k,ek,hk⟩:∃k:Nat,x3%((((ws.set j w1).map fun w=>V.str (Tx w)).length:Nat):Int)=(k:Int)/\k<ws.length:=by
   rw[hml,ln1]
   have m0:=Int.emod_nonneg x3 (show ((ws.length:Nat):Int)≠0 by omega)
   have m1:=Int.emod_lt_of_pos x3 (show (0:Int)<((ws.length:Nat):Int) by omega)
   exact⟨(x3%((ws.length:Nat):Int)).toNat,by omega,by omega⟩
  show acG 5 (V.int (x3%((((ws.set j w1).map fun w=>V.str (Tx w)).length:Nat):Int))) _ _ _
  rw[ek]
  refine⟨_,rfl,d,_,_,_,rfl,rfl,SqL.of (hdA),rfl,_,rfl,_,rfl,x4,lo,hi,rfl,hb,fun w2 H5 s5 c3 l3 b3=>?_⟩
  refine⟨_,rfl,_,rfl,p2,_,_,k,rfl,rfl,s5 _ _ aaA,(by unfold ixN;rw[if_pos (by omega),if_pos (by rw[hml,ln1];omega)];rfl),?_⟩
  have m2:((ws.set j w1).map fun w=>V.str (Tx w)).set k (V.str (Tx w2))=((ws.set j w1).set k w2).map fun w=>V.str (Tx w):=(List.map_set ..).symm
  rw[m2]
  have sB:Same H (upd H5 p2 (.lst (((ws.set j w1).set k w2).map fun w=>V.str (Tx w)))):=abB h2 (sA.trans s5)
  have wl2:=abG (j:=k) (w:=w2) wl1 (by omega)
  have w42:=abG (P:=fun w=>44∉w) (j:=k) (w:=w2) w41 c3
  have ln2:((ws.set j w1).set k w2).length=ws.length:=by rw[List.length_set,ln1]
  refine⟨_,rfl,_,rfl,_,_,rfl,?_⟩
  refine⟨rfl,_,rfl,44,p2,(ws.set j w1).set k w2,rfl,rfl,SqL.of aaA,(by have:=aa7 wl2 (by rw[ln2];omega);omega),aaE 44 ((ws.set j w1).set k w2),rfl,(by have:=aa7 wl2 (by rw[ln2];omega);rw[sizeLine_eq];omega),_,_,rfl,rfl,_,rfl,ifD (fun c9=>?_) (fun c9=>?_)⟩
  ·exact⟨rfl,_,rfl,44,p2,(ws.set j w1).set k w2,rfl,rfl,SqL.of aaA,(by have:=aa7 wl2 (by rw[ln2];omega);omega),_,rfl,(by show 2<=sizeLine;decide),fun t ht=>q t _ 0 _ (sB.trans (aaB ht _)) aaA (abE (m:=0) wl2 (by rw[ln2];omega) (acV (by omega)))⟩
  ·refine⟨rfl,_,rfl,44,p2,(ws.set j w1).set k w2,rfl,rfl,SqL.of aaA,(by have:=aa7 wl2 (by rw[ln2];omega);omega),_,rfl,(by show 2<=sizeLine;decide),fun t ht=>q t _ _ _ (sB.trans (aaB ht _)) aaA ?_⟩
   by_cases ck:(k:Int)<j
   ·rw[if_pos ck]
    exact abE wl2 (by rw[ln2];omega) (abO hg (fun i hi=>by rw[List.getElem?_set_ne (by omega),List.getElem?_set_ne (by omega)]) (by rw[List.getElem?_set_self (by rw[ln1];exact hk)]) b3 w42 (by omega) (by omega))
   ·rw[if_neg ck]
    by_cases cj:j=k
    ·subst cj
     exact abE wl2 (by rw[ln2];omega) (abO hg (fun i hi=>by rw[List.getElem?_set_ne (by omega),List.getElem?_set_ne (by omega)]) (by rw[List.getElem?_set_self (by rw[ln1];exact hk)]) b3 w42 (by omega) (by omega))
    ·exact abE wl2 (by rw[ln2];omega) (abO hg (fun i hi=>by rw[List.getElem?_set_ne (by omega),List.getElem?_set_ne (by omega)]) (by rw[List.getElem?_set_ne (by omega),List.getElem?_set_self hj]) b1 w42 (by omega) (by omega))
theorem afO:Df P w K mg base "_law_many" 2 ["_law_digits_here","_law_low","_law_high"] (afN K):=by
 refine ZZ.F__law_many.dfs sc__law_many (fun vs H Q E h=>?_) (fun f cdv A outer s H vs Q E hr h=>?_)
 ·obtain⟨d,x0,x1,x2,x3,x4,x5,lo,hi,rfl,hd,k0,k4,hb,q⟩:=h
  rfl
 obtain⟨d,x0,x1,x2,x3,x4,x5,lo,hi,rfl,hd,k0,k4,hb,q⟩:=h
 refine⟨_,(ssC (aaO 3 (eOp abQ eI (eIx xL (v_ 0) eI)) sc__law_many.nd)
   (ssC (al6 4 ["_law_low","_law_digits_here","_law_high"] [1,0,2] (iR1 ZZ.z_range (aC (v_ 3) aN)) (fun _ _ _ _ _ _=>fsN) (fun _ _ _ _ _ _=>(eCT abZ ZZ.z_str PyProof.Rows.boot_str (aC (eOp abQ (v_ 1) (eOp abR (eOp abQ (eIx (xLc (K:=K)) (v_ 2) eI) (eOp aj8 (v_ 0) (eIx (xLc (K:=K)) (v_ 2) eI))) (eOp abQ (eOp agW (v_ 3) (v_ 1)) eI))) aN))) sc__law_many.nd)
   (ssC (sIf (tCm oEq (eIx xL (v_ 0) eI) eI) (ss1 (aaN (abI (aC (abK (eSx [44]) (v_ 4)) (aC eI aN))))) ssN)
   (ssC (aaO 5 (eIx xL (v_ 0) eI) sc__law_many.nd)
   (ssC (sIf (tCm oEq (eIx xL (v_ 0) eI) eI) (ss1 (aaO 5 (eOp abQ eI (eOp abR (eIx xL (v_ 0) eI) (eOp agW (v_ 3) eI))) sc__law_many.nd)) ssN)
   (ssC (af3 (eD (abH ZZ) hr (aC (eIx xL (v_ 0) eI) (aC (v_ 1) (aC (v_ 2) aN)))) (gSb (v_ 4) (v_ 5)))
   (ssC (sIf (tCm oGt (eCB ahS ZZ.z_len PySem.boot_len (aC (abK (eSx [44]) (v_ 4)) aN)) eI) (ss1 (aaN (abI (aC (abK (eSx [44]) (v_ 4)) (aC eI aN))))) ssN)
   (ss1 (aaN (abI (aC (abK (eSx [44]) (v_ 4)) (aC (eCB amL ZZ.z_min PyProof.Rows.boot_min (aC (v_ 5) (aC eI aN))) aN)))))))))))),?_⟩
 have ok3:∀n,∀w∈aaV lo hi x1 x2 n,(44∉w/\(aaF lo hi w).isNone=false)/\w.length<=2:=fun n=>aj9 hb
 refine⟨_,rfl,d,_,_,_,rfl,rfl,SqL.of (hd),rfl,_,_,rfl,rfl,?_⟩
 obtain⟨n,en,n1,n2⟩:∃n:Nat,41+x0=(n:Int)/\41<=n/\n<=52:=⟨(41+x0).toNat,by omega,by omega,by omega⟩
 show acG 3 (V.int (41+x0)) _ _ _
 rw[en]
 refine⟨_,rfl,_,rfl,by omega,by omega,ahD (fun i z=>z=(aaV lo hi x1 x2 i).map fun w=>V.str (Tx w)) (by rw[sizeLine_eq];omega) rfl ?st ?dn⟩
 case st=>
  intro i z D H2 E' F' hi' hR hD s2 hz hE hF
  subst hR
  have hi2:i<52:=by omega
  have p1:0<hi-lo+1:=by omega
  have m0:=Int.emod_nonneg (x1+(0+(i:Int))*x2) (show (hi-lo+1)≠0 by omega)
  have m1:=Int.emod_lt_of_pos (x1+(0+(i:Int))*x2) p1
  refine⟨_,rfl,_,rfl,d,_,_,_,rfl,rfl,SqL.of (s2 _ _ hd),rfl,_,rfl,_,rfl,d,_,_,_,rfl,rfl,SqL.of (s2 _ _ hd),rfl,_,_,rfl,rfl,.inl ⟨by omega,by omega⟩,_,_,rfl,rfl,_,rfl,_,rfl,_,_,rfl,rfl,_,_,rfl,rfl,_,_,rfl,rfl,p1,_,_,rfl,rfl,(lo+(x1+(0+(i:Int))*x2)%(hi-lo+1)).toNat,(by rw[aaP (by omega)]),Nat.lt_of_lt_of_le (show _<100 by omega) (by decide +kernel),hE _ _ (Same.refl _) ?_⟩
  unfold aaV
  rw[List.range_succ,List.map_append,List.map_append]
  rfl
 case dn=>
  intro D H2 z hR hD s2 hz
  subst hR
  have ok3:=ok3 n
  rw[Int.toNat_natCast] at hz
  have sd:=s2 _ _ hd
  have h44:∀w∈aaV lo hi x1 x2 n,44∉w:=fun w hw=>(ok3 w hw).1.1
  have hl3:∀w∈aaV lo hi x1 x2 n,w.length<=320:=fun w hw=>by have:=(ok3 w hw).2;omega
  have j2:=aj2 (fun w hw=>(ok3 w hw).2) (by rw[aa3];omega)
  refine⟨_,rfl,d,_,_,_,rfl,rfl,SqL.of (sd),rfl,rfl,_,rfl,ifI (fun c=>?_) (fun c=>?_)⟩
  ·exact⟨rfl,_,rfl,44,D,aaV lo hi x1 x2 n,rfl,rfl,SqL.of (hz),(by have:=j2;omega),(by show 2<=sizeLine;decide),fun t ht=>q t _ 40 _ (s2.trans (aaB ht _)) aaA (abE (m:=40) hl3 (by rw[aa3];omega) (ag9 (fun w hw=>(ok3 w (List.mem_of_mem_take hw)).1.2) h44 (by rw[aa3];omega) (by omega)))⟩
  ·obtain⟨m4,rfl⟩:=Int.eq_ofNat_of_zero_le k4.1
   refine⟨_,rfl,d,_,_,_,rfl,rfl,SqL.of (sd),rfl,_,rfl,d,_,_,_,rfl,rfl,SqL.of (sd),rfl,rfl,_,rfl,ifI (fun c5=>?_) (fun c5=>?_)⟩
   ·refine⟨_,rfl,d,_,_,_,rfl,rfl,SqL.of (sd),rfl,_,rfl,_,_,rfl,rfl,_,_,rfl,rfl,(by omega),_,_,rfl,rfl,?_⟩
    obtain⟨m,em,hm,h40⟩:∃m:Nat,40+(m4:Int)%((n:Int)-40)=(m:Int)/\m<n/\40<=m:=by
     have e0:=Int.emod_nonneg (m4:Int) (show ((n:Int)-40)≠0 by omega)
     have e1:=Int.emod_lt_of_pos (m4:Int) (show (0:Int)<(n:Int)-40 by omega)
     exact⟨(40+(m4:Int)%((n:Int)-40)).toNat,by omega,by omega,by omega⟩
    show acG 5 (V.int (40+(m4:Int)%((n:Int)-40))) _ _ _
    rw[em]
    refine⟨_,rfl,d,_,_,_,rfl,rfl,SqL.of (sd),rfl,_,rfl,_,rfl,x5,lo,hi,rfl,hb,fun w1 H3 s3 c1 l1 b1=>?_⟩
    refine⟨_,rfl,_,rfl,D,_,_,m,rfl,rfl,s3 _ _ hz,(by unfold ixN;rw[if_pos (by omega),if_pos (by rw[List.length_map,aa3];omega)];rfl),?_⟩
    have m1:((aaV lo hi x1 x2 n).map fun w=>V.str (Tx w)).set m (V.str (Tx w1))=((aaV lo hi x1 x2 n).set m w1).map fun w=>V.str (Tx w):=(List.map_set ..).symm
    rw[m1]
    have sB:Same H (upd H3 D (.lst (((aaV lo hi x1 x2 n).set m w1).map fun w=>V.str (Tx w)))):=abB hD (s2.trans s3)
    have wl:=abG (j:=m) (w:=w1) hl3 (by omega)
    have w4:=abG (P:=fun w=>44∉w) (j:=m) (w:=w1) h44 c1
    have ln:((aaV lo hi x1 x2 n).set m w1).length=n:=by rw[List.length_set,aa3]
    have jl:=aa7 wl (by rw[ln];omega)
    refine⟨rfl,_,rfl,44,D,(aaV lo hi x1 x2 n).set m w1,rfl,rfl,SqL.of (aaA),(by have:=jl;omega),aaE 44 ((aaV lo hi x1 x2 n).set m w1),rfl,(by rw[sizeLine_eq];omega),_,_,rfl,rfl,_,rfl,ifD (fun c9=>?_) (fun c9=>?_)⟩
    ·exact⟨rfl,_,rfl,44,D,(aaV lo hi x1 x2 n).set m w1,rfl,rfl,SqL.of (aaA),(by have:=jl;omega),(by show 2<=sizeLine;decide),fun t ht=>q t _ 0 _ (sB.trans (aaB ht _)) aaA (abE (m:=0) wl (by rw[ln];omega) (acV (by omega)))⟩
    ·refine⟨rfl,_,rfl,44,D,(aaV lo hi x1 x2 n).set m w1,rfl,rfl,SqL.of (aaA),(by have:=jl;omega),_,rfl,_,_,rfl,(by show 2<=sizeLine;decide),fun t ht=>q t _ _ _ (sB.trans (aaB ht _)) aaA ?_⟩
     have eA:(if (40:Int)<(m:Int) then 40 else (m:Int))=40:=by split<;>omega
     rw[eA]
     refine abE (m:=40) wl (by rw[ln];omega) (ag9 (fun w hw=>?_) w4 (by rw[ln];omega) (by omega))
     obtain⟨k,hk⟩:=List.mem_iff_getElem?.mp hw
     rw[List.getElem?_take] at hk
     split at hk
     ·rw[List.getElem?_set_ne (by omega)] at hk
      exact (ok3 w (List.mem_of_getElem? hk)).1.2
     ·cases hk
   ·obtain⟨m,em⟩:∃m,m=m4:=⟨_,rfl⟩
    rw[←em]
    have hm:m<n:=by omega
    refine⟨_,rfl,d,_,_,_,rfl,rfl,SqL.of (sd),rfl,_,rfl,_,rfl,x5,lo,hi,rfl,hb,fun w1 H3 s3 c1 l1 b1=>?_⟩
    refine⟨_,rfl,_,rfl,D,_,_,m,rfl,rfl,s3 _ _ hz,(by unfold ixN;rw[if_pos (by omega),if_pos (by rw[List.length_map,aa3];omega)];rfl),?_⟩
    have m1:((aaV lo hi x1 x2 n).map fun w=>V.str (Tx w)).set m (V.str (Tx w1))=((aaV lo hi x1 x2 n).set m w1).map fun w=>V.str (Tx w):=(List.map_set ..).symm
    rw[m1]
    have sB:Same H (upd H3 D (.lst (((aaV lo hi x1 x2 n).set m w1).map fun w=>V.str (Tx w)))):=abB hD (s2.trans s3)
    have wl:=abG (j:=m) (w:=w1) hl3 (by omega)
    have w4:=abG (P:=fun w=>44∉w) (j:=m) (w:=w1) h44 c1
    have ln:((aaV lo hi x1 x2 n).set m w1).length=n:=by rw[List.length_set,aa3]
    have jl:=aa7 wl (by rw[ln];omega)
    refine⟨rfl,_,rfl,44,D,(aaV lo hi x1 x2 n).set m w1,rfl,rfl,SqL.of (aaA),(by have:=jl;omega),aaE 44 ((aaV lo hi x1 x2 n).set m w1),rfl,(by rw[sizeLine_eq];omega),_,_,rfl,rfl,_,rfl,ifD (fun c9=>?_) (fun c9=>?_)⟩
    ·exact⟨rfl,_,rfl,44,D,(aaV lo hi x1 x2 n).set m w1,rfl,rfl,SqL.of (aaA),(by have:=jl;omega),(by show 2<=sizeLine;decide),fun t ht=>q t _ 0 _ (sB.trans (aaB ht _)) aaA (abE (m:=0) wl (by rw[ln];omega) (acV (by omega)))⟩
    ·refine⟨rfl,_,rfl,44,D,(aaV lo hi x1 x2 n).set m w1,rfl,rfl,SqL.of (aaA),(by have:=jl;omega),_,rfl,_,_,rfl,(by show 2<=sizeLine;decide),fun t ht=>q t _ _ _ (sB.trans (aaB ht _)) aaA ?_⟩
     have eA:(if (40:Int)<(m:Int) then 40 else (m:Int))=(m:Int):=if_neg (by omega)
     rw[eA]
     exact abE wl (by rw[ln];omega) (abO (fun w hw=>(ok3 w hw).1) (fun i hi=>List.getElem?_set_ne (by omega)) (by rw[List.getElem?_set_self (by rw[aa3];exact hm)]) b1 w4 (by omega) (by omega))
theorem amH{fL:Addr}{fdL:FuncData}(F:Fun K "law" "law" aeY fL fdL):FnOk P w K mg base CX0 9 fL fdL ["_law_script"] (sp_law K):=by
 refine F.oks sc_law (fun vs H Q E h=>?_) (fun cdv A outer s H vs Q E hr h=>?_)
 ·obtain⟨a,ns,rfl,hS,hlen,q⟩:=h
  rfl
 obtain⟨a,ns,rfl,hS,hlen,q⟩:=h
 refine⟨_,(ssC (aaO 1 (af4 oEq (eOp abR (eD (aaX ZZ) hr (aC (v_ 0) (aC eI aN))) eI) eI) sc_law.nd)
   (ssC (af3 (eD (aa6 ZZ) hr (aC (eOp amQ (eD (aaX ZZ) hr (aC (v_ 0) (aC eI aN))) eI) (aC (abJ (ahV [8,64,64,6])) (aC (v_ 1) aN)))) (aoZ (gsC (gN 2 sc_law.nd) (gsC (gN 3 sc_law.nd) (gsC (gN 4 sc_law.nd) (gsC (gN 5 sc_law.nd) gsN))))))
   (ssC (af3 (eD (adT ZZ) hr (aC (v_ 2) (aC (v_ 3) (aC (v_ 4) aN)))) (gTu (gsC (gN 6 sc_law.nd) (gsC (gN 7 sc_law.nd) gsN))))
   (ssC (aaO 8 (eD (aeM ZZ) hr (aC (v_ 0) (aC (v_ 6) (aC (v_ 7) (aC (v_ 1) aN))))) sc_law.nd)
   (ssC (aaO 9 (eD1 (aaY ZZ) hr adU (aC (abK (eSx [44]) (v_ 8)) (aC (v_ 6) (aC (v_ 7) aN)))) sc_law.nd)
   (ssC (aaO 10 (eD (aa6 ZZ) hr (aC (eD (aaX ZZ) hr (aC (v_ 0) (aC eI aN))) (aC (abJ (ahV [40,46,2,40,46])) (aC (v_ 1) aN)))) sc_law.nd)
   (ssC (af3 (eD (ad2 ZZ) hr (aC (v_ 10) (aC (v_ 8) (aC (v_ 6) (aC (v_ 7) aN))))) (gTu (gsC (gN 11 sc_law.nd) (gsC (gN 12 sc_law.nd) gsN))))
   (ssC (sIf (tNo (tVa (eD (aaM ZZ) hr (aC (v_ 11) (aC (v_ 6) (aC (v_ 7) (aC (v_ 12) aN))))))) (ss1 (aaN eB)) ssN)
   (ssC (aaO 10 (eD (aa6 ZZ) hr (aC (eD (aaX ZZ) hr (aC (v_ 0) (aC eI aN))) (aC (abJ (ahV [12,64,64,3,40,46])) (aC (v_ 1) aN)))) sc_law.nd)
   (ssC (af3 (eD (afO ZZ) hr (aC (v_ 10) (aC (v_ 6) (aC (v_ 7) aN)))) (gTu (gsC (gN 11 sc_law.nd) (gsC (gN 12 sc_law.nd) gsN))))
   (ssC (sIf (tNo (tVa (eD (aaM ZZ) hr (aC (v_ 11) (aC (v_ 6) (aC (v_ 7) (aC (v_ 12) aN))))))) (ss1 (aaN eB)) ssN)
   (ssC (aaO 13 (abK (eSx [44]) (eOp ai2 (abJ (aC (eCT abZ ZZ.z_str PyProof.Rows.boot_str (aC (v_ 7) aN)) aN)) eI)) sc_law.nd)
   (ssC (sIf (tW (wOr (tCm oNe (eD1 (aaY ZZ) hr adU (aC (v_ 13) (aC (v_ 6) (aC (v_ 7) aN)))) (eOp aq9 eI (v_ 7))) (agP (tNo (tVa (eD (aaM ZZ) hr (aC (eOp aaI (v_ 13) (eSx [44,42])) (aC (v_ 6) (aC (v_ 7) (aC eI aN)))))))))) (ss1 (aaN eB)) ssN)
   (ssC (aaO 14 (abK (eSx [44]) (eOp ai2 (abJ (aC (eSx [49,48,45,53,57,47,49,48]) aN)) eI)) sc_law.nd)
   (ssC (sIf (tCm oNe (eD1 (aaY ZZ) hr adU (aC (eOp aaI (v_ 14) (eSx [44,48,45,57])) (aC eI (aC eI aN)))) (eD1 (aaY ZZ) hr adU (aC (eSx [42,47,49,48,44,48,45,57]) (aC eI (aC eI aN))))) (ss1 (aaN eB)) ssN)
   (ssC (sIf (tW (wOr (tNo (tVa (eD (aaM ZZ) hr (aC (eOp aaI (v_ 14) (eSx [44,48,45,49,48])) (aC eI (aC eI (aC eI aN))))))) (agP (tNo (tVa (eD (aaM ZZ) hr (aC (eOp aaI (v_ 14) (eSx [44,48,45,57,120])) (aC eI (aC eI (aC eI aN)))))))))) (ss1 (aaN eB)) ssN)
   (ssC (aaO 15 (eOp ai2 (abJ (aC (eSx [49,48]) aN)) eI) sc_law.nd)
   (ssC (sIf (tW (wOr (tNo (tVa (eD (aaM ZZ) hr (aC (abK (eSx [44]) (v_ 15)) (aC eI (aC eI (aC eI aN))))))) (agP (tNo (tVa (eD (aaM ZZ) hr (aC (abK (eSx [44]) (eOp aiN (abJ (aC (eSx [49]) (aC (eSx [120]) aN))) (v_ 15))) (aC eI (aC eI (aC eI aN)))))))))) (ss1 (aaN eB)) ssN)
   (ssC (sIf (tNo (tVa (eD (aaM ZZ) hr (aC (eIx xL (abJ (aC eN (aC eI (aC eB (aC (abJ (aC (eSx [42]) aN)) (aC (abI (aC (eSx [42]) aN)) (aC eDi aN))))))) (v_ 5)) (aC (v_ 6) (aC (v_ 7) (aC eI aN))))))) (ss1 (aaN eB)) ssN)
   (ss1 (aaN (af4 oEq (eD1 (aaY ZZ) hr adU (aC (abK (eSx [44]) (v_ 8)) (aC (v_ 6) (aC (v_ 7) aN)))) (v_ 9))))))))))))))))))))))),?_⟩
 have eTo:∀(R:L2.St->Hp->Prop) (e e':L2.St) (H:Hp),e=e'->R e' H->R e H:=fun _ _ _ _ h g=>h▸g
 have e4:∀z∈([8,64,64,6]:List Int),0<z/\z<1073741824:=by decide
 have e5:∀z∈([40,46,2,40,46]:List Int),0<z/\z<1073741824:=by decide
 have e6:∀z∈([12,64,64,3,40,46]:List Int),0<z/\z<1073741824:=by decide
 refine⟨_,rfl,a,_,rfl,⟨ns,hS⟩,⟨by decide,by decide⟩,fun c0=>⟨_,_,rfl,rfl,(by show (0:Int)<2;decide),rfl,?_⟩⟩
 obtain⟨bm,ebm⟩:∃bm,bm=decide (V.int (c0%2)=V.int 1):=⟨_,rfl⟩
 show acG 1 (V.bl (decide (V.int (c0%2)=V.int 1))) _ _ _
 rw[←ebm]
 refine⟨_,rfl,a,_,rfl,⟨ns,hS⟩,⟨by decide,by decide⟩,fun c1=>⟨_,_,rfl,rfl,⟨by decide,by decide⟩,(by show 4<=sizeLine;decide),fun ls hls=>⟨_,rfl,c1 / 2,ls,bm,[8,64,64,6],rfl,SqL.of aaA,e4,(by decide),fun ds p H1 s1 hp hd=>?_⟩⟩⟩
 obtain⟨d0,d1,d2,d3,rfl,g0,g1,g3⟩:∃d0 d1 d2 d3:Int,ds=[d0,d1,d2,d3]/\(0<=d0/\d0<8)/\(0<=d1/\d1<64)/\0<=d3/\d3<6:=by
  cases hd with
  |cons h1 r=>cases r with | cons h2 r=>cases r with | cons h3 r=>cases r with | cons h4 r=>cases r;exact⟨_,_,_,_,rfl,h1,h2,h4⟩
 refine⟨p,_,rfl,SqL.of hp,rfl,_,_,rfl,_,_,rfl,_,_,rfl,_,_,rfl,rfl,?_⟩
 refine eTo _ _ [some (V.ref a),some (V.bl bm),some (V.int d0),some (V.int d1),some (V.int d2),some (V.int d3),none,none,none,none,none,none,none,none,none,none] _ rfl ?_
 refine⟨_,rfl,_,rfl,_,rfl,d0,d1,d2,rfl,g0.1,g1,fun pb lo hi H2 s2 hpb l0 l1 l2=>⟨pb,_,rfl,SqT.of hpb,rfl,_,_,rfl,_,_,rfl,rfl,?_⟩⟩
 refine eTo _ _ [some (V.ref a),some (V.bl bm),some (V.int d0),some (V.int d1),some (V.int d2),some (V.int d3),some (V.int lo),some (V.int hi),none,none,none,none,none,none,none,none] _ rfl ?_
 have sA:Same H H2:=(aaB hls _).trans (s1.trans s2)
 refine⟨_,rfl,_,rfl,_,rfl,_,rfl,a,ns,lo,hi,bm,rfl,sA.seq hS,hlen,⟨l0,l1,l2⟩,fun pt ws H3 s3 hpt hg hne hw40 hj3=>?_⟩
 have bn:=ae6 hg hne hw40 hj3
 refine⟨rfl,_,rfl,44,pt,ws,rfl,rfl,SqL.of hpt,(by omega),_,rfl,_,rfl,V.str (Tx (aaE 44 ws)),lo,hi,rfl,⟨by omega,by omega,by omega⟩,.inr ⟨aaE 44 ws,rfl,(by omega),(fun p' hb'=>by rw[bn] at hb';cases hb'),fun _ H4 s4=>?_⟩⟩
 have sB:=sA.trans (s3.trans s4)
 refine⟨_,rfl,a,_,rfl,⟨ns,sB.seq hS⟩,⟨by decide,by decide⟩,fun c2=>⟨(by show 5<=sizeLine;decide),fun ls hls=>⟨_,rfl,c2,ls,bm,[40,46,2,40,46],rfl,SqL.of aaA,e5,(by decide),fun ds p2 H5 s5 hp2 hd=>?_⟩⟩⟩
 obtain⟨x0,x1,x2,x3,x4,rfl⟩:∃x0 x1 x2 x3 x4:Int,ds=[x0,x1,x2,x3,x4]:=by
  cases hd with
  |cons h1 r=>cases r with | cons h2 r=>cases r with | cons h3 r=>cases r with | cons h4 r=>cases r with | cons h5 r=>cases r;exact⟨_,_,_,_,_,rfl⟩
 have s45:Same H4 H5:=(aaB hls _).trans s5
 refine⟨_,rfl,_,rfl,_,rfl,_,rfl,p2,pt,x0,x1,x2,x3,x4,lo,hi,ws,rfl,hp2,(s4.trans s45) _ _ hpt,hg,hne,hw40,hj3,⟨l0,l1,l2⟩,fun t l A H6 s6 ht rf=>⟨t,_,rfl,SqT.of ht,rfl,_,_,rfl,_,_,rfl,rfl,?_⟩⟩
 refine eTo _ _ [some (V.ref a),some (V.bl bm),some (V.int d0),some (V.int d1),some (V.int d2),some (V.int d3),some (V.int lo),some (V.int hi),some (V.ref pt),some (V.int (orM (aa9 lo hi (aaE 44 ws)))),some (V.ref p2),some (V.str (Tx l)),some (V.int A),none,none,none] _ rfl ?_
 refine⟨_,rfl,_,rfl,_,rfl,_,rfl,V.str (Tx l),lo,hi,A,rfl,⟨by omega,by omega,by omega⟩,.inr ⟨l,rfl,rf.1,rf.2⟩,fun H7 s7=>⟨_,rfl,aa2 ?_⟩⟩
 have s47:=s45.trans (s6.trans s7)
 refine⟨_,rfl,a,_,rfl,⟨ns,(sB.trans s47).seq hS⟩,⟨by decide,by decide⟩,fun c3=>⟨(by show 6<=sizeLine;decide),fun ls2 hls2=>⟨_,rfl,c3,ls2,bm,[12,64,64,3,40,46],rfl,SqL.of aaA,e6,(by decide),fun ds p3 H8 s8 hp3 hd=>?_⟩⟩⟩
 obtain⟨y0,y1,y2,y3,y4,y5,rfl,k0,k4⟩:∃y0 y1 y2 y3 y4 y5:Int,ds=[y0,y1,y2,y3,y4,y5]/\(0<=y0/\y0<12)/\0<=y4/\y4<40:=by
  cases hd with
  |cons h1 r=>cases r with | cons h2 r=>cases r with | cons h3 r=>cases r with | cons h4 r=>cases r with | cons h5 r=>cases r with | cons h6 r=>cases r;exact⟨_,_,_,_,_,_,rfl,h1,h5⟩
 refine⟨_,rfl,_,rfl,_,rfl,p3,y0,y1,y2,y3,y4,y5,lo,hi,rfl,hp3,k0,k4,⟨l0,l1,l2⟩,fun t2 l' A2 H9 s9 ht2 rf2=>⟨t2,_,rfl,SqT.of ht2,rfl,_,_,rfl,_,_,rfl,rfl,?_⟩⟩
 refine eTo _ _ [some (V.ref a),some (V.bl bm),some (V.int d0),some (V.int d1),some (V.int d2),some (V.int d3),some (V.int lo),some (V.int hi),some (V.ref pt),some (V.int (orM (aa9 lo hi (aaE 44 ws)))),some (V.ref p3),some (V.str (Tx l')),some (V.int A2),none,none,none] _ rfl ?_
 refine⟨_,rfl,_,rfl,_,rfl,_,rfl,V.str (Tx l'),lo,hi,A2,rfl,⟨by omega,by omega,by omega⟩,.inr ⟨l',rfl,rf2.1,rf2.2⟩,fun G1 r1=>⟨_,rfl,aa2 ?_⟩⟩
 have s4g:Same H4 G1:=s47.trans ((aaB hls2 _).trans (s8.trans (s9.trans r1)))
 obtain⟨fg,fl,fo⟩:=akD (lo:=lo) l0 l1 l2
 have fn:f40 (num hi.toNat)≠[]:=by unfold f40;exact fun z=>nomatch z
 have ej:aaE 44 (f40 (num hi.toNat)++[[42]])=aaE 44 (f40 (num hi.toNat))++[44,42]:=abN 44 _ [[42]] fn (by simp)
 have b40:aaW lo hi (aaE 44 (f40 (num hi.toNat))++[44,42])=some 40:=by
  rw[←ej]
  refine ag9 (fun v hv=>?_) (fun v hv=>?_) (by rw[List.length_append];show 40<40+1;decide) (by rw[ej,List.length_append];show ¬300<_+2;omega)
  ·have e:(f40 (num hi.toNat)++[[42]]).take 40=f40 (num hi.toNat):=List.take_left' rfl
   rw[e] at hv;exact (fg v hv).2
  ·rcases List.mem_append.mp hv with z | z
   ·exact (fg v z).1
   ·rw[List.mem_singleton.mp z];decide
 have nb:hi.toNat<10^500:=Nat.lt_of_lt_of_le (show hi.toNat<100 by omega) (by decide +kernel)
 refine⟨rfl,_,rfl,hi.toNat,(by rw[aaP (by omega)]),nb,(by show 1<=sizeLine;decide),fun q1 v1=>⟨q1,40,_,rfl,rfl,aaA,(by decide),(by decide),(by show 40*1<=sizeLine;decide),fun q2 v2=>⟨44,q2,f40 (num hi.toNat),rfl,rfl,SqL.of aaA,(by omega),?_⟩⟩⟩
 have sF:Same G1 (upd (upd G1 q1 (.lst [V.str (Tx (num hi.toNat))])) q2 (.lst ((f40 (num hi.toNat)).map fun w=>V.str (Tx w)))):=(aaB v1 _).trans (aaB v2 _)
 refine⟨_,rfl,_,rfl,_,rfl,V.str (Tx (aaE 44 (f40 (num hi.toNat)))),lo,hi,rfl,⟨by omega,by omega,by omega⟩,.inr ⟨aaE 44 (f40 (num hi.toNat)),rfl,(by omega),(fun p' hb'=>by rw[ae6 fg fn (by show 40<=40;decide) (by omega)] at hb';cases hb'),fun _ G2 r2=>?_⟩⟩
 refine⟨_,rfl,_,_,rfl,rfl,⟨by omega,by omega,by decide⟩,rfl,_,rfl,ao8 fo ⟨_,rfl,_,_,rfl,rfl,(by rw[sizeLine_eq];show _+2<=_;omega),_,rfl,_,rfl,V.str (Tx (aaE 44 (f40 (num hi.toNat))++[44,42])),lo,hi,40,rfl,⟨by omega,by omega,by omega⟩,.inr ⟨aaE 44 (f40 (num hi.toNat))++[44,42],rfl,(by rw[List.length_append];show _+2<=_;omega),40,b40,rfl⟩,fun G3 r3=>⟨_,rfl,aa2 ?_⟩⟩⟩
 refine⟨rfl,(by show 1<=sizeLine;decide),fun q3 v3=>⟨q3,33,_,rfl,rfl,aaA,(by decide),(by decide),(by show 33*1<=sizeLine;decide),fun q4 v4=>⟨44,q4,l33,rfl,rfl,SqL.of aaA,(by rw[acT.2.2];omega),?_⟩⟩⟩
 have sG:Same G3 (upd (upd G3 q3 (.lst [V.str (Tx [49,48,45,53,57,47,49,48])])) q4 (.lst (l33.map fun w=>V.str (Tx w)))):=(aaB v3 _).trans (aaB v4 _)
 refine⟨_,rfl,_,_,rfl,rfl,(by rw[sizeLine_eq,acT.2.2];show 296+4<=_;omega),V.str (Tx (aaE 44 l33++[44,48,45,57])),0,59,rfl,⟨by omega,by omega,by omega⟩,.inr ⟨aaE 44 l33++[44,48,45,57],rfl,(by rw[List.length_append,acT.2.2];show 296+4<=_;omega),(fun p' hb'=>by rw[ajR.1] at hb';cases hb'),fun _ G4 r4=>?_⟩⟩
 refine⟨V.str (Tx ([42,47,49,48,44,48,45,57])),0,59,rfl,⟨by omega,by omega,by omega⟩,.inr ⟨[42,47,49,48,44,48,45,57],rfl,(by decide),(fun p' hb'=>by rw[ajR.2.1] at hb';cases hb'),fun _ G5 r5=>?_⟩⟩
 refine⟨rfl,_,rfl,ao8 ajR.2.2 ?_⟩
 refine⟨_,rfl,_,_,rfl,rfl,(by rw[sizeLine_eq,acT.2.2];show 296+5<=_;omega),V.str (Tx (aaE 44 l33++[44,48,45,49,48])),0,59,0,rfl,⟨by omega,by omega,by omega⟩,.inr ⟨aaE 44 l33++[44,48,45,49,48],rfl,(by rw[List.length_append,acT.2.2];show 296+5<=_;omega),0,acT.1,rfl⟩,fun G6 r6=>⟨_,rfl,aa2 ?_⟩⟩
 refine⟨_,rfl,_,_,rfl,rfl,(by rw[sizeLine_eq,acT.2.2];show 296+5<=_;omega),V.str (Tx (aaE 44 l33++[44,48,45,57,120])),0,59,0,rfl,⟨by omega,by omega,by omega⟩,.inr ⟨aaE 44 l33++[44,48,45,57,120],rfl,(by rw[List.length_append,acT.2.2];show 296+5<=_;omega),0,acT.2.1,rfl⟩,fun G7 r7=>⟨_,rfl,aa2 ?_⟩⟩
 refine⟨(by show 1<=sizeLine;decide),fun q5 v5=>⟨q5,101,_,rfl,rfl,aaA,(by decide),(by decide),(by show 101*1<=sizeLine;decide),fun q6 v6=>?_⟩⟩
 have sH:Same G7 (upd (upd G7 q5 (.lst [V.str (Tx [49,48])])) q6 (.lst (t101.map fun w=>V.str (Tx w)))):=(aaB v5 _).trans (aaB v6 _)
 refine⟨rfl,_,rfl,44,q6,t101,rfl,rfl,SqL.of aaA,(by rw[ac2.2.2.1];omega),V.str (Tx (aaE 44 t101)),0,59,0,rfl,⟨by omega,by omega,by omega⟩,.inr ⟨aaE 44 t101,rfl,(by rw[ac2.2.2.1];omega),0,ac2.1,rfl⟩,fun G8 r8=>⟨_,rfl,aa2 ?_⟩⟩
 refine⟨rfl,(by show 2<=sizeLine;decide),fun q7 v7=>⟨_,rfl,q7,q6,_,_,rfl,rfl,aaA,(aaB v7 _) _ _ (r8 _ _ aaA),(by show 2+101<=sizeLine;decide),fun q8 v8=>⟨44,q8,[[49],[120]]++t101,rfl,rfl,SqL.of aaA,(by rw[ac2.2.2.2];omega),V.str (Tx (aaE 44 ([[49],[120]]++t101))),0,59,0,rfl,⟨by omega,by omega,by omega⟩,.inr ⟨aaE 44 ([[49],[120]]++t101),rfl,(by rw[ac2.2.2.2];omega),0,ac2.2.1,rfl⟩,fun G9 r9=>⟨_,rfl,aa2 ?_⟩⟩⟩⟩
 refine⟨(by show 1<=sizeLine;decide),fun z1 u1=>⟨(by show 1<=sizeLine;decide),fun z2 u2=>fun z3 u3=>⟨(by show 6<=sizeLine;decide),fun z4 u4=>?_⟩⟩⟩
 have w1:=aaB u1 (.lst [V.str (Tx [42])])
 have w2:=aaB u2 (.tup [V.str (Tx [42])])
 have w3:=aaB u3 (.dK [])
 have w4:=aaB u4 (.lst [V.non,.int 5,.bl true,.ref z1,.ref z2,.ref z3])
 obtain⟨v,hv,hm⟩:=ag8 (xs:=[V.non,.int 5,.bl true,.ref z1,.ref z2,.ref z3]) (i:=d3) g3.1 g3.2
 have hk:∃kd,agO K (upd (upd (upd (upd G9 z1 (.lst [V.str (Tx [42])])) z2 (.tup [V.str (Tx [42])])) z3 (.dK [])) z4 (.lst [V.non,.int 5,.bl true,.ref z1,.ref z2,.ref z3])) v kd/\kd≠ .str:=by
  simp only[List.mem_cons,List.not_mem_nil,or_false] at hm
  rcases hm with rfl | rfl | rfl | rfl | rfl | rfl
  ·exact⟨.non,rfl,fun z=>nomatch z⟩
  ·exact⟨.int,rfl,fun z=>nomatch z⟩
  ·exact⟨.bool,rfl,fun z=>nomatch z⟩
  ·exact⟨.list,.inl ⟨rfl,_,SqL.of (w4 _ _ (w3 _ _ (w2 _ _ aaA)))⟩,fun z=>nomatch z⟩
  ·exact⟨.tuple,.inr (.inl ⟨rfl,_,SqT.of (w4 _ _ (w3 _ _ aaA))⟩),fun z=>nomatch z⟩
  ·exact⟨.dict,.inr (.inr ⟨rfl,_,w4 _ _ aaA⟩),fun z=>nomatch z⟩
 obtain⟨kd,hk,nk⟩:=hk
 refine⟨_,rfl,z4,_,_,v,rfl,rfl,SqL.of aaA,hv,_,rfl,_,rfl,v,lo,hi,0,rfl,⟨by omega,by omega,by omega⟩,.inl ⟨kd,hk,nk,rfl⟩,fun J1 o1=>⟨_,rfl,aa2 ?_⟩⟩
 have sZ:Same H3 J1:=s4.trans (s4g.trans (sF.trans (r2.trans (r3.trans (sG.trans (r4.trans (r5.trans (r6.trans (r7.trans (sH.trans (r8.trans ((aaB v7 _).trans ((aaB v8 _).trans (r9.trans (w1.trans (w2.trans (w3.trans (w4.trans o1))))))))))))))))))
 refine⟨rfl,_,rfl,44,pt,ws,rfl,rfl,SqL.of (sZ _ _ hpt),(by omega),_,rfl,_,rfl,V.str (Tx (aaE 44 ws)),lo,hi,rfl,⟨by omega,by omega,by omega⟩,.inr ⟨aaE 44 ws,rfl,(by omega),(fun p' hb'=>by rw[bn] at hb';cases hb'),fun _ J2 o2=>?_⟩⟩
 refine⟨_,rfl,rfl,?_⟩
 show Q (.bl (decide (V.int _=V.int _))) _
 rw[decide_eq_true rfl]
 exact q _
end
theorem all_mk{l:PySem.W.OpenLaw}{w:World}{K:PySem.W.Frag}{h:Heap}{mg:Str->Option Value}{fa f:Addr}{C_NoField C_FieldError C_NoDay C_NoMoment C_NoRow C_NoBook C_NoClock C_NoName C_NoWord:Addr}{t_FIGURES t_MOST_STRIDE t_MOST_SIGNS t_MOST_ITEMS:Tok}{oc kV dc pm cd ct:Value}{od an:Option Addr}{sl:Array (Option Value)}(X:K.In h)(G:h.Ns mainGlobals mg)(hfa:mg "law"=some (.ref fa))(ZZ:Fs K mg C_NoField C_FieldError C_NoDay C_NoMoment C_NoRow C_NoBook C_NoClock C_NoName C_NoWord t_FIGURES t_MOST_STRIDE t_MOST_SIGNS t_MOST_ITEMS)
  (a:PySem.W.nsIn K mainGlobals "law"=some (some (.ref f))) (lk:K.lookup f=some ⟨oc,od,.func (PySem.W.fnOf "law" "law" (abD aeY) (aaS aeY) (aaD aeY) .none kV dc pm an cd ct),sl⟩) (c:PySem.W.codeIn K cd "law"=true) (k:PySem.W.keepIn K (.ref f)=true):
  ∃fd:FuncData,(∀(s:Shared) (v:Value),BindsTo s fd ⟨[v],[]⟩ [("_law_script",v)])/\∀base:Heap,K.In base->base.Ns mainGlobals mg->FnOk l.prog w K mg base CX0 9 fa fd ["_law_script"] (sp_law K):=by
 cases hfa.symm.trans (PySem.W.mg_of X G a)
 exact⟨_,fun s v=>.of_eq rfl,fun base _ _=>amH ZZ (ag5 (st:=aeY) lk c k)⟩
theorem walk{l:PySem.W.OpenLaw}{q:Program}{loose:List Str}{XP:(Str->Option Value)->Heap->Prop}{YP:World->Heap->Prop}{d:DefRec}{K:Params->PySem.W.Frag}(hn:l.most=some 63)(hdf:d.params.defaults=[])
  (hY:∀(w:World) (h:Heap),YP w h->(K w.params).In h)
  (F:∀(w:World) (mg:Str->Option Value) (fa:Addr) (h:Heap),(K w.params).In h->h.Ns mainGlobals mg->mg d.name=some (.ref fa)->
   ∃fd:FuncData,(∀(s:Shared) (u:Value),BindsTo s fd ⟨[u],[]⟩ [("_law_script",u)])/\∀base:Heap,(K w.params).In base->base.Ns mainGlobals mg->FnOk l.prog w (K w.params) mg base CX0 9 fa fd ["_law_script"] (sp_law (K w.params))):
  PySem.W.WalkO q loose XP YP l.row.toRowW d [] (fun f vs=>PySem.call f vs):=
 L2.walk_of (n:=63) (k:=9) (x:="_law_script") (CX:=fun _=>CX0) (sp:=fun w=>sp_law (K w.params)) hn (by decide) hdf ⟨rfl,by decide,by decide⟩ hY F (fun _ _ a ns hl _ hS=>⟨a,ns,rfl,hS,hl,fun _=>rfl⟩) fun _ _ _ _ _ z=>z
end K24
open PySem PySem.W PyProof.Rows
local macro_rules
  | `(tactic| o_head $H) => `(tactic| (
      refine holds_open (q := Hd.seenBy) (loose := Hd.free) (N := 5712)
        (Xt := Hd.XT)
        (XP := XL Hd.seenBy Hd.read)
        (Yf := Hook.obs $H) (Ya := Hook.val $H) (YP := Hook.says $H)
        ?hl (Hook.of $H) (Hook.keeps $H)
        (fun z y => xl_of z (Bool.and_eq_true_iff.mp y).1) XL.keeps
        (by rfl) (by rfl) (by rfl)
        (fun z y => recFacts_of (Bool.and_eq_true_iff.mp y).2)
        (by rfl) (by first | assumption | decide +kernel) (by decide +kernel)
        ⟨rfl,rfl,rfl,rfl,rfl,by decide +kernel⟩ ?hw ?hc
      (case hl =>
        refine LeftO.of_pieces Hd.opn Hd.siz Hd.run rfl ?_
        intro w
        funext os
        refine looks_pair (Hd.lk0 w os) (looks_pair (Hd.look w os) ?_)
        kernel_rfl)))
open PySem PySem.W PyProof.Rows L2
set_option maxRecDepth 100000 in
set_option maxHeartbeats 0 in
theorem PySem.Challenge.cw_fivefields_k24_first_wrong_item_holds : PySem.Challenge.rw_fivefields_k24_first_wrong_item.Holds := by
 w_on;o_law;k_head;(case hw=>w_witness2)
 k_fill
 refine K24.walk (l:=PySem.Challenge.rw_fivefields_k24_first_wrong_item) rfl rfl (fun w h Y=>PySem.W.kIn_of Y) ?F
 case F=>
  intro w mg fa h KX G hmg
  refine' K24.all_mk KX G hmg ⟨
   PySem.W.mg_of KX G ?_,
   PySem.W.mg_of KX G ?_,
   PySem.W.mg_of KX G ?_,
   PySem.W.mg_of KX G ?_,
   PySem.W.mg_of KX G ?_,
   PySem.W.mg_of KX G ?_,
   PySem.W.mg_of KX G ?_,
   PySem.W.mg_of KX G ?_,
   PySem.W.mg_of KX G ?_,
   ⟨⟨?f0_NoField,?_,?_,?_,?_,?_,?_,?_⟩,?fd_NoField,?_,?_⟩,
   ?xj0_NoField,
   ?_,
   ?rxk_NoField_FieldError,
   ?rxi_NoField,
   ?rxv_NoField,
   ?rxt_NoField,
   K24.mg_tx (x:="0123456789") KX G (by decide +kernel) ?_,
   PySem.W.mg_of KX G ?_,
   PySem.W.mg_of KX G ?_,
   PySem.W.mg_of KX G ?_,
   PySem.W.mg_none_of KX G ?_,
   PySem.W.mg_none_of KX G ?_,
   PySem.W.mg_none_of KX G ?_,
   PySem.W.mg_none_of KX G ?_,
   PySem.W.mg_none_of KX G ?_,
   PySem.W.mg_none_of KX G ?_,
   PySem.W.mg_none_of KX G ?_,
   PySem.W.mg_none_of KX G ?_,
   PySem.W.mg_none_of KX G ?_,
   PySem.W.mg_none_of KX G ?_,
   PySem.W.mg_none_of KX G ?_,
   PySem.W.mg_none_of KX G ?_,
   PySem.W.mg_none_of KX G ?_,
   aa5 KX G ?_ ?_ ?_ ?_ fun _ _ _ _ _ _ us hl=>by obtain⟨_,rfl⟩:=ah7 hl;rfl,
   aa5 KX G ?_ ?_ ?_ ?_ fun _ _ _ _ _ _ us hl=>by obtain⟨_,rfl⟩:=ah7 hl;rfl,
   aa5 KX G ?_ ?_ ?_ ?_ fun _ _ _ _ _ _ us hl=>by obtain⟨_,rfl⟩:=ah7 hl;rfl,
   aa5 KX G ?_ ?_ ?_ ?_ fun _ _ _ _ _ _ us hl=>by obtain⟨_,_,_,rfl⟩:=ad5 hl;rfl,
   aa5 KX G ?_ ?_ ?_ ?_ fun _ _ _ _ _ _ us hl=>by obtain⟨_,_,_,rfl⟩:=ad5 hl;rfl,
   aa5 KX G ?_ ?_ ?_ ?_ fun _ _ _ _ _ _ us hl=>by obtain⟨_,_,_,rfl⟩:=ad5 hl;rfl,
   aa5 KX G ?_ ?_ ?_ ?_ fun _ _ _ _ _ _ us hl=>by obtain⟨_,_,_,_,rfl⟩:=akQ hl;rfl,
   aa5 KX G ?_ ?_ ?_ ?_ fun _ _ _ _ _ _ us hl=>by obtain⟨_,_,_,rfl⟩:=ad5 hl;rfl,
   amC ?_ ?_ ?_ ?_ ?_ fun _ _ _ _ _ _ us hl=>by obtain⟨_,_,rfl⟩:=amA hl;rfl,
   aa5 KX G ?_ ?_ ?_ ?_ fun _ _ _ _ _ _ us hl=>by obtain⟨_,_,_,rfl⟩:=ad5 hl;rfl,
   aa5 KX G ?_ ?_ ?_ ?_ fun _ _ _ _ _ _ us hl=>by obtain⟨_,_,rfl⟩:=amA hl;rfl,
   aa5 KX G ?_ ?_ ?_ ?_ fun _ _ _ _ _ _ us hl=>by obtain⟨_,rfl⟩:=ah7 hl;rfl,
   aa5 KX G ?_ ?_ ?_ ?_ fun _ _ _ _ _ _ us hl=>by obtain⟨_,_,_,rfl⟩:=ad5 hl;rfl,
   aa5 KX G ?_ ?_ ?_ ?_ fun _ _ _ _ _ _ us hl=>by obtain⟨_,rfl⟩:=ah7 hl;rfl,
   aa5 KX G ?_ ?_ ?_ ?_ fun _ _ _ _ _ _ us hl=>by obtain⟨_,_,_,rfl⟩:=ad5 hl;rfl,
   aa5 KX G ?_ ?_ ?_ ?_ fun _ _ _ _ _ _ us hl=>by obtain⟨_,_,_,rfl⟩:=ad5 hl;rfl,
   aa5 KX G ?_ ?_ ?_ ?_ fun _ _ _ _ _ _ us hl=>by obtain⟨_,_,_,_,rfl⟩:=akQ hl;rfl,
   aa5 KX G ?_ ?_ ?_ ?_ fun _ _ _ _ _ _ us hl=>by obtain⟨_,_,_,rfl⟩:=ad5 hl;rfl,
   aa5 KX G ?_ ?_ ?_ ?_ fun _ _ _ _ _ _ us hl=>by obtain⟨_,_,_,_,rfl⟩:=akQ hl;rfl,
   aa5 KX G ?_ ?_ ?_ ?_ fun _ _ _ _ _ _ us hl=>by obtain⟨_,_,_,_,rfl⟩:=akQ hl;rfl,
   aa5 KX G ?_ ?_ ?_ ?_ fun _ _ _ _ _ _ us hl=>by obtain⟨_,_,_,rfl⟩:=ad5 hl;rfl⟩ ?_ ?_ ?_ ?_
  (case f0_NoField=>kernel_rfl)
  (case fd_NoField=>kernel_rfl)
  (case xj0_NoField=>kernel_rfl)
  (case rxk_NoField_FieldError=>kernel_rfl)
  (case rxi_NoField=>kernel_rfl)
  (case rxv_NoField=>kernel_rfl)
  (case rxt_NoField=>kernel_rfl)
  all_goals try k_is
