import PyProof.Rows.All
import Wide.All
import OpenK.AllK
import Wide.FinOn
import HandS.ForMost
import HandS.IsInst
import HandS.Wide
import HandS.Walk
import HandS.Flow
import HandS.AnyAll
import HandS.EndTab
import HandS.Deep
import HandS.Style
import HandS.Conv
import HandS.DictTup
import HandS.SortInts
import KE.DataCmp
import KE.SortData
import KE.BitLaws
import KE.DataFind
import PyProof.ReprRoads
import PyProof.Rows.ReprOcc
import HandS.FStr
import HandS.StrMore
import HandS.Exc
import HandS.ExcInit
import HandS.ExcIs
import HandS.ExcField
import HandS.WordsExc
import HandS.ExcValue
import HandS.SetFor
import HandS.RevRange
import HandS.GenList
import HandS.DictComp
import PyProof.SumAny
import HandS.Star
import HandS.WideBits
import KE.KeyNested
import KE.KDictKeyed
import HandS.Strs
import HandS.CallLocal
import HandS.More
import HandS.RaiseFrom
import HandS.SuiteRaise
import HandS.TryOnly
import HandS.Small
import HandS.ExcInitHot
import KE.GoesRaise
import KE.KExcIs
import PySem.Challenge.RW_packwants_k40_desk_offers
set_option Elab.async false
set_option linter.all false
set_option maxRecDepth 100000
set_option maxHeartbeats 4000000
namespace Pk
open PySem PySem.Spec PyProof.Rows L2
def topS (i : Nat) : Stmt := PySem.Challenge.pw_packwants_k40_desk_offers.main.body.getD i (.Pass ⟨0, 0, 0, 0⟩)
/-! ### heaps and plain data -/
theorem same_upd {H : Hp} {p : Addr} {o : HO} (h : H p = none) : Same H (upd H p o) := fun b x e => by
  rw [upd_ne (ne_of_none e h)]
  exact e
/-- all but a is as it was -/
def SameBut (a : Addr) (H H' : Hp) : Prop := ∀ b o, b ≠ a → H b = some o → H' b = some o
theorem SameBut.of {a : Addr} {H H' : Hp} (h : Same H H') : SameBut a H H' := fun b o _ e => h b o e
theorem SameBut.refl (a : Addr) (H : Hp) : SameBut a H H := fun _ _ _ e => e
theorem SameBut.trans {a : Addr} {H H1 H2 : Hp} (h : SameBut a H H1) (k : SameBut a H1 H2) : SameBut a H H2 := fun b o n e => k b o n (h b o n e)
theorem SameBut.upd {a : Addr} {H : Hp} {o : HO} : SameBut a H (upd H a o) := fun b x n e => by
  rw [upd_ne n]
  exact e
theorem SameBut.new {a p : Addr} {H H' : Hp} {o : HO} (h : SameBut a H H') (hp : H p = none) : SameBut a H (L2.upd H' p o) := fun b x n e => by
  rw [upd_ne (ne_of_none e hp)]
  exact h b x n e
/-- what was not there at the start may change -/
theorem sm_new {p : Addr} {H H' : Hp} {o : HO} (h : Same H H') (hp : H p = none) : Same H (L2.upd H' p o) := fun b x e => by
  rw [upd_ne (ne_of_none e hp)]
  exact h b x e
theorem SameBut.free {a p : Addr} {H H' : Hp} (h : SameBut a H H') (n : H' p = none) (ha : H' a ≠ none) : H p = none := by
  cases q : H p with
  | none => rfl
  | some o =>
    by_cases e : p = a
    · subst e
      exact absurd n ha
    · rw [h p o e q] at n
      cases n
/-- a list of ints -/
abbrev LI (ns : List Int) : HO := .lst (ns.map V.int)
theorem dpAll_ints {K : PySem.W.Frag} {H : Hp} : ∀ ns : List Int, DpAll K H (ns.map V.int) (ns.map PyData.int)
  | [] => .nil
  | n :: r => .cons (.int n) (dpAll_ints r)
theorem dp_ints {K : PySem.W.Frag} {H : Hp} {a : Addr} {ns : List Int} (h : SqL K H a (ns.map V.int)) : Dp K H (.ref a) (.list (ns.map PyData.int)) := .lst h (dpAll_ints ns)
theorem lay_ints : ∀ ns : List Int, PyData.canLayAll0 (ns.map PyData.int) = true
  | [] => by simp [PyData.canLayAll0]
  | n :: r => by
    have ih := lay_ints r
    simp [PyData.canLayAll0, PyData.canLay0, ih]
theorem depth_ints : ∀ ns : List Int, PyData.depthAll (ns.map PyData.int) = 0
  | [] => by simp [PyData.depthAll]
  | n :: r => by
    have ih := depth_ints r
    simp [PyData.depthAll, PyData.depth, ih]
theorem shaped_ints (ns : List Int) : SeqAt.shaped (.list (ns.map PyData.int)) = true := by
  unfold SeqAt.shaped
  have h1 : PyData.canLay0 (.list (ns.map PyData.int)) = true := by
    simp only [PyData.canLay0]
    exact lay_ints ns
  have h2 : PyData.depth (.list (ns.map PyData.int)) ≤ 64 := by
    simp only [PyData.depth]
    rw [depth_ints]
    omega
  rw [h1, decide_eq_true h2]
  rfl
theorem eqvAll_ints : ∀ ns ms : List Int, PyData.eqvAll (ns.map PyData.int) (ms.map PyData.int) = decide (ns = ms)
  | [], [] => by simp [PyData.eqvAll]
  | [], _ :: _ => by simp [PyData.eqvAll]
  | _ :: _, [] => by simp [PyData.eqvAll]
  | n :: r, m :: q => by
    have ih := eqvAll_ints r q
    simp only [List.map_cons, PyData.eqvAll, PyData.eqv, ih]
    by_cases h1 : n = m <;> by_cases h2 : r = q <;> simp [h1, h2]
theorem eqv_ints (ns ms : List Int) : PyData.eqv (.list (ns.map PyData.int)) (.list (ms.map PyData.int)) = decide (ns = ms) := by
  simp only [PyData.eqv]
  exact eqvAll_ints ns ms
theorem li_app (ls : List Int) (n : Int) : HO.lst (ls.map V.int ++ [.int n]) = LI (ls ++ [n]) := by
  show _ = HO.lst ((ls ++ [n]).map V.int)
  rw [List.map_append]
  rfl
theorem li_set (ls : List Int) (j : Nat) (n : Int) : HO.lst ((ls.map V.int).set j (.int n)) = LI (ls.set j n) := by
  show _ = HO.lst ((ls.set j n).map V.int)
  rw [List.map_set]
theorem at_app {H : Hp} {a : Addr} {ls : List Int} {n : Int} : upd H a (.lst (ls.map V.int ++ [.int n])) a = some (LI (ls ++ [n])) := by rw [upd_same, li_app]
theorem at_set {H : Hp} {a : Addr} {ls : List Int} {j : Nat} {n : Int} : upd H a (.lst ((ls.map V.int).set j (.int n))) a = some (LI (ls.set j n)) := by rw [upd_same, li_set]
theorem szL {n : Nat} (h : n ≤ 100000) : n ≤ sizeLine := Nat.le_trans h (by decide)
theorem szL' {n : Nat} (h : n ≤ 100000) : n < sizeLine := Nat.lt_of_le_of_lt h (by decide)
theorem get_ints {ns : List Int} {i : Nat} {n : Int} (h : ns[i]? = some n) : (ns.map V.int)[i]? = some (.int n) := by
  rw [List.getElem?_map, h]
  rfl
theorem getD_ints {ns : List Int} {i : Nat} (h : i < ns.length) : (ns.map V.int)[i]? = some (.int ns[i]) := get_ints (List.getElem?_eq_getElem h)
theorem of_get_ints {ns : List Int} {i : Nat} {v : V} (h : (ns.map V.int)[i]? = some v) : ∃ n, ns[i]? = some n ∧ v = .int n := by
  rw [List.getElem?_map] at h
  cases e : ns[i]? with
  | none => rw [e] at h; cases h
  | some n => rw [e] at h; exact ⟨n, rfl, (Option.some.inj h).symm⟩
/-- i % n as a place -/
theorem mod_at {i : Int} {n : Nat} (h : 0 < n) : ∃ j : Nat, j < n ∧ i % (n : Int) = (j : Int) := by
  have h1 : 0 ≤ i % (n : Int) := Int.emod_nonneg i (by omega)
  have h2 : i % (n : Int) < (n : Int) := Int.emod_lt_of_pos i (by omega)
  exact ⟨(i % (n : Int)).toNat, by omega, by omega⟩
theorem ixN_nat {n j : Nat} (h : j < n) : ixN n (j : Int) = some j := by
  unfold ixN
  rw [if_pos (by omega), if_pos (by omega), Int.toNat_natCast]
theorem take_succ_at {α : Type} {l : List α} {i : Nat} {x : α} (h : l[i]? = some x) : l.take (i + 1) = l.take i ++ [x] := by
  rw [List.take_add_one, h]
  rfl
/-- a def of the top: where it stands -/
structure Def (K : PySem.W.Frag) (mg : Str → Option Value) (x : Str) (st : Stmt) (ps : List Str) (f : Addr) (fd : FuncData) : Prop where
  F : Fun K x x st f fd
  g : mg x = some (.ref f)
  b : Binds K fd ps []
/-! ### rules at a written K (for a comprehension's block) -/
section
variable {X : Cx} {K : PySem.W.Frag}
theorem ix_listK (h : X.K = K) : IxR X (rIxL K) := by subst h; exact ix_list
theorem ix_tupK (h : X.K = K) : IxR X (rIxT K) := by subst h; exact ix_tup
theorem call_len_seqK (h : X.K = K) : CallR X (.builtin "len") (fun xs H Q => ∃ p ys, xs = [.ref p] ∧ (SqL K H p ys ∨ SqT K H p ys) ∧ Q (.int ys.length) H) := by subst h; exact call_len_seq
theorem op_eqDK (h : X.K = K) (hu : X.A.units + 64 < cLine) : OpR X (compareOp .Eq) (rEqD K) := by subst h; exact op_eqD hu
theorem op_neDK (h : X.K = K) (hu : X.A.units + 64 < cLine) : OpR X (compareOp .NotEq) (rNeD K) := by subst h; exact op_neD hu
theorem cr_maxK (h : X.K = K) (hc : X.calm = true) : CallR X (.builtin "max") (rMax K) := by subst h; exact cr_max hc
theorem cr_sumK (h : X.K = K) (hc : X.calm = true) : CallR X (.builtin "sum") (rSum K) := by subst h; exact cr_sum hc
theorem call_list_ofK (h : X.K = K) : CallR X (.type "list") (fun xs H Q => ∃ p ys, xs = [.ref p] ∧ (SqL K H p ys ∨ SqT K H p ys) ∧ ∀ l, H l = none → Q (.ref l) (upd H l (.lst ys))) := by subst h; exact call_list_of
theorem pi_listK {tg l : Expr} {tl : TE} (h : X.K = K) (hl : PE X l tl) : PI X tg l (iList K tl) := by subst h; exact pi_list hl
theorem pi_tupK {tg l : Expr} {tl : TE} (h : X.K = K) (hl : PE X l tl) : PI X tg l (iTup K tl) := by subst h; exact pi_tup hl
theorem pg_tupK {es : List Expr} {k : Nat} {t : TGs} {n : Nat} {pos : Pos} (hK : X.K = K) (hc : X.calm = true) (h : PGs X es t)
    (hn : (assignEach es X.env).length = n := by rfl) (hst : (assignEach es X.env).findIdx? (·.1) = none := by rfl) : PG X (.Tuple es k pos) (gTup K n t) := by subst hK; exact pg_tup hc h hn hst
end
/-! ### a statement whose ends are joined by what holds behind it -/
def tCutI (t u : TS) : TS := fun D σ H => ∃ I : L2.St → Hp → Prop, t { D with nx := I } σ H ∧ ∀ σ' H', I σ' H' → u D σ' H'
theorem pss_cutI {X : Cx} {st : Stmt} {rest : List Stmt} {t u : TS} (h1 : PS X st t) (h2 : PSs X rest u) : PSs X (st :: rest) (tCutI t u) := by
  refine ⟨fun pins s σ H D I h => ?_⟩
  obtain ⟨J, h, hJ⟩ := h
  refine wpAny_execs_cons (thn (h1.run pins s σ H { D with nx := J } I h) fun f s1 q => ?_)
  cases f with
  | next =>
    obtain ⟨σ', H', I', q⟩ := q
    exact h2.run pins s1 σ' H' D I' (hJ σ' H' q)
  | ret v => exact q
  | brk => exact q
  | cont => exact q
/-- data: lists of lists of ints -/
abbrev dRows (rs : List (List Int)) : PyData := .list (rs.map fun r => .list (r.map PyData.int))
theorem lay_rows : ∀ rs : List (List Int), PyData.canLayAll0 (rs.map fun r => .list (r.map PyData.int)) = true
  | [] => by simp [PyData.canLayAll0]
  | r :: q => by
    have ih := lay_rows q
    have h1 := lay_ints r
    simp [PyData.canLayAll0, PyData.canLay0, ih, h1]
theorem depth_rows : ∀ rs : List (List Int), PyData.depthAll (rs.map fun r => .list (r.map PyData.int)) ≤ 1
  | [] => by simp [PyData.depthAll]
  | r :: q => by
    have ih := depth_rows q
    have h1 := depth_ints r
    simp only [List.map_cons, PyData.depthAll, PyData.depth]
    omega
theorem shaped_rows (rs : List (List Int)) : SeqAt.shaped (dRows rs) = true := by
  unfold SeqAt.shaped
  have h1 : PyData.canLay0 (dRows rs) = true := by
    simp only [PyData.canLay0]
    exact lay_rows rs
  have h2 : PyData.depth (dRows rs) ≤ 64 := by
    have := depth_rows rs
    simp only [PyData.depth]
    omega
  rw [h1, decide_eq_true h2]
  rfl
theorem eqv_self {d : PyData} (h : SeqAt.shaped d = true) : PyData.eqv d d = true := SeqAt.eqv_refl d (SeqAt.canLay_of_shaped h)
/-- the built-in names that the top leaves alone, and its constants -/
structure Names (mg : Str → Option Value) : Prop where
  len : mg "len" = none
  range : mg "range" = none
  max : mg "max" = none
  list : mg "list" = none
  isinstance : mg "isinstance" = none
  int : mg "int" = none
  bool : mg "bool" = none
  enumerate : mg "enumerate" = none
  all : mg "all" = none
  zip : mg "zip" = none
  reversed : mg "reversed" = none
  sum : mg "sum" = none
  sorted : mg "sorted" = none
  tuple : mg "tuple" = none
  any : mg "any" = none
  min : mg "min" = none
  str : mg "str" = none
  abs : mg "abs" = none
  set : mg "set" = none
  c_MOST_TIERS : ∃ t, mg "MOST_TIERS" = some (.int 4 t)
  c_MOST_PIECES : ∃ t, mg "MOST_PIECES" = some (.int 12 t)
  c_FIGURES : ∃ t, mg "FIGURES" = some (.str "0123456789" t)
  c_MOST_LESSER : ∃ t, mg "MOST_LESSER" = some (.int 400 t)
  c_THING_FIGURES : ∃ t, mg "THING_FIGURES" = some (.int 1 t)
  c_PLACE_FIGURES : ∃ t, mg "PLACE_FIGURES" = some (.int 2 t)
  c_PRICE_FIGURES : ∃ t, mg "PRICE_FIGURES" = some (.int 12 t)
  c_MOST_OFFERS : ∃ t, mg "MOST_OFFERS" = some (.int 8 t)
  c_MOST_THINGS : ∃ t, mg "MOST_THINGS" = some (.int 4 t)
  c_MOST_LETTERS : ∃ t, mg "MOST_LETTERS" = some (.int 8 t)
  c_SMALL_LETTERS : ∃ t, mg "SMALL_LETTERS" = some (.str "abcdefghijklmnopqrstuvwxyz" t)
/-! ### generator expressions whose element is quiet: the def's code table may grow, all else stands -/
/-- what is no bare record is not the table -/
theorem tab_ne {X : Cx} {pins : List (Addr × Obj)} {σ : L2.St} {H1 : Hp} {s1 : Shared} {P : Addr} (I : Inv X pins σ H1 s1) (h : GxR.TabG H1 P) {b : Addr} {o : Obj} (e : s1.heap.get? b = some o) (c : o.cls ≠ .none ∨ ∀ vs, o.data ≠ .fields vs) : b ≠ P := by
  rintro rfl
  obtain ⟨ps, isTab, _⟩ := h
  have q : s1.heap.get? b = some { cls := .none, data := .fields ps } := I.hok b _ isTab
  cases q.symm.trans e
  exact c.elim (fun z => z rfl) (fun z => z _ rfl)
/-- from h2 to h3 the table at P has grown by some entries, and all else stands -/
structure Longer (P : Addr) (h2 h3 : Heap) (ps more : Array Value) : Prop where
  rest : Heap.ExtBut P h2 h3
  size : h2.objs.size ≤ h3.objs.size
  table : h3.get? P = some { cls := .none, data := .fields (ps ++ more) }
  good : TriplesOk (ps ++ more).toList
/-- the expression's own scope: the walked thing at «.0», its names, and captured ones that are cells of the def; for two names -/
structure GenS2 (sc scope : Scope) (xa xb : Str) : Prop where
  kind : scope.kind = .function
  co : scope.isCoroutine = false
  cell : ∀ y ∈ scope.names, y.2 ≠ .cell
  dot : scope.names.lookup (".0" : Str) = some NameKind.local
  la : scope.names.lookup xa = some .local
  lb : scope.names.lookup xb = some .local
  ne : xa ≠ xb
  free : ∀ y ∈ scope.names, y.2 = .free → sc.names.lookup y.1 = some .cell
/-- for one -/
structure GenS1 (sc scope : Scope) (x : Str) : Prop where
  kind : scope.kind = .function
  co : scope.isCoroutine = false
  cell : ∀ y ∈ scope.names, y.2 ≠ .cell
  dot : scope.names.lookup (".0" : Str) = some NameKind.local
  la : scope.names.lookup x = some .local
  free : ∀ y ∈ scope.names, y.2 = .free → sc.names.lookup y.1 = some .cell
/-- what is said of the thing that is walked: it was made in s1, and stands in t -/
structure Walkee (X : Cx) (pins : List (Addr × Obj)) (σ : L2.St) (H1 : Hp) (P : Addr) (fp wr : List Addr) (s1 t : Shared) : Prop where
  inv : Inv X pins σ H1 s1
  tab : GxR.TabG H1 P
  same : ∃ h n, t = { s1 with heap := h, toks := n }
  keep : ∀ b o, s1.heap.get? b = some o → t.heap.get? b = some o
  size : s1.heap.objs.size ≤ t.heap.objs.size
  low : ∀ b ∈ fp, b < t.heap.objs.size ∧ b ≠ P
  new : ∀ b ∈ wr, s1.heap.objs.size ≤ b
/-- the generator g, ready to be walked, in the state s5; F: what each turn hands out -/
def Walked (X : Cx) (pins : List (Addr × Obj)) (σ : L2.St) (H1 : Hp) (P : Addr) (n : Nat) (F : Nat → Value → Prop) (g : Addr) (s5 : Shared) : Prop :=
  ∃ (fp wr : List Addr) (G : Array GenState → Array GenState → Prop) (F' : Nat → Value → Prop) (St : Nat → Shared → Prop),
    WalksS X.prog X.w X.A.in1 g fp wr G n F' St ∧ St 0 s5 ∧ (∀ b ∈ fp, b < s5.heap.objs.size) ∧ (∀ i v, F' i v → F i v) ∧ ∀ s', Moved wr G s5 s' → ∃ H2, GxR.Tabbed P H1 H2 ∧ Inv X pins σ H2 s'
/-- what the element may lean on: the frame cenv, the depth, and a heap in which all that stood in s1 stands but for the table -/
structure Turned (X : Cx) (P : Addr) (sc : Scope) (s1 : Shared) (cenv : Env) (A' : Around) (u : Shared) : Prop where
  own : cenv.scope = sc
  cells : cenv.cells = cloFrom X.env.cells sc.names []
  glob : cenv.globals = mainGlobals
  blt : cenv.builtins = builtinsNs
  calm : A'.handled = none
  deep : A'.depth ≤ X.A.depth + 1
  units : A'.units ≤ X.A.units + 8
  still : ∀ b o, b ≠ P → s1.heap.get? b = some o → u.heap.get? b = some o
section
variable {X : Cx} {pins : List (Addr × Obj)} {σ : L2.St} {H1 : Hp} {s1 t : Shared} {c P : Addr} {fp wr : List Addr} {h2 h3 : Heap} {ps more : Array Value}
/-- the code of the expression is looked up, or laid: then the table is longer -/
theorem tab_opens {gpos : Pos} {q : Str} {scope : Scope} {t2 : Nat} {R : Value → Addr → Shared → Prop} (TB : GxR.TabB X.base X.mg c P) (code : X.env.code = .ref c) (I : Inv X pins σ H1 s1) (isTab : H1 P = some (.tbl ps)) (good : TriplesOk ps.toList)
    (keep : ∀ b o, s1.heap.get? b = some o → h2.get? b = some o) (h : ∀ cv h3 n more, Longer P h2 h3 ps more → R cv builtinsNs { s1 with heap := h3, toks := n }) :
    wpAny (model X.prog X.w) X.A (genexprCode X.env gpos q scope) (fun cv t => wpAny (model X.prog X.w) X.A (builtinsFor X.env.globals X.env.builtins) (fun bi u => R cv bi u) X.xe t) X.xe { s1 with heap := h2, toks := t2 } := by
  have table : h2.get? P = some { cls := .none, data := .fields ps } := keep P _ (I.hok P _ isTab)
  have head : PySem.W.CodeHd h2 c P := TB.code.keeps fun b o e => keep b o (I.bk b o e)
  have go : ∀ cv h3 n more, Longer P h2 h3 ps more → wpAny (model X.prog X.w) X.A (builtinsFor X.env.globals X.env.builtins) (fun bi u => R cv bi u) X.xe { s1 with heap := h3, toks := n } := by
    intro cv h3 n more L
    obtain ⟨at_, ob, given, away, _, notTab, inBase, cls, dict, plain⟩ := TB.bm
    have globals : h3.Ns X.env.globals X.mg := I.ok.glob ▸ ((I.mod.glob.keeps I.bk).keeps keep).extBut L.rest TB.gP
    exact wpAny_builtinsFor globals given away (L.rest _ _ notTab (keep _ _ (I.bk _ _ inBase))) cls dict plain (h cv h3 n more L)
  cases found : codeAmong gpos ps.toList
  · refine wpAny_genexprCodeX code (head.code table good) (head.tab table) found fun c' h' n rest below above isCode _ isTable _ => go _ h' n _ ⟨rest, Nat.le_trans below (Nat.le_of_lt above), isTable.2, ?_⟩
    obtain ⟨_, _, _, _, _, _, _, _, _, _, _, _, _, _, _, _, _, _, _, triples, _⟩ := isCode
    exact triples
  · refine wpAny_genexprCode_hit code (head.code table good) found (go _ h2 t2 #[] ⟨Heap.ExtBut.refl _ _, Nat.le_refl _, ?_, ?_⟩)
    · rw [Array.append_empty]
      exact table
    · rw [Array.append_empty]
      exact good
/-- when it has been walked: what was held is held, but for the longer table -/
theorem tab_closes {h5 : Heap} {n : Nat} {gs : GenState} {j : Nat} {wr' : List Addr} {s' : Shared} (I : Inv X pins σ H1 s1) (isTab : H1 P = some (.tbl ps)) (keep : ∀ b o, s1.heap.get? b = some o → h2.get? b = some o) (L : Longer P h2 h3 ps more)
    (bare : gs.bare = true) (on : ∀ b o, h3.get? b = some o → h5.get? b = some o) (new : ∀ b ∈ wr', s1.heap.objs.size ≤ b) (mv : Moved wr' (GenOnlyQ j) { s1 with heap := h5, gens := s1.gens.push gs, toks := n } s') : ∃ H2, GxR.Tabbed P H1 H2 ∧ Inv X pins σ H2 s' := by
  have old : ∀ {b o}, s1.heap.get? b = some o → b ∉ wr' := fun e z => Nat.lt_irrefl _ (Nat.lt_of_lt_of_le (Heap.lt_size e) (new _ z))
  have J := GxR.inv_tab (h' := s'.heap) (g' := s'.gens) (d' := s'.drawn) (t' := s'.toks) I isTab (fun b o far e => mv.heap b o (old e) (on b o (L.rest b o far (keep b o e)))) (mv.heap P _ (old (I.hok P _ isTab)) (on P _ L.table)) (AllBare.movedS (I.bare.push bare) mv)
  exact ⟨upd H1 P (.tbl (ps ++ more)), ⟨⟨_, upd_same, L.good⟩, fun _ far => upd_ne far⟩, (GxR.sh_eta s1 s' mv.os) ▸ J⟩
theorem Walkee.statics (K : Walkee X pins σ H1 P fp wr s1 t) : cStatics ≠ P ∧ cStatics ∉ wr := by
  obtain ⟨_, names, _⟩ := K.inv.nolimit
  constructor
  · rintro rfl
    obtain ⟨ps, isTab, _⟩ := K.tab
    obtain ⟨ob, _, _, there, isNs, _⟩ := names
    have q : s1.heap.get? cStatics = some { cls := .none, data := .fields ps } := K.inv.hok _ _ isTab
    cases q.symm.trans there
    cases isNs
  · exact fun z => Nat.lt_irrefl _ (Nat.lt_of_lt_of_le names.lt (K.new _ z))
/-- all that stood in s1 stands where an element is reckoned -/
theorem Walkee.turned {scope : Scope} {code : Value} {href : Heap} {A' : Around} {u : Shared} (K : Walkee X pins σ H1 P fp wr s1 t) (L : Longer P t.heap h3 ps more) (on : ∀ b o, h3.get? b = some o → href.get? b = some o) (calm : A'.handled = none) (deep : A'.depth ≤ X.A.depth + 1) (units : A'.units ≤ X.A.units + 8)
    (still : ∀ b ∈ List.range h3.objs.size, b ∉ wr → ∀ o, href.get? b = some o → u.heap.get? b = some o) : Turned X P scope s1 (genEnv scope (cloFrom X.env.cells scope.names []) h3.objs.size code builtinsNs X.env) A' u where
  own := rfl
  cells := rfl
  glob := K.inv.ok.glob
  blt := rfl
  calm := calm
  deep := deep
  units := units
  still := fun b o far e =>
    have e3 := L.rest b o far (K.keep b o e)
    still b (List.mem_range.mpr (Heap.lt_size e3)) (fun z => Nat.lt_irrefl _ (Nat.lt_of_lt_of_le (Heap.lt_size e) (K.new b z))) o (on b o e3)
/-- the made generator is ready -/
theorem Walkee.ready {n : Nat} {F : Nat → Value → Prop} {g : Addr} {h5 : Heap} {n3 n5 : Nat} {gs : GenState} {j : Nat} {wr' fp' : List Addr} {St : Nat → Shared → Prop} (K : Walkee X pins σ H1 P fp wr s1 t) (isTab : H1 P = some (.tbl ps)) (L : Longer P t.heap h3 ps more)
    (bare : gs.bare = true) (above : h3.objs.size < g) (size : h5.objs.size = g + 1) (on : ∀ b o, h3.get? b = some o → h5.get? b = some o) (hf : ∀ b ∈ fp', b = g ∨ b = h3.objs.size ∨ b < h3.objs.size) (hw : ∀ b ∈ wr', b = h3.objs.size ∨ b ∈ wr)
    (W : WalksS X.prog X.w X.A.in4 g fp' wr' (GenOnlyQ j) (passing (fun _ => true) n 0).length (fun j y => ∃ i, (passing (fun _ => true) n 0)[j]? = some i ∧ F i y) St) (st : St 0 { ({ s1 with heap := h3, toks := n3 } : Shared) with gens := s1.gens.push gs, toks := n5, heap := h5 }) :
    Walked X pins σ H1 P n F g { ({ s1 with heap := h3, toks := n3 } : Shared) with gens := s1.gens.push gs, toks := n5, heap := h5 } := by
  rw [GxR.passing_true, List.length_range] at W
  refine ⟨_, _, _, _, _, W.in4_1, st, fun b hb => ?_, fun j y hy => ?_, fun s' mv => tab_closes K.inv isTab K.keep L bare on (fun b hb => ?_) mv⟩
  · show b < h5.objs.size
    rw [size]
    rcases hf b hb with rfl | rfl | z
    · exact Nat.lt_succ_self _
    · exact Nat.lt_succ_of_lt above
    · exact Nat.lt_succ_of_lt (Nat.lt_trans z above)
  · obtain ⟨i, at_, q⟩ := hy
    obtain ⟨_, e⟩ := List.getElem?_eq_some_iff.mp at_
    rw [List.getElem_range] at e
    exact e ▸ q
  · rcases hw b hb with rfl | z
    · exact Nat.le_trans K.size L.size
    · exact K.new b z
end
section
variable {X : Cx} {pins : List (Addr × Obj)} {σ : L2.St} {H : Hp} {s : Shared} {c P : Addr} {k : Nat} {Q' : Value → Shared → Prop}
/-- (element for a, b in iter): what is walked hands out pairs; the element gives what F says -/
theorem gen_pairs {elt iter : Expr} {xa xb : Str} {pa pb pt gpos : Pos} {kt : Nat} {scope : Scope} (hr : Room k X.A) (TB : GxR.TabB X.base X.mg c P) (hcode : X.env.code = .ref c) (S : GenS2 X.env.scope scope xa xb) (hs : ∀ v, genFold iter X.env v = pure v) (I : Inv X pins σ H s)
    (h : wpAny (model X.prog X.w) X.A (eval iter X.env) (fun xv t => wpAny (model X.prog X.w) X.A (pyIter xv) (fun it t2 => ∃ (Iad : Addr) (fp wr : List Addr) (n : Nat) (Pt : Nat → Array Value → Prop) (St : Nat → Heap → Prop) (Mid : Nat → Addr → Heap → Prop) (F : Nat → Value → Prop) (q : List (Addr × Obj)) (σ1 : L2.St) (H1 : Hp) (s1 : Shared),
      it = .ref Iad ∧ Walkee X q σ1 H1 P fp wr s1 t2 ∧ (∀ A' : Around, A'.handled = none → WalksU X.prog X.w A' Iad fp wr n Pt St Mid) ∧ (∀ i vals, Pt i vals → ∃ va vb, vals = #[va, vb]) ∧ St 0 t2.heap ∧
      (∀ (cenv : Env) (A' : Around) (E' : Value → Shared → Prop) (i : Nat) (va vb : Value) (u : Shared) (m : Str → Option Value), Turned X P scope s1 cenv A' u → Pt i #[va, vb] → u.heap.Ns cenv.locals m → m xa = some va → m xb = some vb →
        wpAny (model X.prog X.w) A' (eval elt cenv) (fun y u' => F i y ∧ Keeps u u') E' u) ∧
      ∀ g s5, Walked X q σ1 H1 P n F g s5 → Q' (.ref g) s5) X.xe t) X.xe s) :
    wpAny (model X.prog X.w) X.A (eval (.GeneratorExp elt [⟨.Tuple [.Name xa pa, .Name xb pb] kt pt, iter, [], 0⟩] scope gpos) X.env) Q' X.xe s := by
  have room := hr.dp
  refine wpAny_GeneratorExp_walksQTD hr.hd S.co (closure_ok fun y hy e => I.ok.has y.1 (.inl (S.free y hy e))) S.cell S.dot S.la S.lb S.ne S.kind (by omega) (wpAny_mono h (fun xv t h => wpAny_mono h (fun it t2 h => ?_) fun _ _ e => e) fun _ _ e => e) hs
  obtain ⟨Iad, fp, wr, n, Pt, St, Mid, F, q, σ1, H1, s1, rfl, K, W, two, st, turn, out⟩ := h
  obtain ⟨ps, isTab, good⟩ := K.tab
  obtain ⟨h2, n2, rfl⟩ := K.same
  have lim : h2.NoLimit := K.inv.nolimit.keeps K.keep
  refine ⟨lim, tab_opens TB hcode K.inv isTab good K.keep fun cv h3 n3 more L => ⟨Iad, fp, wr, n, Pt, St, Mid, fun _ => true, F, rfl, W, two, (W X.A hr.hd).frame _ _ _ st fun b hb o e => L.rest b o (K.low b hb).2 e, fun b hb => Nat.lt_of_lt_of_le (K.low b hb).1 L.size, lim.extBut L.rest K.statics.1, K.statics.2, fun href on => ⟨?_, ?_⟩, ?_⟩⟩
  · intro A' E' i va vb u m _ _ _ _ _ _ _ _
    exact wpAny_pure ⟨rfl, GxR.keeps_refl _⟩
  · intro A' E' i va vb u m calm deep units at_ _ ns ma mb still
    exact turn _ A' E' i va vb u m (K.turned L on calm deep units still) at_ ns ma mb
  · intro g h5 n5 gs bare above size on W5 st5
    refine out g _ (K.ready isTab L bare above size on (fun b hb => ?_) (fun b hb => List.mem_cons.mp hb) W5 st5)
    exact (List.mem_cons.mp hb).imp_right fun z => (List.mem_cons.mp z).imp_right List.mem_range.mp
/-- (element for a in iter) -/
theorem gen_ones {elt iter : Expr} {x : Str} {px gpos : Pos} {scope : Scope} (hr : Room k X.A) (TB : GxR.TabB X.base X.mg c P) (hcode : X.env.code = .ref c) (S : GenS1 X.env.scope scope x) (hs : ∀ v, genFold iter X.env v = pure v) (I : Inv X pins σ H s)
    (h : wpAny (model X.prog X.w) X.A (eval iter X.env) (fun xv t => wpAny (model X.prog X.w) X.A (pyIter xv) (fun it t2 => ∃ (Iad : Addr) (fp wr : List Addr) (n : Nat) (Pt : Nat → Value → Prop) (St : Nat → Heap → Prop) (F : Nat → Value → Prop) (q : List (Addr × Obj)) (σ1 : L2.St) (H1 : Hp) (s1 : Shared),
      it = .ref Iad ∧ Walkee X q σ1 H1 P fp wr s1 t2 ∧ (∀ A' : Around, A'.handled = none → Walks X.prog X.w A' Iad fp wr n Pt St) ∧ St 0 t2.heap ∧
      (∀ (cenv : Env) (A' : Around) (E' : Value → Shared → Prop) (i : Nat) (va : Value) (u : Shared) (m : Str → Option Value), Turned X P scope s1 cenv A' u → Pt i va → u.heap.Ns cenv.locals m → m x = some va →
        wpAny (model X.prog X.w) A' (eval elt cenv) (fun y u' => F i y ∧ Keeps u u') E' u) ∧
      ∀ g s5, Walked X q σ1 H1 P n F g s5 → Q' (.ref g) s5) X.xe t) X.xe s) :
    wpAny (model X.prog X.w) X.A (eval (.GeneratorExp elt [⟨.Name x px, iter, [], 0⟩] scope gpos) X.env) Q' X.xe s := by
  have room := hr.dp
  refine wpAny_GeneratorExp_walksQD hr.hd S.co (closure_ok fun y hy e => I.ok.has y.1 (.inl (S.free y hy e))) S.cell S.dot S.la S.kind (by omega) (wpAny_mono h (fun xv t h => wpAny_mono h (fun it t2 h => ?_) fun _ _ e => e) fun _ _ e => e) hs
  obtain ⟨Iad, fp, wr, n, Pt, St, F, q, σ1, H1, s1, rfl, K, W, st, turn, out⟩ := h
  obtain ⟨ps, isTab, good⟩ := K.tab
  obtain ⟨h2, n2, rfl⟩ := K.same
  have lim : h2.NoLimit := K.inv.nolimit.keeps K.keep
  refine ⟨lim, tab_opens TB hcode K.inv isTab good K.keep fun cv h3 n3 more L => ⟨Iad, fp, wr, n, Pt, St, fun _ => true, F, rfl, W, (W X.A hr.hd).frame _ _ _ st fun b hb o e => L.rest b o (K.low b hb).2 e, fun b hb => Nat.lt_of_lt_of_le (K.low b hb).1 L.size, lim.extBut L.rest K.statics.1, K.statics.2, fun href on => ⟨?_, ?_⟩, ?_⟩⟩
  · intro A' E' i va u m _ _ _ _ _ _ _
    exact wpAny_pure ⟨rfl, GxR.keeps_refl _⟩
  · intro A' E' i va u m calm deep units at_ _ ns ma still
    exact turn _ A' E' i va u m (K.turned L on calm deep units still) at_ ns ma
  · intro g h5 n5 gs bare above size on W5 st5
    refine out g _ (K.ready isTab L bare above size on (fun b hb => ?_) (fun b hb => List.mem_cons.mp hb) W5 st5)
    exact (List.mem_cons.mp hb).imp_right fun z => (List.mem_cons.mp z).imp_right List.mem_range.mp
/-- a built-in function of a generator expression alone -/
theorem call_gen {b : Str} {f : String} {ge : Expr} {p pos : Pos} {R : Value → Shared → Prop} (hg : Gl X b) (hm : X.mg b = none) (hb : bootBuiltins b = some (.builtin f)) (he : starEach [ge] X.env = (false, eval ge X.env) :: starEach [] X.env) (I : Inv X pins σ H s)
    (h : wpAny (model X.prog X.w) X.A (eval ge X.env) (fun v t => wpAny (model X.prog X.w) X.A (call (.builtin f) [v]) R X.xe t) X.xe s) (hd : (b == ("__debug__" : Str)) = false := by decide) (hn : b ≠ "__name__" := by decide) :
    wpAny (model X.prog X.w) X.A (eval (.Call (.Name b p) [ge] [] pos) X.env) R X.xe s := by
  refine wpAny_Call_Name_kw (ld_blt I hg hm hb (PyProof.Rows.callWith_builtin1 ?_ he (by rfl)) hn hd)
  rw [he]
  exact Calls.spliced_cons (wpAny_mono h (fun v t h => Calls.spliced_nil h) fun _ _ e => e)
theorem truth_of {A : Around} {F' : Nat → Value → Prop} {pb : Nat → Bool} (h : ∀ i v, F' i v → v = .bool (pb i)) : TruthOf X.prog X.w A F' pb := by
  intro i v t Q E at_ q
  cases h i v at_
  exact wpAny_truthy_bool q
end
/-! ### all(test for a, b in enumerate(list)) -/
def tAllE (K : PySem.W.Frag) (P : Addr) (R : L2.St → Hp → List V → (Nat → Bool) → Prop) (te : TE) : TE := fun σ H Q => te σ H fun v H1 => ∃ (a : Addr) (xs : List V) (pb : Nat → Bool), v = .ref a ∧ SqL K H1 a xs ∧ GxR.TabG H1 P ∧ R σ H1 xs pb ∧
  ∀ H2, GxR.Tabbed P H1 H2 → Q (.bl ((List.range xs.length).all pb)) H2
/-- what the element is to do at one pair -/
def EltE (X : Cx) (P : Addr) (scope : Scope) (xa xb : Str) (elt : Expr) (R : L2.St → Hp → List V → (Nat → Bool) → Prop) : Prop :=
  ∀ (pins : List (Addr × Obj)) (σ : L2.St) (H1 : Hp) (s1 : Shared) (xs : List V) (pb : Nat → Bool), Inv X pins σ H1 s1 → GxR.TabG H1 P → R σ H1 xs pb →
    ∀ (cenv : Env) (A' : Around) (E' : Value → Shared → Prop) (i : Nat) (v : V) (va vb : Value) (s₂ : Shared) (m₂ : Str → Option Value), cenv.scope = scope → cenv.cells = cloFrom X.env.cells scope.names [] → cenv.globals = mainGlobals → cenv.builtins = builtinsNs →
      A'.handled = none → A'.depth ≤ X.A.depth + 1 → A'.units ≤ X.A.units + 8 → xs[i]? = some v → (∃ t, va = .int (i : Nat) t) → RelV v vb → s₂.heap.Ns cenv.locals m₂ → m₂ xa = some va → m₂ xb = some vb → (∀ b o, b ≠ P → s1.heap.get? b = some o → s₂.heap.get? b = some o) →
      wpAny (model X.prog X.w) A' (eval elt cenv) (fun y s₃ => y = .bool (pb i) ∧ Keeps s₂ s₃) E' s₂
section
variable {X : Cx}
theorem pe_allEnum {c P : Addr} {elt e : Expr} {xa xb : Str} {pa pb' pt p pos gpos epos ep : Pos} {kt : Nat} {scope : Scope} {te : TE} {k : Nat} {R : L2.St → Hp → List V → (Nat → Bool) → Prop}
    (hr : Room k X.A) (hg : Gl X "all") (hm : X.mg "all" = none) (hb : bootBuiltins "all" = some (.builtin "all")) (hge : Gl X "enumerate") (hme : X.mg "enumerate" = none) (TB : GxR.TabB X.base X.mg c P) (hcode : X.env.code = .ref c) (S : GenS2 X.env.scope scope xa xb) (hi : PE X e te)
    (hel : EltE X P scope xa xb elt R)
    (hs : ∀ v, genFold (.Call (.Name "enumerate" ep) [e] [] epos) X.env v = pure v := by intro _; rfl)
    (hs1 : starEach [e] X.env = [(false, eval e X.env)] := by rfl)
    (he : starEach [.GeneratorExp elt [⟨.Tuple [.Name xa pa, .Name xb pb'] kt pt, .Call (.Name "enumerate" ep) [e] [] epos, [], 0⟩] scope gpos] X.env = (false, eval (.GeneratorExp elt [⟨.Tuple [.Name xa pa, .Name xb pb'] kt pt, .Call (.Name "enumerate" ep) [e] [] epos, [], 0⟩] scope gpos) X.env) :: starEach [] X.env := by rfl) :
    PE X (.Call (.Name "all" p) [.GeneratorExp elt [⟨.Tuple [.Name xa pa, .Name xb pb'] kt pt, .Call (.Name "enumerate" ep) [e] [] epos, [], 0⟩] scope gpos] [] pos) (tAllE X.K P R te) := by
  refine ⟨fun pins s σ H Q I h => call_gen hg hm hb he I (gen_pairs hr TB hcode S hs I (Call_ (ld_blt I hge hme boot_enumerate (PyProof.Rows.callWith_type1 ?_ hs1 rfl))))⟩
  rw [hs1]
  refine Calls.spliced_cons (thn (hi.run pins s σ H _ I h) fun u0 s1 r => Calls.spliced_nil ?_)
  obtain ⟨_, H1, J, isRef, a, xs, pb, rfl, sq, tab, hR, q⟩ := r
  cases isRef
  obtain ⟨its, rv, at_, _⟩ := J.list sq
  refine call_enumerate_list at_.isList fun h' isEn isIt size keep => wpAny_pyIter_enum isEn ?_
  have la : a < s1.heap.objs.size := at_.lt
  have below : s1.heap.objs.size < h'.objs.size := isIt.elim fun _ x => Heap.lt_size x.1
  obtain ⟨oa, ea, ca, _⟩ := id at_.isList
  have aP : a ≠ P := tab_ne J tab ea (.inl fun z => by rw [ca] at z; cases z)
  have lP : P < s1.heap.objs.size := tab.elim fun _ x => Heap.lt_size (show s1.heap.get? P = _ from J.hok P _ x.1)
  have W := fun (A' : Around) (calm : A'.handled = none) => (WalksT.enumerate (prog := X.prog) (w := X.w) calm (s1.heap.objs.size + 1) s1.heap.objs.size a (Nat.succ_ne_self _) (Nat.ne_of_lt (Nat.lt_succ_of_lt la)) (Nat.ne_of_lt la) its.toArray).toU
  refine ⟨_, _, _, _, _, _, _, fun i y => y = .bool (pb i), pins, σ, H1, s1, rfl, ⟨J, tab, ⟨_, _, rfl⟩, keep, Nat.le_of_lt below, fun b hb => ?_, fun b hb => ?_⟩, W, fun i vals x => ?_, ⟨⟨_, isEn⟩, isIt, at_.isList.at fun o x => keep a o x⟩, ?_, ?_⟩
  · simp only [List.mem_cons, List.not_mem_nil, or_false] at hb
    rcases hb with rfl | rfl | rfl
    · exact ⟨Heap.lt_size isEn, Nat.ne_of_gt (Nat.lt_succ_of_lt lP)⟩
    · exact ⟨below, Nat.ne_of_gt lP⟩
    · exact ⟨Nat.lt_trans la below, aP⟩
  · simp only [List.mem_cons, List.not_mem_nil, or_false] at hb
    rcases hb with rfl | rfl
    · exact Nat.le_succ _
    · exact Nat.le_refl _
  · exact x.elim fun _ x => x.elim fun _ x => ⟨_, _, x.2⟩
  · intro cenv A' E' i va vb u m T at_ ns ma mb
    obtain ⟨t, x, hx, e'⟩ := at_
    obtain ⟨rfl, rfl⟩ : va = .int i t ∧ vb = x := by simpa using congrArg Array.toList e'
    have there : its[i]? = some vb := by simpa using hx
    obtain ⟨v, hv⟩ : ∃ v, xs[i]? = some v := ⟨_, List.getElem?_eq_getElem (rv.length.symm ▸ (List.getElem?_eq_some_iff.mp there).1)⟩
    obtain ⟨w, hw, rw_⟩ := rv.get hv
    cases there.symm.trans hw
    exact hel pins σ H1 s1 xs pb J tab hR cenv A' E' i v _ _ u m T.own T.cells T.glob T.blt T.calm T.deep T.units hv ⟨t, rfl⟩ rw_ ns ma mb T.still
  · rintro g s5 ⟨fp, wr, G, F', St, W, st, _, say, held⟩
    refine call_all_walkS (W.self 0 _ _ _ st ⟨g, fp, wr, G, _, F', St, pb, rfl, W, st, truth_of say, fun s' mv => ?_⟩)
    obtain ⟨H2, grown, J2⟩ := held s' mv
    refine ⟨.bl _, H2, J2, rfl, ?_⟩
    rw [List.size_toArray, ← rv.length]
    exact q H2 grown
end
/-! ### (element for a, b in zip(list, list)), both lists of ints -/
section
variable {X : Cx} {pins : List (Addr × Obj)} {σ : L2.St} {H : Hp} {s : Shared}
theorem gen_zip {c P : Addr} {elt e1 e2 : Expr} {xa xb : Str} {pa pb pt gpos epos ep : Pos} {kt k : Nat} {scope : Scope} {t1 t2 : TE} {C : List Int → List Int → Hp → Prop} {F : List Int → List Int → Nat → Value → Prop} {Q' : Value → Shared → Prop}
    (hr : Room k X.A) (hge : Gl X "zip") (hme : X.mg "zip" = none) (TB : GxR.TabB X.base X.mg c P) (hcode : X.env.code = .ref c) (S : GenS2 X.env.scope scope xa xb) (h1 : PE X e1 t1) (h2 : PE X e2 t2)
    (hs : ∀ v, genFold (.Call (.Name "zip" ep) [e1, e2] [] epos) X.env v = pure v) (hs1 : starEach [e1, e2] X.env = (false, eval e1 X.env) :: starEach [e2] X.env) (hs2 : starEach [e2] X.env = (false, eval e2 X.env) :: starEach [] X.env)
    (hpl : (backTo epos (starEach [e2] X.env)).any (·.1) = false) (hem : starEach [] X.env = []) (I : Inv X pins σ H s)
    (h : t1 σ H fun v H1 => t2 σ H1 fun u H2 => ∃ (a b : Addr) (ns ms : List Int), v = .ref a ∧ u = .ref b ∧ SqL X.K H2 a (ns.map V.int) ∧ SqL X.K H2 b (ms.map V.int) ∧ GxR.TabG H2 P ∧ C ns ms H2)
    (turn : ∀ ns ms H2, C ns ms H2 → ∀ (cenv : Env) (A' : Around) (E' : Value → Shared → Prop) (i : Nat) (u : Shared) (m : Str → Option Value) (li : i < ns.length) (lj : i < ms.length) (t t' : Tok), cenv.scope = scope → u.heap.Ns cenv.locals m → m xa = some (.int ns[i] t) → m xb = some (.int ms[i] t') →
      wpAny (model X.prog X.w) A' (eval elt cenv) (fun y u' => F ns ms i y ∧ Keeps u u') E' u)
    (out : ∀ ns ms H2 g s5, C ns ms H2 → Walked X pins σ H2 P (min ns.length ms.length) (F ns ms) g s5 → Q' (.ref g) s5) :
    wpAny (model X.prog X.w) X.A (eval (.GeneratorExp elt [⟨.Tuple [.Name xa pa, .Name xb pb] kt pt, .Call (.Name "zip" ep) [e1, e2] [] epos, [], 0⟩] scope gpos) X.env) Q' X.xe s := by
  refine gen_pairs hr TB hcode S hs I (Call_ (ld_blt I hge hme PyProof.Rows.boot_zip (PyProof.Rows.callWith_type1 ?_ hs1 hpl)))
  rw [hs1, hs2, hem]
  refine Calls.spliced_cons (thn (h1.run pins s σ H _ I h) fun u0 s0 r0 => ?_)
  obtain ⟨v0, H0, J0, isA, q0⟩ := r0
  refine Calls.spliced_cons (thn (h2.run pins s0 σ H0 _ J0 q0) fun u1 s1 r1 => Calls.spliced_nil ?_)
  obtain ⟨v1, H1, J, isB, a, b, ns, ms, rfl, rfl, sqa, sqb, tab, hC⟩ := r1
  cases isA
  cases isB
  obtain ⟨its, rv, atA, _⟩ := J.list sqa
  obtain ⟨jts, rw_, atB, _⟩ := J.list sqb
  have lenA : ns.length = its.length := List.length_map (f := V.int) ▸ rv.length
  have lenB : ms.length = jts.length := List.length_map (f := V.int) ▸ rw_.length
  obtain ⟨oa, ea, ca, _⟩ := id atA.isList
  obtain ⟨ob, eb, cb, _⟩ := id atB.isList
  have aP : a ≠ P := tab_ne J tab ea (.inl fun z => by rw [ca] at z; cases z)
  have bP : b ≠ P := tab_ne J tab eb (.inl fun z => by rw [cb] at z; cases z)
  have lP : P < s1.heap.objs.size := tab.elim fun _ x => Heap.lt_size (show s1.heap.get? P = _ from J.hok P _ x.1)
  refine call_zip_2 atA.isList atB.isList fun h' isZ isT isO itA itB size keep => wpAny_pyIter_zip isZ ?_
  have up : ∀ j, j < 5 → s1.heap.objs.size + j < h'.objs.size ∧ s1.heap.objs.size + j ≠ P := fun j lj => ⟨size ▸ Nat.add_lt_add_left lj _, Nat.ne_of_gt (Nat.lt_of_lt_of_le lP (Nat.le_add_right _ j))⟩
  have W := fun (A' : Around) (calm : A'.handled = none) => (WalksT.zip2 (prog := X.prog) (w := X.w) calm (s1.heap.objs.size + 4) (s1.heap.objs.size + 2) (s1.heap.objs.size + 3) s1.heap.objs.size (s1.heap.objs.size + 1) a b (PySem.W.ktu_apart s1.heap.objs.size a b atA.lt atB.lt) its.toArray jts.toArray).toU
  have grown : s1.heap.objs.size ≤ h'.objs.size := Nat.le_of_lt (up 0 (by decide)).1
  refine ⟨_, _, _, _, _, _, _, F ns ms, pins, σ, H1, s1, rfl, ⟨J, tab, ⟨_, _, rfl⟩, keep, grown, fun d hd => ?_, fun d hd => ?_⟩, W, fun i vals x => ?_, ⟨isZ, isT, ⟨_, _, isO⟩, itA, itB, atA.isList.at fun o x => keep a o x, atB.isList.at fun o x => keep b o x⟩, ?_, ?_⟩
  · simp only [List.mem_cons, List.not_mem_nil, or_false] at hd
    rcases hd with rfl | rfl | rfl | rfl | rfl | rfl | rfl
    · exact up 4 (by decide)
    · exact up 2 (by decide)
    · exact up 3 (by decide)
    · exact up 0 (by decide)
    · exact up 1 (by decide)
    · exact ⟨Nat.lt_of_lt_of_le atA.lt grown, aP⟩
    · exact ⟨Nat.lt_of_lt_of_le atB.lt grown, bP⟩
  · simp only [List.mem_cons, List.not_mem_nil, or_false] at hd
    rcases hd with rfl | rfl | rfl | rfl
    · exact Nat.le_add_right _ _
    · exact Nat.le_add_right _ _
    · exact Nat.le_refl _
    · exact Nat.le_add_right _ _
  · exact x.elim fun _ x => x.elim fun _ x => ⟨_, _, x.2.2⟩
  · intro cenv A' E' i va vb u m T at_ nsm ma mb
    obtain ⟨x, y, hx, hy, e'⟩ := at_
    obtain ⟨rfl, rfl⟩ : va = x ∧ vb = y := by simpa using congrArg Array.toList e'
    have inA : its[i]? = some va := by simpa using hx
    have inB : jts[i]? = some vb := by simpa using hy
    have li : i < ns.length := lenA ▸ (List.getElem?_eq_some_iff.mp inA).1
    have lj : i < ms.length := lenB ▸ (List.getElem?_eq_some_iff.mp inB).1
    obtain ⟨w, hw, t, rfl⟩ := rv.get (getD_ints li)
    obtain ⟨w', hw', t', rfl⟩ := rw_.get (getD_ints lj)
    cases inA.symm.trans hw
    cases inB.symm.trans hw'
    exact turn ns ms H1 hC cenv A' E' i u m li lj t t' T.own nsm ma mb
  · intro g s5 x
    rw [List.size_toArray, List.size_toArray, ← lenA, ← lenB] at x
    exact out ns ms H1 g s5 hC x
/-- both names of such an expression are read from its frame -/
theorem read_two {sc scope : Scope} {cenv : Env} {A' : Around} {E' : Value → Shared → Prop} {u : Shared} {m : Str → Option Value} {xa xb : Str} {va vb : Value} {p q : Pos} {M : Model} (S : GenS2 sc scope xa xb) (own : cenv.scope = scope) (ns : u.heap.Ns cenv.locals m) (ma : m xa = some va) (mb : m xb = some vb)
    (hda : (xa == ("__debug__" : Str)) = false) (hdb : (xb == ("__debug__" : Str)) = false) :
    (∀ {Q : Value → Shared → Prop}, Q va u → wpAny M A' (eval (.Name xa p) cenv) Q E' u) ∧ ∀ {Q : Value → Shared → Prop}, Q vb u → wpAny M A' (eval (.Name xb q) cenv) Q E' u := by
  subst own
  exact ⟨fun h => wpAny_Name (wpAny_loadName_local S.kind S.la ns ma h) hda, fun h => wpAny_Name (wpAny_loadName_local S.kind S.lb ns mb h) hdb⟩
theorem at_getD {ns : List Int} {i : Nat} (li : i < ns.length) : ns.getD i 0 = ns[i] := by
  rw [List.getD_eq_getElem?_getD, List.getElem?_eq_getElem li]
  rfl
end
/-! ### all(a < b for a, b in zip(list, list)) -/
def tAllZ (K : PySem.W.Frag) (P : Addr) (t1 t2 : TE) : TE := fun σ H Q => t1 σ H fun v H1 => t2 σ H1 fun u H2 => ∃ (a b : Addr) (ns ms : List Int), v = .ref a ∧ u = .ref b ∧ SqL K H2 a (ns.map V.int) ∧ SqL K H2 b (ms.map V.int) ∧ GxR.TabG H2 P ∧
  ∀ H3, GxR.Tabbed P H2 H3 → Q (.bl ((List.range (min ns.length ms.length)).all fun i => decide (ns.getD i 0 < ms.getD i 0))) H3
section
variable {X : Cx}
theorem pe_allZip {c P : Addr} {e1 e2 : Expr} {xa xb : Str} {pa pb' pt p pos gpos epos ep q1 q2 q3 : Pos} {kt : Nat} {scope : Scope} {t1 t2 : TE} {k : Nat}
    (hr : Room k X.A) (hg : Gl X "all") (hm : X.mg "all" = none) (hb : bootBuiltins "all" = some (.builtin "all")) (hge : Gl X "zip") (hme : X.mg "zip" = none) (TB : GxR.TabB X.base X.mg c P) (hcode : X.env.code = .ref c) (S : GenS2 X.env.scope scope xa xb) (h1 : PE X e1 t1) (h2 : PE X e2 t2)
    (hda : (xa == ("__debug__" : Str)) = false) (hdb : (xb == ("__debug__" : Str)) = false)
    (hs : ∀ v, genFold (.Call (.Name "zip" ep) [e1, e2] [] epos) X.env v = pure v := by intro _; rfl)
    (hs1 : starEach [e1, e2] X.env = (false, eval e1 X.env) :: starEach [e2] X.env := by rfl) (hs2 : starEach [e2] X.env = (false, eval e2 X.env) :: starEach [] X.env := by rfl) (hpl : (backTo epos (starEach [e2] X.env)).any (·.1) = false := by rfl)
    (he : starEach [.GeneratorExp (.Compare (.Name xa q1) [.Lt] [.Name xb q2] q3) [⟨.Tuple [.Name xa pa, .Name xb pb'] kt pt, .Call (.Name "zip" ep) [e1, e2] [] epos, [], 0⟩] scope gpos] X.env = (false, eval (.GeneratorExp (.Compare (.Name xa q1) [.Lt] [.Name xb q2] q3) [⟨.Tuple [.Name xa pa, .Name xb pb'] kt pt, .Call (.Name "zip" ep) [e1, e2] [] epos, [], 0⟩] scope gpos) X.env) :: starEach [] X.env := by rfl) :
    PE X (.Call (.Name "all" p) [.GeneratorExp (.Compare (.Name xa q1) [.Lt] [.Name xb q2] q3) [⟨.Tuple [.Name xa pa, .Name xb pb'] kt pt, .Call (.Name "zip" ep) [e1, e2] [] epos, [], 0⟩] scope gpos] [] pos) (tAllZ X.K P t1 t2) := by
  refine ⟨fun pins s σ H Q I h => call_gen hg hm hb he I (gen_zip (C := fun ns ms H2 => ∀ H3, GxR.Tabbed P H2 H3 → Q (.bl ((List.range (min ns.length ms.length)).all fun i => decide (ns.getD i 0 < ms.getD i 0))) H3) (F := fun ns ms i y => y = .bool (decide (ns.getD i 0 < ms.getD i 0)))
    hr hge hme TB hcode S h1 h2 hs hs1 hs2 hpl (by rfl) I h ?_ ?_)⟩
  · intro ns ms H2 _ cenv A' E' i u m li lj t t' own nsm ma mb
    have two := read_two (M := model X.prog X.w) (A' := A') (E' := E') (p := q1) (q := q2) S own nsm ma mb hda hdb
    refine wpAny_Compare1 (two.1 (two.2 (lt_int ⟨?_, GxR.keeps_refl _⟩))) (nomark _)
    rw [at_getD li, at_getD lj]
  · rintro ns ms H2 g s5 q ⟨fp, wr, G, F', St, W, st, _, say, held⟩
    refine call_all_walkS (W.self 0 _ _ _ st ⟨g, fp, wr, G, _, F', St, _, rfl, W, st, truth_of say, fun s' mv => ?_⟩)
    obtain ⟨H3, grown, J⟩ := held s' mv
    exact ⟨.bl _, H3, J, rfl, q H3 grown⟩
end
/-! ### all(test for x in text): a generator expression over signs -/
abbrev GenSB := GenS1
/-- all(x in y for x in e), e a text, y a text of slot i -/
def tAllIn (P : Addr) (i : Nat) (te : TE) : TE := fun σ H Q => te σ H fun v H1 => ∃ a z : Str, v = .str a ∧ σ[i]? = some (some (.str z)) ∧ GxR.TabG H1 P ∧
  ∀ H2, GxR.Tabbed P H1 H2 → Q (.bl (a.cps.toList.all fun c => decide (c ∈ z.cps.toList))) H2
section
variable {X : Cx}
theorem pe_allIn {c P : Addr} {e : Expr} {x y : Str} {i : Nat} {px p pos gpos q1 q2 q3 : Pos} {scope : Scope} {te : TE} {k : Nat}
    (hr : Room k X.A) (hg : Gl X "all") (hm : X.mg "all" = none) (hb : bootBuiltins "all" = some (.builtin "all")) (TB : GxR.TabB X.base X.mg c P) (hcode : X.env.code = .ref c) (S : GenSB X.env.scope scope x) (hi : PE X e te)
    (hN : X.N[i]? = some y) (hy1 : X.env.scope.names.lookup y = some .cell) (hy2 : scope.names.lookup y = some .free) (hcl : ∀ cc, X.env.cells.lookup y = some cc → (cloFrom X.env.cells scope.names []).lookup y = some cc)
    (hda : (x == ("__debug__" : Str)) = false) (hdb : (y == ("__debug__" : Str)) = false) (hdc : (y == ("__classdict__" : Str)) = false)
    (hs : ∀ v, genFold e X.env v = pure v := by intro _; rfl)
    (he : starEach [.GeneratorExp (.Compare (.Name x q1) [.In] [.Name y q2] q3) [⟨.Name x px, e, [], 0⟩] scope gpos] X.env = (false, eval (.GeneratorExp (.Compare (.Name x q1) [.In] [.Name y q2] q3) [⟨.Name x px, e, [], 0⟩] scope gpos) X.env) :: starEach [] X.env := by rfl) :
    PE X (.Call (.Name "all" p) [.GeneratorExp (.Compare (.Name x q1) [.In] [.Name y q2] q3) [⟨.Name x px, e, [], 0⟩] scope gpos] [] pos) (tAllIn P i te) := by
  refine ⟨fun pins s σ H Q I h => call_gen hg hm hb he I (gen_ones hr TB hcode S hs I (thn (hi.run pins s σ H _ I h) fun u0 s1 r => ?_))⟩
  obtain ⟨_, H1, J, isText, a, z, rfl, slot, tab, q⟩ := r
  obtain ⟨t, rfl⟩ := isText
  have lP : P < s1.heap.objs.size := tab.elim fun _ x => Heap.lt_size (show s1.heap.get? P = _ from J.hok P _ x.1)
  -- the captured text's cell
  obtain ⟨tz, cc, isCell, there⟩ : ∃ tz cc, X.env.cells.lookup y = some cc ∧ s1.heap.IsCell cc (some (.str z tz)) := by
    obtain ⟨_, _, seen⟩ := J.loc
    obtain ⟨u, ⟨tz, rfl⟩, plain | cell⟩ := seen i y _ hN slot (.inr (.inl hy1))
    · have no : X.env.scope.names.lookup y = some .local := plain.1
      rw [hy1] at no
      cases no
    · obtain ⟨_, cc, isCell, there⟩ := cell
      exact ⟨tz, cc, isCell, there⟩
  obtain ⟨oc, at_, isText⟩ := id there
  have cP : cc ≠ P := tab_ne J tab at_ (.inr fun vs z => by rw [isText] at z; cases z)
  refine wpAny_pyIter_str fun o St W st => ?_
  refine ⟨_, _, _, _, _, _, fun j v => v = .bool (GxR.trF (fun c => decide (c ∈ z.cps.toList)) a.cps.toList j), pins, σ, H1, s1, rfl, ⟨J, tab, ⟨_, s1.toks, rfl⟩, fun b u e => Heap.get?_push_of_some _ e, by rw [Heap.size_push]; exact Nat.le_succ _, fun b hb => ?_, fun b hb => ?_⟩, W, st, ?_, ?_⟩
  · rw [List.mem_singleton.mp hb, Heap.size_push]
    exact ⟨Nat.lt_succ_self _, Nat.ne_of_gt lP⟩
  · exact Nat.le_of_eq (List.mem_singleton.mp hb).symm
  · intro cenv A' E' j va u m T at2 ns ma
    obtain ⟨ch, tc, hch, rfl⟩ := at2
    have isSign : a.cps.toList[j]? = some ch := Array.getElem?_toList.trans hch
    have free := hcl cc isCell
    rw [← T.cells] at free
    have func : cenv.scope.kind = .function := T.own.symm ▸ S.kind
    have isLocal : cenv.kindOf x = some .local := (congrArg (fun sc : Scope => sc.names.lookup x) T.own).trans S.la
    have isFree : cenv.kindOf y = some .free := (congrArg (fun sc : Scope => sc.names.lookup y) T.own).trans hy2
    refine wpAny_Compare1 (wpAny_Name (wpAny_loadName_local func isLocal ns ma ?_) hda) rfl
    refine wpAny_Name (wpAny_loadName_free func isFree free ⟨oc, T.still _ _ cP at_, isText⟩ ?_ (hn := hdc)) hdb
    exact PyProof.Rows.in_str ⟨(congrArg Value.bool (PySem.StrLaws.found_one z ch)).trans (congrArg Value.bool (GxR.trF_some (pb := fun c => decide (c ∈ z.cps.toList)) isSign).symm), GxR.keeps_refl _⟩
  · rintro g s5 ⟨fp, wr, G, F', St, W, st, _, say, held⟩
    refine call_all_walkS (W.self 0 _ _ _ st ⟨g, fp, wr, G, _, F', St, _, rfl, W, st, truth_of say, fun s' mv => ?_⟩)
    obtain ⟨H2, grown, J2⟩ := held s' mv
    exact ⟨.bl _, H2, J2, rfl, (GxR.all_signs a _).symm ▸ q H2 grown⟩
end
/-! ### what stays where tables of code may grow -/
def Tb (T : List Addr) (H : Hp) : Prop := ∀ t ∈ T, GxR.TabG H t
structure Ext (T : List Addr) (H H' : Hp) : Prop where
  ext : ∀ b o, H b = some o → (∀ ps, o ≠ .tbl ps) → H' b = some o
  t0 : Tb T H
  t1 : Tb T H'
  free : ∀ b, H' b = none → H b = none
section
variable {T : List Addr} {H H1 H2 : Hp}
theorem Ext.refl (h : Tb T H) : Ext T H H := ⟨fun _ _ e _ => e, h, h, fun _ e => e⟩
theorem Ext.trans (a : Ext T H H1) (b : Ext T H1 H2) : Ext T H H2 := ⟨fun c o e n => b.ext c o (a.ext c o e n) n, a.t0, b.t1, fun c e => a.free c (b.free c e)⟩
theorem Ext.lst (a : Ext T H H1) {p : Addr} {xs : List V} (h : H p = some (.lst xs)) : H1 p = some (.lst xs) := a.ext _ _ h fun _ z => nomatch z
theorem Ext.tup (a : Ext T H H1) {p : Addr} {xs : List V} (h : H p = some (.tup xs)) : H1 p = some (.tup xs) := a.ext _ _ h fun _ z => nomatch z
theorem Ext.same (s : Same H H1) (h : Tb T H) : Ext T H H1 := ⟨fun b o e _ => s b o e, h, fun t ht => by
  obtain ⟨ps, h1, h2⟩ := h t ht
  exact ⟨ps, s _ _ h1, h2⟩, fun b e => s.free e⟩
theorem Ext.new (a : Ext T H H1) {p : Addr} {o : HO} (hp : H p = none) : Ext T H (upd H1 p o) := by
  refine ⟨fun b u e n => ?_, a.t0, fun t ht => ?_, fun b e => ?_⟩
  · rw [upd_ne (ne_of_none e hp)]
    exact a.ext b u e n
  · obtain ⟨ps, h1, h2⟩ := a.t1 t ht
    obtain ⟨qs, h3, _⟩ := a.t0 t ht
    exact ⟨ps, by rw [upd_ne (ne_of_none h3 hp)]; exact h1, h2⟩
  · by_cases z : b = p
    · subst z
      exact hp
    · rw [upd_ne z] at e
      exact a.free b e
theorem Ext.tabbed {t : Addr} (h : Tb T H) (x : GxR.Tabbed t H H1) (ht : t ∈ T) : Ext T H H1 := by
  refine ⟨fun b o e n => ?_, h, fun u hu => ?_, fun b e => ?_⟩
  · obtain ⟨ps, h1, _⟩ := h t ht
    rw [x.2 b (fun z => by rw [z, h1] at e; exact n ps (Option.some.inj e).symm)]
    exact e
  · by_cases z : u = t
    · rw [z]
      exact x.1
    · obtain ⟨ps, h1, h2⟩ := h u hu
      exact ⟨ps, by rw [x.2 u z]; exact h1, h2⟩
  · by_cases z : b = t
    · obtain ⟨ps, h1, _⟩ := x.1
      rw [z, h1] at e
      cases e
    · rw [x.2 b z] at e
      exact e
end
/-! ### shops -/
inductive Ofr where
  | pack (c : List Int) (p : Int)
  | many (c : List Int) (ts : List (Int × Int))
  | add (c : List Int) (p k : Int)
def Ofr.cont : Ofr → List Int
  | .pack c _ => c
  | .many c _ => c
  | .add c _ _ => c
def Ofr.word : Ofr → Str
  | .pack _ _ => "pack"
  | .many _ _ => "many"
  | .add _ _ _ => "add"
def TiersAt (H : Hp) (a : Addr) (ts : List (Int × Int)) : Prop := ∃ us : List Addr, H a = some (.lst (us.map V.ref)) ∧ us.length = ts.length ∧ ∀ (i : Nat) u (t : Int × Int), us[i]? = some u → ts[i]? = some t → H u = some (.tup [.int t.1, .int t.2])
def OfrAt (H : Hp) (a : Addr) : Ofr → Prop
  | .pack c p => ∃ b, H a = some (.tup [.str "pack", .ref b, .int p]) ∧ H b = some (LI c)
  | .many c ts => ∃ b t, H a = some (.tup [.str "many", .ref b, .ref t]) ∧ H b = some (LI c) ∧ TiersAt H t ts
  | .add c p k => ∃ b, H a = some (.tup [.str "add", .ref b, .int p, .int k]) ∧ H b = some (LI c)
def ShopAt (H : Hp) (a : Addr) (os : List Ofr) : Prop := ∃ vs : List Addr, H a = some (.lst (vs.map V.ref)) ∧ vs.length = os.length ∧ ∀ (i : Nat) v o, vs[i]? = some v → os[i]? = some o → OfrAt H v o
section
variable {T : List Addr} {H H1 : Hp} (e : Ext T H H1)
include e
theorem TiersAt.ext {a : Addr} {ts : List (Int × Int)} (h : TiersAt H a ts) : TiersAt H1 a ts := by
  obtain ⟨us, h1, h2, h3⟩ := h
  exact ⟨us, e.lst h1, h2, fun i u t a b => e.tup (h3 i u t a b)⟩
theorem OfrAt.ext {a : Addr} : ∀ {o : Ofr}, OfrAt H a o → OfrAt H1 a o
  | .pack c p, ⟨b, h1, h2⟩ => ⟨b, e.tup h1, e.lst h2⟩
  | .many c ts, ⟨b, t, h1, h2, h3⟩ => ⟨b, t, e.tup h1, e.lst h2, h3.ext e⟩
  | .add c p k, ⟨b, h1, h2⟩ => ⟨b, e.tup h1, e.lst h2⟩
theorem ShopAt.ext {a : Addr} {os : List Ofr} (h : ShopAt H a os) : ShopAt H1 a os := by
  obtain ⟨vs, h1, h2, h3⟩ := h
  exact ⟨vs, e.lst h1, h2, fun i v o a b => (h3 i v o a b).ext e⟩
end
/-- the offer's word and its content, whatever it is -/
theorem OfrAt.head {H : Hp} {a : Addr} : ∀ {o : Ofr}, OfrAt H a o → ∃ b r, H a = some (.tup (.str o.word :: .ref b :: r)) ∧ H b = some (LI o.cont)
  | .pack c p, ⟨b, h1, h2⟩ => ⟨b, _, h1, h2⟩
  | .many c ts, ⟨b, t, h1, h2, h3⟩ => ⟨b, _, h1, h2⟩
  | .add c p k, ⟨b, h1, h2⟩ => ⟨b, _, h1, h2⟩
theorem ShopAt.get {H : Hp} {a : Addr} {os : List Ofr} {vs : List Addr} (h : vs.length = os.length) {i : Nat} (hi : i < os.length) : ∃ v o, vs[i]? = some v ∧ os[i]? = some o ∧ (vs.map V.ref)[i]? = some (.ref v) := by
  refine ⟨vs[i]'(by omega), os[i], List.getElem?_eq_getElem (by omega), List.getElem?_eq_getElem hi, ?_⟩
  rw [List.getElem?_map, List.getElem?_eq_getElem (by omega)]
  rfl
structure GoodT (ts : List (Int × Int)) : Prop where
  pos : 1 ≤ ts.length
  few : ts.length ≤ 4
  one : ∀ t, ts[0]? = some t → t.1 = 1
  most : ∀ t ∈ ts, t.1 ≤ 12
  rise : ∀ (i : Nat) a b, ts[i]? = some a → ts[i + 1]? = some b → a.1 < b.1
def GoodO (os : List Ofr) (i : Nat) : Ofr → Prop
  | .pack _ _ => True
  | .many _ ts => GoodT ts
  | .add _ _ k => ∃ j : Nat, k = (j : Int) ∧ j < i ∧ ∃ c p, os[j]? = some (.pack c p)
def Good (os : List Ofr) : Prop := os.length ≤ 8 ∧ ∀ (i : Nat) o, os[i]? = some o → GoodO os i o
/-- F.ok with the code object told -/
theorem okc {P : Program} {w : World} {K : PySem.W.Frag} {mg : Str → Option Value} {base : Heap} {x qual : Str} {st : Stmt} {f c : Addr} {fd : FuncData} {N ps : List Str} {k : Nat} {sp : Sp} (F : Fun K x qual st f fd) (hc : fd.code = .ref c) (S : FnScope N ps (defScope st)) (len : ∀ vs H Q E, sp vs H Q E → vs.length = ps.length)
    (hbody : ∀ (cdv : Value) (A : Around) (outer : List Env) (s : Shared) (H : Hp) (vs : List V) (Q : VK) (E : XK), cdv = .ref c → Room k (A.deeper (envOfC qual (defScope st) s.heap.objs.size f cdv)) → sp vs H Q E →
      ∃ t, PSs (cxOf CX0 P w K mg base N qual (defScope st) f cdv A outer s H E).nox (defBody st) t ∧ t { nx := fun _ H' => Q .non H', rt := Q } (start N vs) H) : FnOk P w K mg base CX0 (k + 1) f fd ps sp := by
  obtain ⟨oc, od, kV, doc, pm, an, cdv, ct, osl, rfl, lk, hcd⟩ := F.ex
  refine fn_of lk hcd S len fun A outer s H vs Q E hr hsp => ?_
  obtain ⟨t, h, q⟩ := hbody cdv A outer s H vs Q E hc hr hsp
  exact ⟨t, h.nox, q⟩
/-- a list without its first -/
theorem cut1 (l : List V) : cutV l (some 1) none = l.drop 1 := by
  have a : HT.sIx l.length 0 (some ((1 : Nat) : Int)) = min 1 l.length := HT.sIx_nat _ _ _
  show (l.drop (HT.sIx l.length 0 (some ((1 : Nat) : Int)))).take (l.length - HT.sIx l.length 0 (some ((1 : Nat) : Int))) = l.drop 1
  rw [a]
  rcases Nat.eq_zero_or_pos l.length with z | z
  · rw [List.eq_nil_of_length_eq_zero z]
    rfl
  · rw [Nat.min_eq_left z]
    exact List.take_of_length_le (by rw [List.length_drop]; exact Nat.le_refl _)
/-! ### names_pack, good_tiers, can_stand, look -/
abbrev s_names_pack : Stmt := topS 10
abbrev N_names_pack : List Str := ["shop", "at", "place"]
theorem sc_names_pack : FnScope N_names_pack ["shop", "at"] (defScope s_names_pack) := ⟨rfl, rfl, rfl, by decide +kernel, rfl, by decide +kernel, by decide +kernel⟩

abbrev s_good_tiers : Stmt := topS 11
abbrev N_good_tiers : List Str := ["tiers", "begins", "begin", "price", "low", "high"]
theorem sc_good_tiers : FnScope N_good_tiers ["tiers"] (defScope s_good_tiers) := ⟨rfl, rfl, rfl, by decide +kernel, rfl, by decide +kernel, by decide +kernel⟩

abbrev s_can_stand : Stmt := topS 12
abbrev N_can_stand : List Str := ["shop", "at", "kind"]
theorem sc_can_stand : FnScope N_can_stand ["shop", "at"] (defScope s_can_stand) := ⟨rfl, rfl, rfl, by decide +kernel, rfl, by decide +kernel, by decide +kernel⟩

abbrev s_look : Stmt := topS 13
abbrev N_look : List Str := ["shop", "at"]
theorem sc_look : FnScope N_look ["shop"] (defScope s_look) := ⟨rfl, rfl, rfl, by decide +kernel, rfl, by decide +kernel, by decide +kernel⟩

def sp_names_pack : Sp := fun vs H Q _ => ∃ (a : Addr) (os : List Ofr) (i j : Nat) (c c' : List Int) (p p' : Int), vs = [.ref a, .int i] ∧ ShopAt H a os ∧ os[i]? = some (.add c p j) ∧ j < i ∧ os[j]? = some (.pack c' p') ∧ Q (.bl true) H
def sp_good_tiers (T : List Addr) : Sp := fun vs H Q _ => ∃ (a : Addr) (ts : List (Int × Int)), vs = [.ref a] ∧ TiersAt H a ts ∧ GoodT ts ∧ Tb T H ∧ ∀ H', Ext T H H' → Q (.bl true) H'
def sp_can_stand (T : List Addr) : Sp := fun vs H Q _ => ∃ (a : Addr) (os : List Ofr) (i : Nat), vs = [.ref a, .int i] ∧ ShopAt H a os ∧ Good os ∧ i < os.length ∧ Tb T H ∧ ∀ H', Ext T H H' → Q (.bl true) H'
def sp_look (T : List Addr) : Sp := fun vs H Q _ => ∃ (a : Addr) (os : List Ofr), vs = [.ref a] ∧ ShopAt H a os ∧ Good os ∧ Tb T H ∧ ∀ H', Ext T H H' → Q .non H'
section
variable {P : Program} {w : World} {K : PySem.W.Frag} {mg : Str → Option Value} {base : Heap} {T : List Addr}
theorem ok_names_pack {f : Addr} {fd : FuncData} {k : Nat} (D : Def K mg "names_pack" s_names_pack ["shop", "at"] f fd) : FnOk P w K mg base CX0 (k + 1) f fd ["shop", "at"] sp_names_pack := by
  refine D.F.ok sc_names_pack (fun vs H Q E h => ?_) (fun cdv A outer s H vs Q E hr h => ?_)
  · obtain ⟨a, os, i, j, c, c', p, p', rfl, _⟩ := h
    rfl
  · obtain ⟨a, os, i, j, c, c', p, p', rfl, ⟨vs, h1, h2, h3⟩, hi, hj, hp, q⟩ := h
    have li : i < os.length := (List.getElem?_eq_some_iff.mp hi).1
    obtain ⟨v, o, g1, g2, g3⟩ := ShopAt.get (H := H) (a := a) h2 li
    cases Option.some.inj (g2.symm.trans hi)
    obtain ⟨b, hb, _⟩ := h3 i v _ g1 g2
    obtain ⟨v', o', g4, g5, g6⟩ := ShopAt.get (H := H) (a := a) h2 (show j < os.length by omega)
    cases Option.some.inj (g5.symm.trans hp)
    obtain ⟨b', hb', _⟩ := h3 j v' _ g4 g5
    refine ⟨_, (pss_cons (ps_set (i := 2) sc_names_pack.nd rfl (Or.inl rfl) (pe_ix ix_tup (pe_ix ix_list (pv 0) (pv 1) (fun _ _ => rfl)) pe_int (fun _ _ => rfl)))
  (pss_one (ps_ret (pe_and (pe_chain op_le op_lt pe_int (pv 2) (pv 1)) (pe_one (pe_cmpR op_eq (pe_ix ix_tup (pe_ix ix_list (pv 0) (pv 2) (fun _ _ => rfl)) pe_int (fun _ _ => rfl)) pe_str (nomark _))))))), ?_⟩
    refine ⟨_, rfl, _, rfl, a, _, _, _, rfl, rfl, SqL.of h1, atI_nat g3, v, _, _, _, rfl, rfl, SqT.of hb, atI_nat (j := 3) rfl, ?_⟩
    refine ⟨_, rfl, _, _, rfl, rfl, true, (by show V.bl _ = V.bl _; rw [decide_eq_true (by omega)]), _, rfl, _, _, rfl, rfl, true, (by show V.bl _ = V.bl _; rw [decide_eq_true (by omega)]), ?_⟩
    refine ⟨_, rfl, _, rfl, a, _, _, _, rfl, rfl, SqL.of h1, atI_nat g6, v', _, _, _, rfl, rfl, SqT.of hb', atI_nat (j := 0) rfl, rfl, q⟩
theorem ok_good_tiers {f c t : Addr} {fd : FuncData} {k : Nat} (M : Names mg) (D : Def K mg "good_tiers" s_good_tiers ["tiers"] f fd) (hc : fd.code = .ref c) (TB : GxR.TabB base mg c t) (ht : t ∈ T) : FnOk P w K mg base CX0 (k + 1) f fd ["tiers"] (sp_good_tiers T) := by
  obtain ⟨t4, m_MOST_TIERS⟩ := M.c_MOST_TIERS
  obtain ⟨t12, m_MOST_PIECES⟩ := M.c_MOST_PIECES
  refine okc D.F hc sc_good_tiers (fun vs H Q E h => ?_) (fun cdv A outer s H vs Q E ec hr h => ?_)
  · obtain ⟨a, ts, rfl, _⟩ := h
    rfl
  · obtain ⟨a, ts, rfl, ⟨us, h1, h2, h3⟩, gd, hT, q⟩ := h
    refine ⟨_, (pss_cons (ps_setLc (i := 1) (own := [("begin", 2), ("price", 3)]) (by rfl) sc_good_tiers.nd rfl rfl (sw_true rfl rfl rfl (by decide +kernel)) (pi_list (pv 0)) (blkOk_by (own := [("begin", 2), ("price", 3)]) (N := N_good_tiers) (sc := defScope s_good_tiers) (by decide +kernel)) (fun _ _ _ _ _ => (pg_tupK (K := K) (n := 2) rfl rfl (pgs_cons (pg_name (i := 2) sc_good_tiers.nd rfl (Or.inl rfl)) (pgs_cons (pg_name (i := 3) sc_good_tiers.nd rfl (Or.inl rfl)) pgs_nil)))) (fun _ _ _ _ _ => pts_nil) (fun _ _ _ _ _ => (pv 2)))
  (pss_cons (ps_if (pt_not (pt_chain op_le op_le pe_int (pe_callB call_len_seq (by rfl) M.len (by decide +kernel) (pa_cons (pv 1) pa_nil)) (pe_glob (v := .int 4) (by rfl) m_MOST_TIERS ⟨_, rfl⟩)))
   (pss_one (ps_ret pe_bl))
   pss_nil)
  (pss_cons (ps_if (PW.pt (pw_or (pt_cmpR op_ne (pe_ix ix_list (pv 1) pe_int (fun _ _ => rfl)) pe_int (nomark _)) (pw_or1 (pt_cmpR op_gt (pe_ix ix_list (pv 1) (pe_un un_neg pe_int) (fun _ _ => rfl)) (pe_glob (v := .int 12) (by rfl) m_MOST_PIECES ⟨_, rfl⟩) (nomark _)))))
   (pss_one (ps_ret pe_bl))
   pss_nil)
  (pss_one (ps_ret (pe_allZip hr (by rfl) M.all (by decide +kernel) (by rfl) M.zip TB ec ⟨rfl, rfl, by decide +kernel, rfl, rfl, rfl, by decide, (by show ∀ y : Str × NameKind, y ∈ _ → y.2 = .free → (defScope s_good_tiers).names.lookup y.1 = some .cell; decide +kernel)⟩ (pv 1) (pe_slice sl_list (pv 1) (po_some pe_int) po_none) (by decide) (by decide))))))), ?_⟩
    have pos := gd.pos
    have few := gd.few
    refine ⟨_, rfl, a, rfl, ⟨_, SqL.of h1⟩, fun B nB => lc_list (xs := us.map V.ref) (fun i H' => Same H H' ∧ H' B = some (LI ((ts.take i).map (·.1)))) ⟨same_upd nB, upd_same⟩ (fun i H' _ hp => SqL.of (hp.1 _ _ h1)) (fun i x H1 hx hp => ?_) (fun H1 hp => ?_)⟩
    · obtain ⟨s1, hB⟩ := hp
      rw [List.getElem?_map] at hx
      cases hu : us[i]? with
      | none => rw [hu] at hx; cases hx
      | some u =>
        rw [hu] at hx
        cases Option.some.inj hx
        have hi : i < ts.length := by
          have := (List.getElem?_eq_some_iff.mp hu).1
          omega
        have gt := List.getElem?_eq_getElem hi
        refine ⟨u, _, rfl, SqT.of (s1 _ _ (h3 i u _ hu gt)), rfl, _, _, rfl, _, _, rfl, rfl, rfl, _, rfl, _, hB, szL' (by rw [List.length_map, List.length_map, List.length_take]; omega), sm_new s1 nB, ?_⟩
        rw [take_succ_at gt, List.map_append]
        exact at_app
    · obtain ⟨s1, hB⟩ := hp
      rw [List.length_map, h2, List.take_length] at hB
      generalize hbs : ts.map (·.1) = bs at hB
      have lbs : bs.length = ts.length := by rw [← hbs, List.length_map]
      have gbs : ∀ (i : Nat) t, ts[i]? = some t → bs[i]? = some t.1 := fun i t h => by rw [← hbs, List.getElem?_map, h]; rfl
      have gbs0 : ∀ i, i < bs.length → ∃ t, ts[i]? = some t ∧ bs[i]? = some t.1 := fun i hi => ⟨ts[i]'(by omega), List.getElem?_eq_getElem (by omega), gbs _ _ (List.getElem?_eq_getElem (by omega))⟩
      have hE : Ext T H H1 := .same s1 hT
      -- not 1 <= len(begins) <= MOST_TIERS
      refine ⟨_, rfl, B, _, rfl, .inl (SqL.of hB), _, _, rfl, rfl, true, (by show V.bl _ = V.bl _; rw [decide_eq_true (by rw [List.length_map]; omega)]), _, _, rfl, rfl, true, (by show V.bl _ = V.bl _; rw [decide_eq_true (by rw [List.length_map]; omega)]), ?_⟩
      -- begins[0] != 1 or begins[-1] > MOST_PIECES
      obtain ⟨x0, k1, k2⟩ := gbs0 0 (by omega)
      have e1 : x0.1 = 1 := gd.one _ k1
      refine ⟨_, rfl, B, _, _, _, rfl, rfl, SqL.of hB, atI_nat (j := 0) (get_ints k2), rfl, _, rfl, iteNS (by rw [e1]) ?_⟩
      obtain ⟨x1, k3, k4⟩ := gbs0 (bs.length - 1) (by omega)
      have hneg : atI (bs.map V.int) (-1) = some (.int x1.1) := by
        have e : bs.map V.int = (bs.map V.int).take (bs.length - 1) ++ [.int x1.1] := by
          rw [← take_succ_at (get_ints k4), show bs.length - 1 + 1 = bs.length by omega]
          exact (List.take_of_length_le (by rw [List.length_map]; exact Nat.le_refl _)).symm
        rw [e]
        exact atI_last _ _
      have hm := gd.most x1 (List.mem_of_getElem? k3)
      refine ⟨_, rfl, 1, rfl, B, _, -1, _, rfl, rfl, SqL.of hB, hneg, _, _, rfl, rfl, _, rfl, ?_⟩
      rw [decide_eq_false (by omega)]
      -- all(..)
      refine ⟨_, rfl, _, rfl, 1, rfl, B, _, rfl, SqL.of hB, fun z nz => ⟨B, z, bs, bs.drop 1, rfl, rfl, SqL.of ((same_upd nz) _ _ hB), SqL.of (by rw [upd_same]; congr 2; rw [List.map_drop]; exact cut1 _), (hE.new (s1.free nz)).t1 t ht, fun H3 t3 => ?_⟩⟩
      have all1 : ((List.range (min bs.length (bs.drop 1).length)).all fun i => decide (bs.getD i 0 < (bs.drop 1).getD i 0)) = true := by
        rw [List.all_eq_true]
        intro i hi
        have hi2 := List.mem_range.mp hi
        rw [List.length_drop] at hi2
        obtain ⟨y0, z1, z2⟩ := gbs0 i (by omega)
        obtain ⟨y1, z3, z4⟩ := gbs0 (i + 1) (by omega)
        have := gd.rise i y0 y1 z1 z3
        refine decide_eq_true ?_
        rw [List.getD_eq_getElem?_getD, z2, List.getD_eq_getElem?_getD, List.getElem?_drop, Nat.add_comm 1 i, z4]
        exact this
      rw [all1]
      exact q H3 ((hE.new (s1.free nz)).trans (.tabbed (hE.new (s1.free nz)).t1 t3 ht))
theorem ok_can_stand {f f1 f2 c t : Addr} {fd fd1 fd2 : FuncData} {k : Nat} (M : Names mg) (D : Def K mg "can_stand" s_can_stand ["shop", "at"] f fd) (D_names_pack : Def K mg "names_pack" s_names_pack ["shop", "at"] f1 fd1) (D_good_tiers : Def K mg "good_tiers" s_good_tiers ["tiers"] f2 fd2)
    (hc : fd2.code = .ref c) (TB : GxR.TabB base mg c t) (ht : t ∈ T) : FnOk P w K mg base CX0 (k + 2) f fd ["shop", "at"] (sp_can_stand T) := by
  have G_names_pack : FnOk P w K mg base CX0 (k + 1) f1 fd1 ["shop", "at"] sp_names_pack := ok_names_pack D_names_pack
  have G_good_tiers : FnOk P w K mg base CX0 (k + 1) f2 fd2 ["tiers"] (sp_good_tiers T) := ok_good_tiers M D_good_tiers hc TB ht
  refine D.F.ok sc_can_stand (fun vs H Q E h => ?_) (fun cdv A outer s H vs Q E hr h => ?_)
  · obtain ⟨a, os, i, rfl, _⟩ := h
    rfl
  · obtain ⟨a, os, i, rfl, ⟨vs, h1, h2, h3⟩, gd, hi, hT, q⟩ := h
    obtain ⟨v, o, g1, g2, g3⟩ := ShopAt.get (H := H) (a := a) h2 hi
    have ho := h3 i v o g1 g2
    have hg := gd.2 i o g2
    refine ⟨_, (pss_cons (ps_set (i := 2) sc_can_stand.nd rfl (Or.inl rfl) (pe_ix ix_tup (pe_ix ix_list (pv 0) (pv 1) (fun _ _ => rfl)) pe_int (fun _ _ => rfl)))
  (pss_cons (ps_if (pt_cmpR op_eq (pv 2) pe_str (nomark _))
   (pss_one (ps_ret (pe_call G_names_pack hr (by rfl) D_names_pack.g D_names_pack.F.kp D_names_pack.b .nil pass0 (pa_cons (pv 0) (pa_cons (pv 1) pa_nil)))))
   pss_nil)
  (pss_cons (ps_if (pt_cmpR op_eq (pv 2) pe_str (nomark _))
   (pss_one (ps_ret (pe_call G_good_tiers hr (by rfl) D_good_tiers.g D_good_tiers.F.kp D_good_tiers.b .nil pass0 (pa_cons (pe_ix ix_tup (pe_ix ix_list (pv 0) (pv 1) (fun _ _ => rfl)) pe_int (fun _ _ => rfl)) pa_nil))))
   pss_nil)
  (pss_one (ps_ret pe_bl))))), ?_⟩
    cases o with
    | pack c p =>
      obtain ⟨b, hb, _⟩ := ho
      refine ⟨_, rfl, _, rfl, a, _, _, _, rfl, rfl, SqL.of h1, atI_nat g3, v, _, _, _, rfl, rfl, SqT.of hb, atI_nat (j := 0) rfl, ?_⟩
      refine ⟨_, rfl, rfl, false, rfl, ?_⟩
      refine ⟨_, rfl, rfl, false, rfl, ?_⟩
      exact q H (.refl hT)
    | many c ts =>
      obtain ⟨b, t', hb, _, hts⟩ := ho
      refine ⟨_, rfl, _, rfl, a, _, _, _, rfl, rfl, SqL.of h1, atI_nat g3, v, _, _, _, rfl, rfl, SqT.of hb, atI_nat (j := 0) rfl, ?_⟩
      refine ⟨_, rfl, rfl, false, rfl, ?_⟩
      refine ⟨_, rfl, rfl, true, rfl, ?_⟩
      exact ⟨_, rfl, _, rfl, a, _, _, _, rfl, rfl, SqL.of h1, atI_nat g3, v, _, _, _, rfl, rfl, SqT.of hb, atI_nat (j := 2) rfl, t', ts, rfl, hts, hg, hT, q⟩
    | add c p kk =>
      obtain ⟨b, hb, _⟩ := ho
      obtain ⟨j, rfl, hj, c', p', hp⟩ := hg
      refine ⟨_, rfl, _, rfl, a, _, _, _, rfl, rfl, SqL.of h1, atI_nat g3, v, _, _, _, rfl, rfl, SqT.of hb, atI_nat (j := 0) rfl, ?_⟩
      refine ⟨_, rfl, rfl, true, rfl, ?_⟩
      exact ⟨_, rfl, _, rfl, a, os, i, j, c, c', p, p', rfl, ⟨vs, h1, h2, h3⟩, g2, hj, hp, q H (.refl hT)⟩
theorem ok_look {f f0 f1 f2 c t : Addr} {fd fd0 fd1 fd2 : FuncData} {k : Nat} (M : Names mg) (D : Def K mg "look" s_look ["shop"] f fd) (D_can_stand : Def K mg "can_stand" s_can_stand ["shop", "at"] f0 fd0) (D_names_pack : Def K mg "names_pack" s_names_pack ["shop", "at"] f1 fd1) (D_good_tiers : Def K mg "good_tiers" s_good_tiers ["tiers"] f2 fd2)
    (hc : fd2.code = .ref c) (TB : GxR.TabB base mg c t) (ht : t ∈ T) : FnOk P w K mg base CX0 (k + 3) f fd ["shop"] (sp_look T) := by
  have G_can_stand : FnOk P w K mg base CX0 (k + 2) f0 fd0 ["shop", "at"] (sp_can_stand T) := ok_can_stand M D_can_stand D_names_pack D_good_tiers hc TB ht
  refine D.F.ok sc_look (fun vs H Q E h => ?_) (fun cdv A outer s H vs Q E hr h => ?_)
  · obtain ⟨a, os, rfl, _⟩ := h
    rfl
  · obtain ⟨a, os, rfl, hS, gd, hT, q⟩ := h
    obtain ⟨vs, h1, h2, h3⟩ := id hS
    have l100 := gd.1
    refine ⟨_, (pss_one (ps_for PassesOwn.never rfl (pi_range1 (by rfl) M.range (pa_cons (pe_callB call_len_seq (by rfl) M.len (by decide +kernel) (pa_cons (pv 0) pa_nil)) pa_nil)) (pg_name (i := 1) sc_look.nd rfl (Or.inl rfl))
   (pss_one (ps_if (pt_not (pt_val (pe_call G_can_stand hr (by rfl) D_can_stand.g D_can_stand.F.kp D_can_stand.b .nil pass0 (pa_cons (pv 0) (pa_cons (pv 1) pa_nil)))))
   (pss_one ps_never)
   pss_nil)))), ?_⟩
    refine ⟨_, rfl, a, _, rfl, .inl (SqL.of h1), _, rfl, by omega, by rw [List.length_map]; omega, for_range (n := (((vs.map V.ref).length : Nat) : Int).toNat) (fun i σ H' => ∃ y1, σ = [some (.ref a), y1] ∧ Ext T H H') ⟨none, rfl, .refl hT⟩ (fun i σ H1 hi hp => ?_) (fun σ H1 hp => ?_)⟩
    · obtain ⟨y1, rfl, e1⟩ := hp
      rw [Int.toNat_natCast, List.length_map] at hi
      refine ⟨_, rfl, _, rfl, a, os, i, by show [V.ref a, V.int (0 + (i : Int))] = _; rw [Int.zero_add], hS.ext e1, gd, by omega, e1.t1, fun H2 e2 => ⟨true, rfl, ?_⟩⟩
      exact ⟨_, rfl, e1.trans e2⟩
    · obtain ⟨y1, rfl, e1⟩ := hp
      exact q H1 e1
end
/-! ### lines, as lists -/
/-- place by place -/
def Al {α : Type} (R : Addr → α → Prop) : List Addr → List α → Prop
  | [], [] => True
  | a :: as, x :: xs => R a x ∧ Al R as xs
  | _, _ => False
section
variable {α : Type} {R R' : Addr → α → Prop}
theorem Al.len : ∀ {as : List Addr} {xs : List α}, Al R as xs → as.length = xs.length
  | [], [], _ => rfl
  | [], _ :: _, h => h.elim
  | _ :: _, [], h => h.elim
  | _ :: _, _ :: _, h => by rw [List.length_cons, List.length_cons, Al.len h.2]
theorem Al.app : ∀ {as bs : List Addr} {xs ys : List α}, Al R as xs → Al R bs ys → Al R (as ++ bs) (xs ++ ys)
  | [], _, [], _, _, k => k
  | [], _, _ :: _, _, h, _ => h.elim
  | _ :: _, _, [], _, h, _ => h.elim
  | _ :: _, _, _ :: _, _, h, k => ⟨h.1, Al.app h.2 k⟩
theorem Al.imp (f : ∀ a x, R a x → R' a x) : ∀ {as : List Addr} {xs : List α}, Al R as xs → Al R' as xs
  | [], [], _ => True.intro
  | [], _ :: _, h => h.elim
  | _ :: _, [], h => h.elim
  | _ :: _, _ :: _, h => ⟨f _ _ h.1, Al.imp f h.2⟩
theorem Al.impM : ∀ {as : List Addr} {xs : List α}, (∀ a x, a ∈ as → R a x → R' a x) → Al R as xs → Al R' as xs
  | [], [], _, _ => True.intro
  | [], _ :: _, _, h => h.elim
  | _ :: _, [], _, h => h.elim
  | _ :: _, _ :: _, f, h => ⟨f _ _ List.mem_cons_self h.1, Al.impM (fun a x m => f a x (List.mem_cons_of_mem _ m)) h.2⟩
theorem Al.get : ∀ {as : List Addr} {xs : List α} {i : Nat} {a : Addr}, Al R as xs → as[i]? = some a → ∃ x, xs[i]? = some x ∧ R a x
  | [], [], _, _, _, e => by simp at e
  | [], _ :: _, _, _, h, _ => h.elim
  | _ :: _, [], _, _, h, _ => h.elim
  | _ :: _, x :: _, 0, _, h, e => by cases Option.some.inj e; exact ⟨x, rfl, h.1⟩
  | _ :: _, _ :: _, i + 1, _, h, e => Al.get (i := i) h.2 e
theorem Al.drop1 : ∀ {as : List Addr} {xs : List α}, Al R as xs → Al R (as.drop 1) xs.tail
  | [], [], _ => True.intro
  | [], _ :: _, h => h.elim
  | _ :: _, [], h => h.elim
  | _ :: _, _ :: _, h => h.2
theorem Al.one {a : Addr} {x : α} (h : R a x) : Al R [a] [x] := ⟨h, True.intro⟩
end
/-- a new list of ints, apart from C -/
def RowB (H0 H : Hp) (C : Addr) (a : Addr) (r : List Int) : Prop := H a = some (LI r) ∧ H0 a = none ∧ a ≠ C
def RowF (H0 H : Hp) (a : Addr) (r : List Int) : Prop := H a = some (LI r) ∧ H0 a = none
theorem RowB.keep {H0 H H' : Hp} {C a : Addr} {r : List Int} (s : SameBut C H H') (h : RowB H0 H C a r) : RowB H0 H' C a r := ⟨s _ _ h.2.2 h.1, h.2⟩
theorem RowF.keep {H0 H H' : Hp} {a : Addr} {r : List Int} (s : Same H H') (h : RowF H0 H a r) : RowF H0 H' a r := ⟨s _ _ h.1, h.2⟩
theorem RowB.toF {H0 H : Hp} {C a : Addr} {r : List Int} (h : RowB H0 H C a r) : RowF H0 H a r := ⟨h.1, h.2.1⟩
structure Ln where
  p : Int
  c : Int
  as : List Int
/-- a line, its tuple and its list new -/
def LineF (H0 H : Hp) (a : Addr) (l : Ln) : Prop := ∃ b, H a = some (.tup [.int l.p, .int l.c, .ref b]) ∧ H b = some (LI l.as) ∧ H0 a = none ∧ H0 b = none
def LineB (H0 H : Hp) (B : Addr) (a : Addr) (l : Ln) : Prop := ∃ b, H a = some (.tup [.int l.p, .int l.c, .ref b]) ∧ H b = some (LI l.as) ∧ H0 a = none ∧ H0 b = none ∧ a ≠ B ∧ b ≠ B
theorem LineB.keep {H0 H H' : Hp} {B a : Addr} {l : Ln} (s : SameBut B H H') (h : LineB H0 H B a l) : LineB H0 H' B a l := by
  obtain ⟨b, h1, h2, h3, h4, h5, h6⟩ := h
  exact ⟨b, s _ _ h5 h1, s _ _ h6 h2, h3, h4, h5, h6⟩
theorem LineB.toF {H0 H : Hp} {B a : Addr} {l : Ln} (h : LineB H0 H B a l) : LineF H0 H a l := by
  obtain ⟨b, h1, h2, h3, h4, _⟩ := h
  exact ⟨b, h1, h2, h3, h4⟩
theorem LineF.toB {H0 H1 H : Hp} {B a : Addr} {l : Ln} (h : LineF H1 H a l) (f : ∀ b, H1 b = none → H0 b = none) (hB : H1 B ≠ none) : LineB H0 H B a l := by
  obtain ⟨b, h1, h2, h3, h4⟩ := h
  exact ⟨b, h1, h2, f _ h3, f _ h4, fun z => hB (by rw [← z]; exact h3), fun z => hB (by rw [← z]; exact h4)⟩
def LinesF (H0 H : Hp) (q : Addr) (ls : List Ln) : Prop := ∃ as : List Addr, H q = some (.lst (as.map V.ref)) ∧ Al (LineF H0 H) as ls
def isAdd (os : List Ofr) (p : Int) (i : Nat) : Bool := match os[i]? with
  | some (.add _ _ k) => decide (k = p)
  | _ => false
def addsN (os : List Ofr) (p : Int) (n : Nat) : List Int := ((List.range n).filter (isAdd os p)).map fun (i : Nat) => (i : Int)
def addsM (os : List Ofr) (p : Int) : List Int := addsN os p os.length
theorem addsN_len (os : List Ofr) (p : Int) (n : Nat) : (addsN os p n).length ≤ n := by
  unfold addsN
  rw [List.length_map]
  exact Nat.le_trans (List.length_filter_le _ _) (by rw [List.length_range]; exact Nat.le_refl _)
theorem addsN_yes {os : List Ofr} {p : Int} {n : Nat} (h : isAdd os p n = true) : addsN os p (n + 1) = addsN os p n ++ [(n : Int)] := by
  unfold addsN
  rw [List.range_succ, List.filter_append, List.map_append]
  simp [h]
theorem addsN_no {os : List Ofr} {p : Int} {n : Nat} (h : isAdd os p n = false) : addsN os p (n + 1) = addsN os p n := by
  unfold addsN
  rw [List.range_succ, List.filter_append, List.map_append]
  simp [h]
def choicesM : List Int → List (List Int)
  | [] => [[]]
  | p :: ps => ([[]] ++ (choicesM ps).map (p :: ·)) ++ (choicesM ps).tail
theorem choicesM_len : ∀ ps : List Int, (choicesM ps).length = 2 ^ ps.length
  | [] => rfl
  | p :: ps => by
    have ih := choicesM_len ps
    have pos : 0 < 2 ^ ps.length := Nat.pow_pos (by decide)
    show (([[]] ++ (choicesM ps).map (p :: ·)) ++ (choicesM ps).tail).length = 2 ^ (ps.length + 1)
    rw [List.length_append, List.length_append, List.length_map, List.length_tail, ih, Nat.pow_succ]
    show 1 + 2 ^ ps.length + (2 ^ ps.length - 1) = _
    omega
theorem choicesM_le {ps : List Int} (h : ps.length ≤ 8) : (choicesM ps).length ≤ 256 := by
  rw [choicesM_len]
  exact Nat.le_trans (Nat.pow_le_pow_right (by decide) h) (by decide)
def linesAtM (os : List Ofr) (p : Nat) : List Ln := match os[p]? with
  | some (.pack _ _) => (choicesM (addsM os p)).map fun c => ⟨p, 1, c⟩
  | some (.many _ _) => (List.range 12).map fun i => ⟨p, 1 + (i : Nat), []⟩
  | _ => []
def linesM (os : List Ofr) : List Ln := (List.range os.length).flatMap (linesAtM os)
theorem linesAtM_len {os : List Ofr} (h : os.length ≤ 8) (p : Nat) : (linesAtM os p).length ≤ 256 := by
  unfold linesAtM
  split
  · rw [List.length_map]
    exact choicesM_le (Nat.le_trans (addsN_len _ _ _) h)
  · rw [List.length_map, List.length_range]
    decide
  · decide
theorem linesN_len {os : List Ofr} (h : os.length ≤ 8) : ∀ n : Nat, ((List.range n).flatMap (linesAtM os)).length ≤ n * 256
  | 0 => by simp
  | n + 1 => by
    have ih := linesN_len h n
    have := linesAtM_len h n
    rw [List.range_succ, List.flatMap_append, List.length_append, List.flatMap_singleton]
    omega
theorem OfrAt.same {H H' : Hp} (s : Same H H') {a : Addr} : ∀ {o : Ofr}, OfrAt H a o → OfrAt H' a o
  | .pack c p, ⟨b, h1, h2⟩ => ⟨b, s _ _ h1, s _ _ h2⟩
  | .many c ts, ⟨b, t, h1, h2, us, h3, h4, h5⟩ => ⟨b, t, s _ _ h1, s _ _ h2, us, s _ _ h3, h4, fun i u t a b => s _ _ (h5 i u t a b)⟩
  | .add c p k, ⟨b, h1, h2⟩ => ⟨b, s _ _ h1, s _ _ h2⟩
theorem ShopAt.same {H H' : Hp} (s : Same H H') {a : Addr} {os : List Ofr} (h : ShopAt H a os) : ShopAt H' a os := by
  obtain ⟨vs, h1, h2, h3⟩ := h
  exact ⟨vs, s _ _ h1, h2, fun i v o a b => (h3 i v o a b).same s⟩
/-! ### adds_to, choices -/
abbrev s_adds_to : Stmt := topS 14
abbrev N_adds_to : List Str := ["shop", "place", "at", "offer"]
theorem sc_adds_to : FnScope N_adds_to ["shop", "place"] (defScope s_adds_to) := ⟨rfl, rfl, rfl, by decide +kernel, rfl, by decide +kernel, by decide +kernel⟩

abbrev s_choices : Stmt := topS 15
abbrev N_choices : List Str := ["places", "told", "place", "chosen"]
theorem sc_choices : FnScope N_choices ["places"] (defScope s_choices) := ⟨rfl, rfl, rfl, by decide +kernel, rfl, by decide +kernel, by decide +kernel⟩

abbrev s_lines_at : Stmt := topS 16
abbrev N_lines_at : List Str := ["shop", "place", "kind", "adds", "count"]
theorem sc_lines_at : FnScope N_lines_at ["shop", "place"] (defScope s_lines_at) := ⟨rfl, rfl, rfl, by decide +kernel, rfl, by decide +kernel, by decide +kernel⟩

abbrev s_lines : Stmt := topS 17
abbrev N_lines : List Str := ["shop", "place", "line"]
theorem sc_lines : FnScope N_lines ["shop"] (defScope s_lines) := ⟨rfl, rfl, rfl, by decide +kernel, rfl, by decide +kernel, by decide +kernel⟩

def sp_adds_to : Sp := fun vs H Q _ => ∃ (a : Addr) (os : List Ofr) (p : Nat), vs = [.ref a, .int p] ∧ ShopAt H a os ∧ os.length ≤ 8 ∧ ∀ H' q, Same H H' → H q = none → H' q = some (LI (addsM os p)) → Q (.ref q) H'
def sp_choices : Sp := fun vs H Q _ => ∃ (a : Addr) (ps : List Int), vs = [.ref a] ∧ H a = some (LI ps) ∧ ps.length ≤ 8 ∧ ∀ H' q (as : List Addr), Same H H' → H q = none → H' q = some (.lst (as.map V.ref)) → Al (RowF H H') as (choicesM ps) → Q (.ref q) H'
def sp_lines_at : Sp := fun vs H Q _ => ∃ (a : Addr) (os : List Ofr) (p : Nat), vs = [.ref a, .int p] ∧ ShopAt H a os ∧ os.length ≤ 8 ∧ p < os.length ∧ ∀ H' q, Same H H' → H q = none → LinesF H H' q (linesAtM os p) → Q (.ref q) H'
def sp_lines (T : List Addr) : Sp := fun vs H Q _ => ∃ (a : Addr) (os : List Ofr), vs = [.ref a] ∧ ShopAt H a os ∧ Good os ∧ Tb T H ∧ ∀ H' q, Ext T H H' → H q = none → LinesF H H' q (linesM os) → Q (.ref q) H'
section
variable {P : Program} {w : World} {K : PySem.W.Frag} {mg : Str → Option Value} {base : Heap} {T : List Addr}
theorem ok_adds_to {f : Addr} {fd : FuncData} {k : Nat} (M : Names mg) (D : Def K mg "adds_to" s_adds_to ["shop", "place"] f fd) : FnOk P w K mg base CX0 (k + 1) f fd ["shop", "place"] sp_adds_to := by
  refine D.F.ok sc_adds_to (fun vs H Q E h => ?_) (fun cdv A outer s H vs Q E hr h => ?_)
  · obtain ⟨a, os, p, rfl, _⟩ := h
    rfl
  · obtain ⟨a, os, p, rfl, ⟨vs, h1, h2, h3⟩, h8, q⟩ := h
    refine ⟨_, (pss_one (ps_ret (pe_lc (own := [("at", 2), ("offer", 3)]) (by rfl) sc_adds_to.nd (pi_enum (by rfl) M.enumerate (pa_cons (pv 0) pa_nil)) (blkOk_by (own := [("at", 2), ("offer", 3)]) (N := N_adds_to) (sc := defScope s_adds_to) (by decide +kernel)) (fun _ _ _ _ _ => (pg_tupK (K := K) (n := 2) rfl rfl (pgs_cons (pg_name (i := 2) sc_adds_to.nd rfl (Or.inl rfl)) (pgs_cons (pg_name (i := 3) sc_adds_to.nd rfl (Or.inl rfl)) pgs_nil)))) (fun _ _ _ _ _ => (pts_one (PW.pt (pw_and (pt_cmpR op_eq (pe_ix (ix_tupK (K := K) rfl) (pv 3) pe_int (fun _ _ => rfl)) pe_str (nomark _)) (pw_and1 (pt_cmpR op_eq (pe_ix (ix_tupK (K := K) rfl) (pv 3) pe_int (fun _ _ => rfl)) (pv 1) (nomark _))))))) (fun _ _ _ _ _ => (pv 2))))), ?_⟩
    refine ⟨_, rfl, a, _, rfl, SqL.of h1, fun B nB => lc_it (walk_enum (xs := vs.map V.ref)) (fun i H' => Same H H' ∧ H' B = some (LI (addsN os p i))) ⟨same_upd nB, upd_same⟩ (fun i H' _ hp => SqL.of (hp.1 _ _ h1)) (fun i x H1 H2 hi hp hy => ?_) (fun H1 hp => ?_)⟩
    · obtain ⟨s1, hB⟩ := hp
      obtain ⟨Tt, x1, x2, rfl, nT, rfl, e1, e2⟩ := hy
      cases Option.some.inj e1
      rw [List.length_map] at hi
      obtain ⟨v, o, g1, g2, g3⟩ := ShopAt.get (H := H) (a := a) h2 (show i < os.length by omega)
      have e2' : (vs.map V.ref)[i]? = some x2 := e2
      rw [g3] at e2'
      cases Option.some.inj e2'
      have s2 : Same H (upd H1 Tt (.tup [.int (i : Nat), .ref v])) := s1.trans (same_upd nT)
      have hB2 : upd H1 Tt (.tup [.int (i : Nat), .ref v]) B = some (LI (addsN os p i)) := (same_upd nT) _ _ hB
      have ho := (h3 i v o g1 g2).same s2
      have nlen := addsN_len os p i
      cases o with
      | pack c pr =>
        obtain ⟨b, hb, _⟩ := ho
        have hn : isAdd os p i = false := by unfold isAdd; rw [g2]
        refine ⟨Tt, _, rfl, SqT.of upd_same, rfl, _, _, rfl, _, _, rfl, rfl, rfl, _, rfl, v, _, _, _, rfl, rfl, SqT.of hb, atI_nat (j := 0) rfl, rfl, false, rfl, ?_⟩
        exact ⟨s2, by rw [addsN_no hn]; exact hB2⟩
      | many c ts =>
        obtain ⟨b, t', hb, _⟩ := ho
        have hn : isAdd os p i = false := by unfold isAdd; rw [g2]
        refine ⟨Tt, _, rfl, SqT.of upd_same, rfl, _, _, rfl, _, _, rfl, rfl, rfl, _, rfl, v, _, _, _, rfl, rfl, SqT.of hb, atI_nat (j := 0) rfl, rfl, false, rfl, ?_⟩
        exact ⟨s2, by rw [addsN_no hn]; exact hB2⟩
      | add c pr kk =>
        obtain ⟨b, hb, _⟩ := ho
        refine ⟨Tt, _, rfl, SqT.of upd_same, rfl, _, _, rfl, _, _, rfl, rfl, rfl, _, rfl, v, _, _, _, rfl, rfl, SqT.of hb, atI_nat (j := 0) rfl, rfl, true, rfl, ?_⟩
        refine ⟨_, rfl, v, _, _, _, rfl, rfl, SqT.of hb, atI_nat (j := 3) rfl, _, rfl, rfl, _, rfl, ite2 (fun c => ?_) (fun c => ?_)⟩
        · have ek : kk = (p : Int) := V.int.inj (of_decide_eq_true c)
          have hn : isAdd os p i = true := by unfold isAdd; rw [g2]; exact decide_eq_true ek
          refine ⟨_, rfl, _, hB2, szL' (by rw [List.length_map]; omega), sm_new s2 nB, ?_⟩
          rw [addsN_yes hn]
          exact at_app
        · have hn : isAdd os p i = false := by unfold isAdd; rw [g2]; exact decide_eq_false fun z => c (decide_eq_true (by rw [z]))
          exact ⟨s2, by rw [addsN_no hn]; exact hB2⟩
    · obtain ⟨s1, hB⟩ := hp
      rw [List.length_map, h2] at hB
      exact q H1 B s1 nB hB
theorem ok_choices {f : Addr} {fd : FuncData} {k : Nat} (M : Names mg) (D : Def K mg "choices" s_choices ["places"] f fd) : FnOk P w K mg base CX0 (k + 1) f fd ["places"] sp_choices := by
  refine D.F.ok sc_choices (fun vs H Q E h => ?_) (fun cdv A outer s H vs Q E hr h => ?_)
  · obtain ⟨a, ps, rfl, _⟩ := h
    rfl
  · obtain ⟨a, ps, rfl, ha, h8, q⟩ := h
    refine ⟨_, (pss_cons (ps_set (i := 1) sc_choices.nd rfl (Or.inl rfl) (pe_lst (pa_cons (pe_lst pa_nil) pa_nil)))
  (pss_cons (ps_for PassesOwn.never rfl (pi_reversed (by rfl) M.reversed (pa_cons (pv 0) pa_nil)) (pg_name (i := 2) sc_choices.nd rfl (Or.inr rfl))
   (pss_one (ps_set (i := 1) sc_choices.nd rfl (Or.inl rfl) (pe_op op_cat (pe_op op_cat (pe_lst (pa_cons (pe_lst pa_nil) pa_nil)) (pe_lc (own := [("chosen", 3)]) (by rfl) sc_choices.nd (pi_list (pv 1)) (blkOk_by (own := [("chosen", 3)]) (N := N_choices) (sc := defScope s_choices) (by decide +kernel)) (fun _ _ _ _ _ => (pg_name (i := 3) sc_choices.nd rfl (Or.inl rfl))) (fun _ _ _ _ _ => pts_nil) (fun _ _ _ _ _ => (pe_op op_cat (pe_lst (pa_cons (pv 2) pa_nil)) (pv 3))))) (pe_slice sl_list (pv 1) (po_some pe_int) po_none)))))
  (pss_one (ps_ret (pv 1))))), ?_⟩
    refine ⟨Nat.zero_le _, fun z nz => ⟨by show 1 ≤ sizeLine; decide, fun t nt => ?_⟩⟩
    have nzt : z ≠ t := ne_of_none upd_same nt
    have s0 : Same H (upd (upd H z (.lst [])) t (.lst [.ref z])) := (same_upd nz).trans (same_upd nt)
    refine ⟨_, rfl, a, _, rfl, SqL.of (s0 _ _ ha), for_it (walk_rev (xs := ps.map V.int)) (fun i σ H' => ∃ t y2 as, σ = [some (.ref a), some (.ref t), y2, none] ∧ Same H H' ∧ H t = none ∧ H' t = some (.lst (as.map V.ref)) ∧ Al (RowF H H') as (choicesM (ps.drop (ps.length - i)))) ⟨t, none, [z], rfl, s0, (same_upd nz).free nt, upd_same, ?_⟩ (fun i σ H' _ hp => ?_) (fun i x σ H1 H2 hi hp hy => ?_) (fun σ H1 hp => ?_)⟩
    · rw [Nat.sub_zero, List.drop_length]
      exact .one ⟨by rw [upd_ne nzt]; exact upd_same, nz⟩
    · obtain ⟨t, y2, as, _, s1, _⟩ := hp
      exact SqL.of (s1 _ _ ha)
    · obtain ⟨t1, y2, as, rfl, s1, nt1, ht1, al⟩ := hp
      obtain ⟨rfl, hx⟩ := hy
      rw [List.length_map] at hi hx
      obtain ⟨n, hn, rfl⟩ := of_get_ints hx
      have ed : ps.drop (ps.length - (i + 1)) = n :: ps.drop (ps.length - i) := by
        have hlt : ps.length - 1 - i < ps.length := by omega
        rw [show ps.length - (i + 1) = ps.length - 1 - i by omega, List.drop_eq_getElem_cons hlt, show ps.length - 1 - i + 1 = ps.length - i by omega]
        congr 1
        exact (List.getElem?_eq_some_iff.mp hn).2
      generalize hrs : choicesM (ps.drop (ps.length - i)) = rs at al
      have lrs : rs.length ≤ 256 := by
        rw [← hrs]
        exact choicesM_le (by rw [List.length_drop]; omega)
      have lal := al.len
      refine ⟨Nat.zero_le _, fun z nz => ⟨by show 1 ≤ sizeLine; decide, fun e ne => ?_⟩⟩
      have nze : z ≠ e := ne_of_none upd_same ne
      have s2 : Same H2 (upd (upd H2 z (.lst [])) e (.lst [.ref z])) := (same_upd nz).trans (same_upd ne)
      have hz2 : upd (upd H2 z (.lst [])) e (.lst [.ref z]) z = some (LI []) := by rw [upd_ne nze]; exact upd_same
      have he2 : upd (upd H2 z (.lst [])) e (.lst [.ref z]) e = some (.lst [.ref z]) := upd_same
      generalize upd (upd H2 z (.lst [])) e (.lst [.ref z]) = H3 at s2 hz2 he2 ⊢
      refine ⟨_, rfl, t1, rfl, ⟨_, SqL.of (s2 _ _ ht1)⟩, fun C nC => lc_list (xs := as.map V.ref) (fun j H' => Same H3 H' ∧ ∃ cs : List Addr, H' C = some (.lst (cs.map V.ref)) ∧ Al (RowB H H' C) cs ((rs.take j).map (n :: ·))) ⟨same_upd nC, [], upd_same, True.intro⟩ (fun j H' _ hp => SqL.of (hp.1 _ _ (s2 _ _ ht1))) (fun j x H4 hx hp => ?_) (fun H4 hp => ?_)⟩
      · obtain ⟨s4, cs, hC, alc⟩ := hp
        rw [List.getElem?_map] at hx
        cases hu : as[j]? with
        | none => rw [hu] at hx; cases hx
        | some u =>
          rw [hu] at hx
          cases Option.some.inj hx
          obtain ⟨r, hr, hur⟩ := al.get hu
          have lr : r.length ≤ 8 := by
            have : ∀ (ps : List Int) r, r ∈ choicesM ps → r.length ≤ ps.length := by
              intro ps
              induction ps with
              | nil => intro r h; rw [List.mem_singleton.mp h]; exact Nat.le_refl _
              | cons p ps ih =>
                intro r h
                rcases List.mem_append.mp h with h | h
                · rcases List.mem_append.mp h with h | h
                  · rw [List.mem_singleton.mp h]; exact Nat.zero_le _
                  · obtain ⟨r', h', rfl⟩ := List.mem_map.mp h
                    have := ih r' h'
                    rw [List.length_cons, List.length_cons]
                    omega
                · have := ih r (List.mem_of_mem_tail h)
                  rw [List.length_cons]
                  omega
            have := this (ps.drop (ps.length - i)) r (by rw [hrs]; exact List.mem_of_getElem? hr)
            rw [List.length_drop] at this
            omega
          refine ⟨rfl, _, rfl, by show 1 ≤ sizeLine; decide, fun g ng => ?_⟩
          have hu4 : H4 u = some (LI r) := s4 _ _ (s2 _ _ hur.1)
          have ngu : u ≠ g := ne_of_none hu4 ng
          refine ⟨_, rfl, g, u, _, _, rfl, rfl, upd_same, (by rw [upd_ne ngu]; exact hu4), szL (by rw [List.length_map]; show 1 + r.length ≤ _; omega), fun v nv => ?_⟩
          have s5 : Same H4 (upd (upd H4 g (.lst [.int n])) v (.lst ([.int n] ++ r.map V.int))) := (same_upd ng).trans (same_upd nv)
          have lc := alc.len
          rw [List.length_map, List.length_take] at lc
          refine ⟨_, s5 _ _ hC, szL' (by rw [List.length_map]; omega), sm_new (s4.trans s5) nC, cs ++ [v], ?_, ?_⟩
          · rw [upd_same, List.map_append]
            rfl
          · have nvC : v ≠ C := fun z => by
              rw [z] at nv
              rw [(same_upd ng) _ _ hC] at nv
              cases nv
            rw [take_succ_at hr, List.map_append]
            exact Al.app (alc.imp fun a x h => h.keep ((SameBut.of s5).trans .upd)) (.one ⟨by rw [upd_ne nvC, upd_same]; rfl, ((s1.trans s2).trans s4).free ((same_upd ng).free nv), nvC⟩)
      · obtain ⟨s4, cs, hC, alc⟩ := hp
        rw [List.length_map, lal, List.take_length] at alc
        have lc := alc.len
        rw [List.length_map] at lc
        refine ⟨e, C, _, _, rfl, rfl, s4 _ _ he2, hC, szL (by rw [List.length_map]; show 1 + _ ≤ _; omega), fun g ng => ?_⟩
        refine ⟨_, rfl, 1, rfl, t1, _, rfl, SqL.of ((same_upd ng) _ _ (s4 _ _ (s2 _ _ ht1))), fun sl nsl => ?_⟩
        have s5 : Same H4 (upd (upd H4 g (.lst ([.ref z] ++ cs.map V.ref))) sl (.lst (cutV (as.map V.ref) (some 1) none))) := (same_upd ng).trans (same_upd nsl)
        have hg5 : upd (upd H4 g (.lst ([.ref z] ++ cs.map V.ref))) sl (.lst (cutV (as.map V.ref) (some 1) none)) g = some (.lst ([.ref z] ++ cs.map V.ref)) := (same_upd nsl) _ _ upd_same
        refine ⟨g, sl, _, _, rfl, rfl, hg5, upd_same, szL (by rw [cut1, List.length_drop, List.length_map, List.length_append, List.length_map]; show 1 + _ + _ ≤ _; omega), fun t' nt' => ?_⟩
        have s6 := s5.trans (same_upd (o := .lst ([.ref z] ++ cs.map V.ref ++ cutV (as.map V.ref) (some 1) none)) nt')
        have s46 := (s2.trans s4).trans s6
        refine ⟨t', _, ([z] ++ cs) ++ as.drop 1, rfl, s1.trans s46, ((s1.trans (s2.trans s4)).trans s5).free nt', ?_, ?_⟩
        · rw [upd_same, cut1, List.map_append, List.map_append, List.map_drop]
          rfl
        · rw [ed]
          show Al _ _ (([[]] ++ (choicesM (ps.drop (ps.length - i))).map (n :: ·)) ++ (choicesM (ps.drop (ps.length - i))).tail)
          rw [hrs]
          exact Al.app (Al.app (.one ⟨s6 _ _ (s4 _ _ hz2), s1.free nz⟩) (alc.imp fun a x h => h.toF.keep s6)) ((al.drop1).imp fun a x h => h.keep s46)
    · obtain ⟨t1, y2, as, rfl, s1, nt1, ht1, al⟩ := hp
      rw [List.length_map, Nat.sub_self, List.drop_zero] at al
      exact ⟨_, rfl, q H1 t1 as s1 nt1 ht1 al⟩
end
section
variable {P : Program} {w : World} {K : PySem.W.Frag} {mg : Str → Option Value} {base : Heap} {T : List Addr}
theorem ok_lines_at {f f1 f2 : Addr} {fd fd1 fd2 : FuncData} {k : Nat} (M : Names mg) (D : Def K mg "lines_at" s_lines_at ["shop", "place"] f fd) (D_adds_to : Def K mg "adds_to" s_adds_to ["shop", "place"] f1 fd1) (D_choices : Def K mg "choices" s_choices ["places"] f2 fd2) : FnOk P w K mg base CX0 (k + 2) f fd ["shop", "place"] sp_lines_at := by
  have G_adds_to : FnOk P w K mg base CX0 (k + 1) f1 fd1 ["shop", "place"] sp_adds_to := ok_adds_to M D_adds_to
  have G_choices : FnOk P w K mg base CX0 (k + 1) f2 fd2 ["places"] sp_choices := ok_choices M D_choices
  obtain ⟨t12, m_MOST_PIECES⟩ := M.c_MOST_PIECES
  refine D.F.ok sc_lines_at (fun vs H Q E h => ?_) (fun cdv A outer s H vs Q E hr h => ?_)
  · obtain ⟨a, os, p, rfl, _⟩ := h
    rfl
  · obtain ⟨a, os, p, rfl, hS, h8, hp, q⟩ := h
    obtain ⟨vs, h1, h2, h3⟩ := id hS
    obtain ⟨v, o, g1, g2, g3⟩ := ShopAt.get (H := H) (a := a) h2 hp
    have ho := h3 p v o g1 g2
    refine ⟨_, (pss_cons (ps_set (i := 2) sc_lines_at.nd rfl (Or.inl rfl) (pe_ix ix_tup (pe_ix ix_list (pv 0) (pv 1) (fun _ _ => rfl)) pe_int (fun _ _ => rfl)))
  (pss_cons (ps_if (pt_cmpR op_eq (pv 2) pe_str (nomark _))
   (pss_one (ps_ret (pe_lc (own := [("adds", 3)]) (by rfl) sc_lines_at.nd (pi_list (pe_call G_choices hr (by rfl) D_choices.g D_choices.F.kp D_choices.b .nil pass0 (pa_cons (pe_call G_adds_to hr (by rfl) D_adds_to.g D_adds_to.F.kp D_adds_to.b .nil pass0 (pa_cons (pv 0) (pa_cons (pv 1) pa_nil))) pa_nil))) (blkOk_by (own := [("adds", 3)]) (N := N_lines_at) (sc := defScope s_lines_at) (by decide +kernel)) (fun _ _ _ _ _ => (pg_name (i := 3) sc_lines_at.nd rfl (Or.inl rfl))) (fun _ _ _ _ _ => pts_nil) (fun _ _ _ _ _ => (pe_tup (pa_cons (pv 1) (pa_cons pe_int (pa_cons (pv 3) pa_nil))))))))
   pss_nil)
  (pss_cons (ps_if (pt_cmpR op_eq (pv 2) pe_str (nomark _))
   (pss_one (ps_ret (pe_lc (own := [("count", 4)]) (by rfl) sc_lines_at.nd (pi_range2 (by rfl) M.range (pa_cons pe_int (pa_cons (pe_op op_add (pe_glob (v := .int 12) (by rfl) m_MOST_PIECES ⟨_, rfl⟩) pe_int) pa_nil))) (blkOk_by (own := [("count", 4)]) (N := N_lines_at) (sc := defScope s_lines_at) (by decide +kernel)) (fun _ _ _ _ _ => (pg_name (i := 4) sc_lines_at.nd rfl (Or.inl rfl))) (fun _ _ _ _ _ => pts_nil) (fun _ _ _ _ _ => (pe_tup (pa_cons (pv 1) (pa_cons (pv 4) (pa_cons (pe_lst pa_nil) pa_nil))))))))
   pss_nil)
  (pss_one (ps_ret (pe_lst pa_nil)))))), ?_⟩
    cases o with
    | pack c pr =>
      obtain ⟨b, hb, _⟩ := ho
      have em : linesAtM os p = (choicesM (addsM os p)).map fun c => ⟨p, 1, c⟩ := by unfold linesAtM; rw [g2]
      refine ⟨_, rfl, _, rfl, a, _, _, _, rfl, rfl, SqL.of h1, atI_nat g3, v, _, _, _, rfl, rfl, SqT.of hb, atI_nat (j := 0) rfl, ?_⟩
      refine ⟨_, rfl, rfl, true, rfl, ?_⟩
      refine ⟨_, rfl, _, rfl, a, os, p, rfl, hS, h8, fun H1 ad s1 nad had => ?_⟩
      have la : (addsM os p).length ≤ 8 := Nat.le_trans (addsN_len _ _ _) h8
      refine ⟨ad, addsM os p, rfl, had, la, fun H2 ch as s2 nch hch al => ?_⟩
      have lal := al.len
      have lch := choicesM_le la
      refine ⟨ch, rfl, ⟨_, SqL.of hch⟩, fun B nB => lc_list (xs := as.map V.ref) (fun j H' => Same H2 H' ∧ ∃ ls : List Addr, H' B = some (.lst (ls.map V.ref)) ∧ Al (LineB H H' B) ls (((choicesM (addsM os p)).take j).map fun c => ⟨p, 1, c⟩)) ⟨same_upd nB, [], upd_same, True.intro⟩ (fun j H' _ hp => SqL.of (hp.1 _ _ hch)) (fun j x H3 hx hp => ?_) (fun H3 hp => ?_)⟩
      · obtain ⟨s3, ls, hB, all⟩ := hp
        rw [List.getElem?_map] at hx
        cases hu : as[j]? with
        | none => rw [hu] at hx; cases hx
        | some u =>
          rw [hu] at hx
          cases Option.some.inj hx
          obtain ⟨r, hr, hur, nu⟩ := al.get hu
          have hu3 : H3 u = some (LI r) := s3 _ _ hur
          have nuB : u ≠ B := ne_of_none hur nB
          refine ⟨rfl, _, rfl, _, rfl, by show 3 ≤ sizeLine; decide, fun t nt => ?_⟩
          have ntB : t ≠ B := fun z => by
            rw [z, hB] at nt
            cases nt
          have ntu : u ≠ t := ne_of_none hu3 nt
          have lls := all.len
          rw [List.length_map, List.length_take] at lls
          refine ⟨_, (same_upd nt) _ _ hB, szL' (by rw [List.length_map]; omega), sm_new (s3.trans (same_upd nt)) nB, ls ++ [t], ?_, ?_⟩
          · rw [upd_same, List.map_append]
            rfl
          · rw [take_succ_at hr, List.map_append]
            refine Al.app (all.imp fun l x h => h.keep ((SameBut.of (same_upd nt)).trans .upd)) (.one ⟨u, ?_, ?_, (((s1.trans s2).trans s3).free nt), s1.free nu, ntB, nuB⟩)
            · rw [upd_ne ntB]
              exact upd_same
            · rw [upd_ne nuB]
              exact (same_upd nt) _ _ hu3
      · obtain ⟨s3, ls, hB, all⟩ := hp
        rw [List.length_map, lal, List.take_length] at all
        refine q H3 B ((s1.trans s2).trans s3) ((s1.trans s2).free nB) ⟨ls, hB, ?_⟩
        rw [em]
        exact all.imp fun l x h => h.toF
    | many c ts =>
      obtain ⟨b, t', hb, _⟩ := ho
      have em : linesAtM os p = (List.range 12).map fun i => ⟨p, 1 + (i : Nat), []⟩ := by unfold linesAtM; rw [g2]
      refine ⟨_, rfl, _, rfl, a, _, _, _, rfl, rfl, SqL.of h1, atI_nat g3, v, _, _, _, rfl, rfl, SqT.of hb, atI_nat (j := 0) rfl, ?_⟩
      refine ⟨_, rfl, rfl, false, rfl, ?_⟩
      refine ⟨_, rfl, rfl, true, rfl, ?_⟩
      refine ⟨_, _, rfl, rfl, 1, _, rfl, ⟨by decide, by decide, by decide, by decide⟩, fun B nB => lc_range (lo := 1) (n := 12) (fun j H' => Same H H' ∧ ∃ ls : List Addr, H' B = some (.lst (ls.map V.ref)) ∧ Al (LineB H H' B) ls ((List.range j).map fun i => ⟨p, 1 + (i : Nat), []⟩)) ⟨same_upd nB, [], upd_same, True.intro⟩ (fun j H3 hj hp => ?_) (fun H3 hp => ?_)⟩
      · obtain ⟨s3, ls, hB, all⟩ := hp
        refine ⟨rfl, _, rfl, _, rfl, Nat.zero_le _, fun u nu => ⟨by show 3 ≤ sizeLine; decide, fun t nt => ?_⟩⟩
        have nuB : u ≠ B := fun z => by
          rw [z, hB] at nu
          cases nu
        have hB1 : upd H3 u (.lst []) B = some (.lst (ls.map V.ref)) := (same_upd nu) _ _ hB
        have ntB : t ≠ B := fun z => by
          rw [z, hB1] at nt
          cases nt
        have ntu : u ≠ t := ne_of_none upd_same nt
        have s4 : Same H3 (upd (upd H3 u (.lst [])) t (.tup [.int p, .int (1 + (j : Nat)), .ref u])) := (same_upd nu).trans (same_upd nt)
        have lls := all.len
        rw [List.length_map, List.length_range] at lls
        refine ⟨_, s4 _ _ hB, szL' (by rw [List.length_map]; omega), sm_new (s3.trans s4) nB, ls ++ [t], ?_, ?_⟩
        · rw [upd_same, List.map_append]
          rfl
        · rw [List.range_succ, List.map_append]
          refine Al.app (all.imp fun l x h => h.keep ((SameBut.of s4).trans .upd)) (.one ⟨u, ?_, ?_, s3.free ((same_upd nu).free nt), s3.free nu, ntB, nuB⟩)
          · rw [upd_ne ntB]
            exact upd_same
          · rw [upd_ne nuB, upd_ne ntu]
            exact upd_same
      · obtain ⟨s3, ls, hB, all⟩ := hp
        refine q H3 B s3 nB ⟨ls, hB, ?_⟩
        rw [em]
        exact all.imp fun l x h => h.toF
    | add c pr kk =>
      obtain ⟨b, hb, _⟩ := ho
      have em : linesAtM os p = [] := by unfold linesAtM; rw [g2]
      refine ⟨_, rfl, _, rfl, a, _, _, _, rfl, rfl, SqL.of h1, atI_nat g3, v, _, _, _, rfl, rfl, SqT.of hb, atI_nat (j := 0) rfl, ?_⟩
      refine ⟨_, rfl, rfl, false, rfl, ?_⟩
      refine ⟨_, rfl, rfl, false, rfl, ?_⟩
      refine ⟨Nat.zero_le _, fun B nB => q _ B (same_upd nB) nB ⟨[], upd_same, ?_⟩⟩
      rw [em]
      exact True.intro
theorem ok_lines {f f1 f2 f3 f4 f5 f6 f7 c t : Addr} {fd fd1 fd2 fd3 fd4 fd5 fd6 fd7 : FuncData} {k : Nat} (M : Names mg) (D : Def K mg "lines" s_lines ["shop"] f fd) (D_look : Def K mg "look" s_look ["shop"] f1 fd1) (D_can_stand : Def K mg "can_stand" s_can_stand ["shop", "at"] f2 fd2) (D_names_pack : Def K mg "names_pack" s_names_pack ["shop", "at"] f3 fd3) (D_good_tiers : Def K mg "good_tiers" s_good_tiers ["tiers"] f4 fd4)
    (hc : fd4.code = .ref c) (TB : GxR.TabB base mg c t) (ht : t ∈ T) (D_lines_at : Def K mg "lines_at" s_lines_at ["shop", "place"] f5 fd5) (D_adds_to : Def K mg "adds_to" s_adds_to ["shop", "place"] f6 fd6) (D_choices : Def K mg "choices" s_choices ["places"] f7 fd7) : FnOk P w K mg base CX0 (k + 4) f fd ["shop"] (sp_lines T) := by
  have G_look : FnOk P w K mg base CX0 (k + 3) f1 fd1 ["shop"] (sp_look T) := ok_look M D_look D_can_stand D_names_pack D_good_tiers hc TB ht
  have G_lines_at : FnOk P w K mg base CX0 (k + 3) f5 fd5 ["shop", "place"] sp_lines_at := ok_lines_at M D_lines_at D_adds_to D_choices
  refine D.F.ok sc_lines (fun vs H Q E h => ?_) (fun cdv A outer s H vs Q E hr h => ?_)
  · obtain ⟨a, os, rfl, _⟩ := h
    rfl
  · obtain ⟨a, os, rfl, hS, gd, hT, q⟩ := h
    refine ⟨_, (pss_cons (ps_expr (pe_call G_look hr (by rfl) D_look.g D_look.F.kp D_look.b .nil pass0 (pa_cons (pv 0) pa_nil)))
  (pss_one (ps_ret (pe_lc2 (own := [("place", 1), ("line", 2)]) (vs1 := [2]) (by rfl) sc_lines.nd (pi_range1 (by rfl) M.range (pa_cons (pe_callB call_len_seq (by rfl) M.len (by decide +kernel) (pa_cons (pv 0) pa_nil)) pa_nil)) (blkOk_by (own := [("place", 1), ("line", 2)]) (N := N_lines) (sc := defScope s_lines) (by decide +kernel)) (by decide) (fun _ _ _ _ _ => (pg_name (i := 1) sc_lines.nd rfl (Or.inl rfl))) (fun _ _ _ _ _ => pts_nil) (fun _ _ _ _ _ => (pi_listK (K := K) rfl (pe_call G_lines_at hr (by rfl) D_lines_at.g D_lines_at.F.kp D_lines_at.b .nil pass0 (pa_cons (pv 0) (pa_cons (pv 1) pa_nil))))) (fun _ _ _ _ _ => (pg_name (i := 2) sc_lines.nd rfl (Or.inl rfl))) (fun _ _ _ _ _ => pts_nil) (fun _ _ _ _ _ => (pv 2)))))), ?_⟩
    refine ⟨_, rfl, a, os, rfl, hS, gd, hT, fun H1 e1 => ?_⟩
    have hS1 := hS.ext e1
    obtain ⟨vs, h1, h2, h3⟩ := id hS1
    have h8 := gd.1
    refine ⟨_, rfl, a, _, rfl, .inl (SqL.of h1), _, rfl, by omega, by rw [List.length_map]; omega, fun B nB => ?_⟩
    have nBH : H B = none := e1.free _ nB
    refine ⟨fun i m H' => m = os.length - i ∧ i ≤ os.length ∧ Same H1 H' ∧ ∃ ls : List Addr, H' B = some (.lst (ls.map V.ref)) ∧ Al (LineB H H' B) ls ((List.range i).flatMap (linesAtM os)), ⟨_, rfl, Nat.zero_le _, same_upd nB, [], upd_same, True.intro⟩, fun i m H2 hW => ?_⟩
    obtain ⟨rfl, hi, s2, ls, hB, all⟩ := hW
    by_cases hil : i < os.length
    · refine .inr ⟨by show i < Int.toNat _; rw [Int.toNat_natCast, List.length_map]; omega, fun H' => Same H1 H' ∧ ∃ ls : List Addr, H' B = some (.lst (ls.map V.ref)) ∧ Al (LineB H H' B) ls ((List.range (i + 1)).flatMap (linesAtM os)), fun H' hN => ⟨_, by omega, rfl, hil, hN⟩, fun x H3 hy => ?_⟩
      obtain ⟨rfl, rfl⟩ := hy
      refine ⟨rfl, _, rfl, _, rfl, a, os, i, by show [V.ref a, V.int (0 + (i : Int))] = _; rw [Int.zero_add], hS1.same s2, h8, hil, fun H4 L s4 nL hL => ?_⟩
      obtain ⟨as, hLl, alL⟩ := hL
      have lal := alL.len
      have tot := linesN_len h8 i
      have one := linesAtM_len h8 i
      have hB4 := s4 _ _ hB
      have nLB : L ≠ B := fun z => by
        rw [z, hB] at nL
        cases nL
      have fr : ∀ b, H3 b = none → H b = none := fun b z => e1.free _ (s2.free z)
      have alB : Al (LineB H H4 B) as (linesAtM os i) := alL.imp fun l x h => h.toB fr (by rw [hB]; exact fun z => nomatch z)
      refine ⟨L, rfl, ⟨_, SqL.of hLl⟩, fun j m' H' => m' = as.length - j ∧ j ≤ as.length ∧ Same H1 H' ∧ H' L = some (.lst (as.map V.ref)) ∧ Al (LineB H H' B) as (linesAtM os i) ∧ ∃ ls : List Addr, H' B = some (.lst (ls.map V.ref)) ∧ Al (LineB H H' B) ls ((List.range i).flatMap (linesAtM os) ++ (linesAtM os i).take j), ⟨_, rfl, Nat.zero_le _, s2.trans s4, hLl, alB, ls, hB4, ?_⟩, fun j m' H5 hW1 => ?_⟩
      · rw [List.take_zero, List.append_nil]
        exact all.imp fun l x h => h.keep (.of s4)
      · obtain ⟨rfl, hj, s5, hL5, al5, ls5, hB5, all5⟩ := hW1
        by_cases hjl : j < as.length
        · obtain ⟨l, hl⟩ : ∃ l, as[j]? = some l := ⟨_, List.getElem?_eq_getElem hjl⟩
          have gl : (as.map V.ref)[j]? = some (.ref l) := by rw [List.getElem?_map, hl]; rfl
          obtain ⟨ln, hln, hlat⟩ := al5.get hl
          refine .inr ⟨⟨_, _, SqL.of hL5, gl⟩, fun H' => Same H1 H' ∧ H' L = some (.lst (as.map V.ref)) ∧ Al (LineB H H' B) as (linesAtM os i) ∧ ∃ ls : List Addr, H' B = some (.lst (ls.map V.ref)) ∧ Al (LineB H H' B) ls ((List.range i).flatMap (linesAtM os) ++ (linesAtM os i).take (j + 1)), fun H' hN => ⟨_, by omega, rfl, hjl, hN⟩, fun x H6 hy => ?_⟩
          obtain ⟨rfl, fy⟩ := hy
          have ex : x = .ref l := Option.some.inj ((fy _ (SqL.of hL5)).symm.trans gl)
          subst ex
          have l5 := all5.len
          rw [List.length_append, List.length_take] at l5
          refine ⟨rfl, _, rfl, _, hB5, szL' (by rw [List.length_map]; omega), sm_new s5 nB, ?_, ?_, ls5 ++ [l], ?_, ?_⟩
          · rw [upd_ne nLB]
            exact hL5
          · exact al5.imp fun l x h => h.keep .upd
          · rw [upd_same, List.map_append]
            rfl
          · rw [take_succ_at hln, ← List.append_assoc]
            exact Al.app (all5.imp fun l x h => h.keep .upd) (.one (hlat.keep .upd))
        · refine .inl ⟨⟨_, SqL.of hL5, by rw [List.length_map]; omega⟩, s5, ls5, hB5, ?_⟩
          rw [List.take_of_length_le (by omega)] at all5
          rw [List.range_succ, List.flatMap_append, List.flatMap_singleton]
          exact all5
    · have ei : i = os.length := by omega
      refine .inl ⟨by show Int.toNat _ ≤ i; rw [Int.toNat_natCast, List.length_map]; omega, ?_⟩
      rw [ei] at all
      exact q H2 B (e1.trans (.same s2 e1.t1)) nBH ⟨ls, hB, all.imp fun l x h => h.toF⟩
end
/-! ### sum(number for x in list): a generator expression over a list -/
def tSumN (K : PySem.W.Frag) (P : Addr) (R : L2.St → Hp → List V → (Nat → Int) → Prop) (te : TE) : TE := fun σ H Q => te σ H fun v H1 => ∃ (a : Addr) (xs : List V) (val : Nat → Int), v = .ref a ∧ SqL K H1 a xs ∧ GxR.TabG H1 P ∧ R σ H1 xs val ∧
  (∀ j, j < xs.length → InLong (val j) ∧ InLong (preSum val (j + 1))) ∧ ∀ H2, GxR.Tabbed P H1 H2 → Q (.int (preSum val xs.length)) H2
def EltN (X : Cx) (P : Addr) (scope : Scope) (x : Str) (elt : Expr) (R : L2.St → Hp → List V → (Nat → Int) → Prop) : Prop :=
  ∀ (pins : List (Addr × Obj)) (σ : L2.St) (H1 : Hp) (s1 : Shared) (xs : List V) (val : Nat → Int), Inv X pins σ H1 s1 → GxR.TabG H1 P → R σ H1 xs val →
    ∀ (cenv : Env) (A' : Around) (E' : Value → Shared → Prop) (i : Nat) (v : V) (va : Value) (s₂ : Shared) (m₂ : Str → Option Value), cenv.scope = scope → cenv.cells = cloFrom X.env.cells scope.names [] → cenv.globals = mainGlobals → cenv.builtins = builtinsNs →
      A'.handled = none → xs[i]? = some v → RelV v va → s₂.heap.Ns cenv.locals m₂ → m₂ x = some va → (∀ b o, b ≠ P → s1.heap.get? b = some o → s₂.heap.get? b = some o) →
      wpAny (model X.prog X.w) A' (eval elt cenv) (fun y s₃ => (∃ t, y = .int (val i) t) ∧ Keeps s₂ s₃) E' s₂
section
variable {X : Cx}
theorem pe_sumList {c P : Addr} {elt e : Expr} {x : Str} {px p pos gpos : Pos} {scope : Scope} {te : TE} {k : Nat} {R : L2.St → Hp → List V → (Nat → Int) → Prop}
    (hr : Room k X.A) (hg : Gl X "sum") (hm : X.mg "sum" = none) (hb : bootBuiltins "sum" = some (.builtin "sum")) (TB : GxR.TabB X.base X.mg c P) (hcode : X.env.code = .ref c) (S : GenS1 X.env.scope scope x) (hi : PE X e te)
    (hel : EltN X P scope x elt R)
    (hs : ∀ v, genFold e X.env v = pure v := by intro _; rfl)
    (he : starEach [.GeneratorExp elt [⟨.Name x px, e, [], 0⟩] scope gpos] X.env = (false, eval (.GeneratorExp elt [⟨.Name x px, e, [], 0⟩] scope gpos) X.env) :: starEach [] X.env := by rfl) :
    PE X (.Call (.Name "sum" p) [.GeneratorExp elt [⟨.Name x px, e, [], 0⟩] scope gpos] [] pos) (tSumN X.K P R te) := by
  refine ⟨fun pins s σ H Q I h => call_gen hg hm hb he I (gen_ones hr TB hcode S hs I (thn (hi.run pins s σ H _ I h) fun u0 s1 r => ?_))⟩
  obtain ⟨_, H1, J, isRef, a, xs, val, rfl, sq, tab, hR, fit, q⟩ := r
  cases isRef
  obtain ⟨its, rv, at_, _⟩ := J.list sq
  have many : its.toArray.size = xs.length := List.size_toArray.trans rv.length.symm
  have la : a < s1.heap.objs.size := at_.lt
  obtain ⟨oa, ea, ca, _⟩ := id at_.isList
  have aP : a ≠ P := tab_ne J tab ea (.inl fun z => by rw [ca] at z; cases z)
  have lP : P < s1.heap.objs.size := tab.elim fun _ x => Heap.lt_size (show s1.heap.get? P = _ from J.hok P _ x.1)
  refine wpAny_pyIter_list at_.isList ?_
  refine ⟨_, _, _, _, _, _, fun i y => ∃ t, y = .int (val i) t, pins, σ, H1, s1, rfl, ⟨J, tab, ⟨_, s1.toks, rfl⟩, fun b o e => Heap.get?_push_of_some _ e, by rw [Heap.size_push]; exact Nat.le_succ _, fun b hb => ?_, fun b hb => ?_⟩,
    fun A' calm => Walks.list calm s1.heap.objs.size a (Nat.ne_of_lt la) its.toArray, ⟨⟨_, Heap.get?_push_size _ rfl, rfl, rfl⟩, at_.isList.push _⟩, ?_, ?_⟩
  · rw [Heap.size_push]
    simp only [List.mem_cons, List.not_mem_nil, or_false] at hb
    rcases hb with rfl | rfl
    · exact ⟨Nat.lt_succ_self _, Nat.ne_of_gt lP⟩
    · exact ⟨Nat.lt_succ_of_lt la, aP⟩
  · exact Nat.le_of_eq (List.mem_singleton.mp hb).symm
  · intro cenv A' E' i va u m T hPt ns ma
    have there : its[i]? = some va := by simpa using hPt
    obtain ⟨v, hv⟩ : ∃ v, xs[i]? = some v := ⟨_, List.getElem?_eq_getElem (rv.length.symm ▸ (List.getElem?_eq_some_iff.mp there).1)⟩
    obtain ⟨w, hw, rw_⟩ := rv.get hv
    cases there.symm.trans hw
    exact hel pins σ H1 s1 xs val J tab hR cenv A' E' i v _ u m T.own T.cells T.glob T.blt T.calm hv rw_ ns ma T.still
  · rintro g s5 ⟨fp, wr, G, F', St, W, st, low, say, held⟩
    refine call_sum_walkS (W.self 0 _ _ _ st ⟨g, fp, wr, G, _, F', St, val, rfl, W, st, low, say, fun j lj => fit j (many ▸ lj), fun s' t' mv => ?_⟩)
    obtain ⟨H2, grown, J2⟩ := held s' mv
    exact ⟨.int _, H2, J2, ⟨t', rfl⟩, many ▸ q H2 grown⟩
end
/-! ### lines: what they hold and cost, as lists -/
def togM (a b : List Int) : List Int := List.zipWith (· + ·) a b
theorem togM_get {a b : List Int} {i : Nat} {x y : Int} (h : a[i]? = some x) (h2 : b[i]? = some y) : (togM a b)[i]? = some (x + y) := by
  unfold togM
  rw [List.getElem?_zipWith, h, h2]
theorem togM_len (a b : List Int) : (togM a b).length = min a.length b.length := by
  unfold togM
  rw [List.length_zipWith]
def contAt (os : List Ofr) (x : Int) : List Int := match os[x.toNat]? with
  | some o => o.cont
  | none => []
def contM (os : List Ofr) (l : Ln) : List Int := l.as.foldl (fun acc x => togM acc (contAt os x)) ((contAt os l.p).map (l.c * ·))
def pieceL (ts : List (Int × Int)) (c : Int) : List Int := (ts.filter fun t => decide (t.1 ≤ c)).map (·.2)
def pieceM (ts : List (Int × Int)) (c : Int) : Int := (pieceL ts c).getLastD 0
def addPr (os : List Ofr) (x : Int) : Int := match os[x.toNat]? with
  | some (.add _ p _) => p
  | some (.pack _ p) => p
  | _ => 0
def priceM (os : List Ofr) (l : Ln) : Int := match os[l.p.toNat]? with
  | some (.many _ ts) => l.c * pieceM ts l.c
  | some (.pack _ p) => p + (l.as.map (addPr os)).sum
  | _ => 0
/-- l is a line of os -/
def LineOk (os : List Ofr) (l : Ln) : Prop := ∃ p : Nat, l.p = (p : Int) ∧ ((∃ c ts, os[p]? = some (.many c ts) ∧ GoodT ts ∧ 1 ≤ l.c ∧ l.c ≤ 12 ∧ l.as = []) ∨
  (∃ c pr, os[p]? = some (.pack c pr) ∧ l.c = 1 ∧ l.as.length ≤ 8 ∧ ∀ x ∈ l.as, ∃ j : Nat, x = (j : Int) ∧ ∃ c' pr' k, os[j]? = some (.add c' pr' k)))
/-- contents are short, prices of adds within bounds -/
def Fit (os : List Ofr) : Prop := ∀ o ∈ os, o.cont.length ≤ 1000 ∧ ∀ c p k, o = .add c p k → -10000000000000000 ≤ p ∧ p ≤ 10000000000000000
def LineAt (H : Hp) (a : Addr) (l : Ln) : Prop := ∃ b, H a = some (.tup [.int l.p, .int l.c, .ref b]) ∧ H b = some (LI l.as)
theorem LineF.at {H0 H : Hp} {a : Addr} {l : Ln} (h : LineF H0 H a l) : LineAt H a l := by
  obtain ⟨b, h1, h2, _⟩ := h
  exact ⟨b, h1, h2⟩
theorem LineAt.ext {T : List Addr} {H H' : Hp} {a : Addr} {l : Ln} (e : Ext T H H') (h : LineAt H a l) : LineAt H' a l := by
  obtain ⟨b, h1, h2⟩ := h
  exact ⟨b, e.tup h1, e.lst h2⟩
theorem contAt_get {os : List Ofr} {j : Nat} {o : Ofr} (h : os[j]? = some o) : contAt os (j : Int) = o.cont := by
  unfold contAt
  rw [Int.toNat_natCast, h]
theorem pieceL_take {ts : List (Int × Int)} {c : Int} {i : Nat} {t : Int × Int} (h : ts[i]? = some t) : pieceL (ts.take (i + 1)) c = if t.1 ≤ c then pieceL (ts.take i) c ++ [t.2] else pieceL (ts.take i) c := by
  unfold pieceL
  rw [take_succ_at h, List.filter_append, List.map_append]
  by_cases z : t.1 ≤ c
  · rw [if_pos z]
    simp [z]
  · rw [if_neg z]
    simp [z]
/-! ### together, content_of, piece_price -/
abbrev s_together : Stmt := topS 18
abbrev N_together : List Str := ["content", "other", "number", "more"]
theorem sc_together : FnScope N_together ["content", "other"] (defScope s_together) := ⟨rfl, rfl, rfl, by decide +kernel, rfl, by decide +kernel, by decide +kernel⟩

abbrev s_content_of : Stmt := topS 19
abbrev N_content_of : List Str := ["shop", "line", "content", "add", "adds", "place", "count", "number"]
theorem sc_content_of : FnScope N_content_of ["shop", "line"] (defScope s_content_of) := ⟨rfl, rfl, rfl, by decide +kernel, rfl, by decide +kernel, by decide +kernel⟩

abbrev s_piece_price : Stmt := topS 20
abbrev N_piece_price : List Str := ["tiers", "count", "begin", "price"]
theorem sc_piece_price : FnScope N_piece_price ["tiers", "count"] (defScope s_piece_price) := ⟨rfl, rfl, rfl, by decide +kernel, rfl, by decide +kernel, by decide +kernel⟩

abbrev s_price_of : Stmt := topS 21
abbrev N_price_of : List Str := ["shop", "line", "offer", "place", "count", "adds", "add"]
theorem sc_price_of : FnScope N_price_of ["shop", "line"] (defScope s_price_of) := ⟨rfl, rfl, rfl, by decide +kernel, rfl, by decide +kernel, by decide +kernel⟩

def sp_together : Sp := fun vs H Q _ => ∃ (a b : Addr) (xs ys : List Int), vs = [.ref a, .ref b] ∧ H a = some (LI xs) ∧ H b = some (LI ys) ∧ xs.length ≤ 1000 ∧ ∀ H' q, Same H H' → H q = none → H' q = some (LI (togM xs ys)) → Q (.ref q) H'
def sp_content_of : Sp := fun vs H Q _ => ∃ (a la : Addr) (os : List Ofr) (l : Ln), vs = [.ref a, .ref la] ∧ ShopAt H a os ∧ LineAt H la l ∧ LineOk os l ∧ Fit os ∧ ∀ H' q, Same H H' → H q = none → H' q = some (LI (contM os l)) → Q (.ref q) H'
def sp_piece_price : Sp := fun vs H Q _ => ∃ (a : Addr) (ts : List (Int × Int)) (c : Int), vs = [.ref a, .int c] ∧ TiersAt H a ts ∧ GoodT ts ∧ 1 ≤ c ∧ ∀ H', Same H H' → Q (.int (pieceM ts c)) H'
def sp_price_of (T : List Addr) : Sp := fun vs H Q _ => ∃ (a la : Addr) (os : List Ofr) (l : Ln), vs = [.ref a, .ref la] ∧ ShopAt H a os ∧ LineAt H la l ∧ LineOk os l ∧ Fit os ∧ Tb T H ∧ ∀ H', Ext T H H' → Q (.int (priceM os l)) H'
section
variable {P : Program} {w : World} {K : PySem.W.Frag} {mg : Str → Option Value} {base : Heap} {T : List Addr}
theorem ok_together {f : Addr} {fd : FuncData} {k : Nat} (M : Names mg) (D : Def K mg "together" s_together ["content", "other"] f fd) : FnOk P w K mg base CX0 (k + 1) f fd ["content", "other"] sp_together := by
  refine D.F.ok sc_together (fun vs H Q E h => ?_) (fun cdv A outer s H vs Q E hr h => ?_)
  · obtain ⟨a, b, xs, ys, rfl, _⟩ := h
    rfl
  · obtain ⟨a, b, xs, ys, rfl, ha, hb, hl, q⟩ := h
    refine ⟨_, (pss_one (ps_ret (pe_lc (own := [("number", 2), ("more", 3)]) (by rfl) sc_together.nd (pi_zip (by rfl) M.zip (pa_cons (pv 0) (pa_cons (pv 1) pa_nil))) (blkOk_by (own := [("number", 2), ("more", 3)]) (N := N_together) (sc := defScope s_together) (by decide +kernel)) (fun _ _ _ _ _ => (pg_tupK (K := K) (n := 2) rfl rfl (pgs_cons (pg_name (i := 2) sc_together.nd rfl (Or.inl rfl)) (pgs_cons (pg_name (i := 3) sc_together.nd rfl (Or.inl rfl)) pgs_nil)))) (fun _ _ _ _ _ => pts_nil) (fun _ _ _ _ _ => (pe_op op_add (pv 2) (pv 3)))))), ?_⟩
    refine ⟨_, rfl, _, rfl, a, b, _, _, rfl, SqL.of ha, SqL.of hb, fun B nB => lc_it (walk_zip (xs := xs.map V.int) (ys := ys.map V.int) rfl) (fun i H' => Same H H' ∧ H' B = some (LI ((togM xs ys).take i))) ⟨same_upd nB, upd_same⟩ (fun i H' _ hp => ⟨SqL.of (hp.1 _ _ ha), SqL.of (hp.1 _ _ hb)⟩) (fun i x H1 H2 hi hp hy => ?_) (fun H1 hp => ?_)⟩
    · obtain ⟨s1, hB⟩ := hp
      obtain ⟨Tt, x1, x2, rfl, nT, rfl, e1, e2⟩ := hy
      obtain ⟨n, hn, rfl⟩ := of_get_ints e1
      obtain ⟨m, hm, rfl⟩ := of_get_ints e2
      rw [List.length_map, List.length_map] at hi
      have hB2 := (same_upd (o := .tup [.int n, .int m]) nT) _ _ hB
      refine ⟨Tt, _, rfl, SqT.of upd_same, rfl, _, _, rfl, _, _, rfl, rfl, rfl, _, rfl, _, rfl, _, _, rfl, rfl, _, hB2, szL' (by rw [List.length_map, List.length_take]; omega), sm_new (s1.trans (same_upd nT)) nB, ?_⟩
      rw [take_succ_at (togM_get hn hm)]
      exact at_app
    · obtain ⟨s1, hB⟩ := hp
      rw [List.length_map, List.length_map, List.take_of_length_le (by rw [togM_len]; exact Nat.le_refl _)] at hB
      exact q H1 B s1 nB hB
theorem ok_content_of {f f1 : Addr} {fd fd1 : FuncData} {k : Nat} (M : Names mg) (D : Def K mg "content_of" s_content_of ["shop", "line"] f fd) (D_together : Def K mg "together" s_together ["content", "other"] f1 fd1) : FnOk P w K mg base CX0 (k + 2) f fd ["shop", "line"] sp_content_of := by
  have G_together : FnOk P w K mg base CX0 (k + 1) f1 fd1 ["content", "other"] sp_together := ok_together M D_together
  refine D.F.ok sc_content_of (fun vs H Q E h => ?_) (fun cdv A outer s H vs Q E hr h => ?_)
  · obtain ⟨a, la, os, l, rfl, _⟩ := h
    rfl
  · obtain ⟨a, la, os, l, rfl, hS, ⟨b, hl1, hl2⟩, lok, fit, q⟩ := h
    obtain ⟨vs, h1, h2, h3⟩ := id hS
    obtain ⟨p, ep, ways⟩ := lok
    have main : ∃ o, os[p]? = some o ∧ -1000 ≤ l.c ∧ l.c ≤ 1000 ∧ ∀ x ∈ l.as, ∃ j : Nat, x = (j : Int) ∧ j < os.length := by
      rcases ways with ⟨c, ts, w1, _, w2, w3, w4⟩ | ⟨c, pr, w1, w2, w3, w4⟩
      · exact ⟨_, w1, by omega, by omega, fun x hx => by rw [w4] at hx; cases hx⟩
      · refine ⟨_, w1, by omega, by omega, fun x hx => ?_⟩
        obtain ⟨j, ej, c', pr', k', hj⟩ := w4 x hx
        exact ⟨j, ej, (List.getElem?_eq_some_iff.mp hj).1⟩
    obtain ⟨o, ho, hc1, hc2, hadds⟩ := main
    have hp : p < os.length := (List.getElem?_eq_some_iff.mp ho).1
    obtain ⟨v, o', g1, g2, g3⟩ := ShopAt.get (H := H) (a := a) h2 hp
    cases Option.some.inj (g2.symm.trans ho)
    obtain ⟨bc, r, hv, hbc⟩ := (h3 p v _ g1 g2).head
    have fo := (fit _ (List.mem_of_getElem? ho)).1
    refine ⟨_, (pss_cons (ps_asg (pv 1) (pg_tup rfl (pgs_cons (pg_name (i := 5) sc_content_of.nd rfl (Or.inl rfl)) (pgs_cons (pg_name (i := 6) sc_content_of.nd rfl (Or.inr rfl)) (pgs_cons (pg_name (i := 4) sc_content_of.nd rfl (Or.inl rfl)) pgs_nil)))))
  (pss_cons (ps_setLc (i := 2) (own := [("number", 7)]) (by rfl) sc_content_of.nd rfl rfl (sw_true rfl rfl rfl (by decide +kernel)) (pi_list (pe_ix ix_tup (pe_ix ix_list (pv 0) (pv 5) (fun _ _ => rfl)) pe_int (fun _ _ => rfl))) (blkOk_by (own := [("number", 7)]) (N := N_content_of) (sc := defScope s_content_of) (by decide +kernel)) (fun _ _ _ _ _ => (pg_name (i := 7) sc_content_of.nd rfl (Or.inl rfl))) (fun _ _ _ _ _ => pts_nil) (fun _ _ _ _ _ => (pe_op op_mul (pv 6) (pv 7))))
  (pss_cons (ps_for PassesOwn.never rfl (pi_list (pv 4)) (pg_name (i := 3) sc_content_of.nd rfl (Or.inl rfl))
   (pss_one (ps_set (i := 2) sc_content_of.nd rfl (Or.inl rfl) (pe_call G_together hr (by rfl) D_together.g D_together.F.kp D_together.b .nil pass0 (pa_cons (pv 2) (pa_cons (pe_ix ix_tup (pe_ix ix_list (pv 0) (pv 3) (fun _ _ => rfl)) pe_int (fun _ _ => rfl)) pa_nil))))))
  (pss_one (ps_ret (pv 2)))))), ?_⟩
    refine ⟨_, rfl, la, _, rfl, SqT.of hl1, rfl, _, _, rfl, _, _, rfl, _, _, rfl, rfl, ?_⟩
    refine ⟨_, rfl, _, rfl, a, _, _, _, rfl, rfl, SqL.of h1, at_of ep g3, v, _, _, _, rfl, rfl, SqT.of hv, atI_nat (j := 1) rfl, bc, rfl, ⟨_, SqL.of hbc⟩, fun B nB => lc_list (xs := o.cont.map V.int) (fun j H' => Same H H' ∧ H' B = some (LI ((o.cont.take j).map (l.c * ·)))) ⟨same_upd nB, upd_same⟩ (fun j H' _ hp => SqL.of (hp.1 _ _ hbc)) (fun j x H1 hx hp => ?_) (fun H1 hp => ?_)⟩
    · obtain ⟨s1, hB⟩ := hp
      obtain ⟨n, hn, rfl⟩ := of_get_ints hx
      have hj := (List.getElem?_eq_some_iff.mp hn).1
      refine ⟨rfl, _, rfl, _, rfl, _, _, rfl, rfl, .inl ⟨by omega, by omega⟩, _, hB, szL' (by rw [List.length_map, List.length_map, List.length_take]; omega), sm_new s1 nB, ?_⟩
      rw [take_succ_at hn, List.map_append]
      exact at_app
    · obtain ⟨s1, hB⟩ := hp
      rw [List.length_map, List.take_length] at hB
      have e0 : contAt os l.p = o.cont := by rw [ep]; exact contAt_get ho
      refine ⟨_, rfl, b, rfl, ⟨_, SqL.of (s1 _ _ hl2)⟩, for_list (xs := l.as.map V.int) (fun j σ H' => ∃ (cq : Addr) (y3 : Option V), σ = [some (.ref a), some (.ref la), some (.ref cq), y3, some (.ref b), some (.int l.p), some (.int l.c), none] ∧ Same H H' ∧ H cq = none ∧ H' cq = some (LI ((l.as.take j).foldl (fun acc x => togM acc (contAt os x)) (o.cont.map (l.c * ·)))) ∧ ((l.as.take j).foldl (fun acc x => togM acc (contAt os x)) (o.cont.map (l.c * ·))).length ≤ 1000) ⟨B, _, rfl, s1, nB, hB, by rw [List.take_zero]; show (o.cont.map _).length ≤ _; rw [List.length_map]; exact fo⟩ (fun j σ H' _ hp => ?_) (fun j x σ H2 hx hp => ?_) (fun σ H2 hp => ?_)⟩
      · obtain ⟨_, _, _, s2, _⟩ := hp
        exact SqL.of (s2 _ _ hl2)
      · obtain ⟨cq, y3, rfl, s2, ncq, hcq, hlen⟩ := hp
        obtain ⟨n, hn, rfl⟩ := of_get_ints hx
        obtain ⟨j2, rfl, hj2⟩ := hadds n (List.mem_of_getElem? hn)
        obtain ⟨v2, o2, k1, k2, k3⟩ := ShopAt.get (H := H) (a := a) h2 hj2
        obtain ⟨b2, r2, hv2, hb2⟩ := (h3 j2 v2 _ k1 k2).head
        refine ⟨_, rfl, _, rfl, _, rfl, a, _, _, _, rfl, rfl, SqL.of (s2 _ _ h1), atI_nat k3, v2, _, _, _, rfl, rfl, SqT.of (s2 _ _ hv2), atI_nat (j := 1) rfl, cq, b2, _, _, rfl, hcq, s2 _ _ hb2, hlen, fun H3 q3 s3 nq3 hq3 => ?_⟩
        refine ⟨q3, _, rfl, s2.trans s3, s2.free nq3, ?_, ?_⟩
        · rw [take_succ_at hn, List.foldl_append]
          show H3 q3 = some (LI (togM _ (contAt os (j2 : Int))))
          rw [contAt_get k2]
          exact hq3
        · rw [take_succ_at hn, List.foldl_append]
          show (togM _ _).length ≤ 1000
          rw [togM_len]
          omega
      · obtain ⟨cq, y3, rfl, s2, ncq, hcq, hlen⟩ := hp
        rw [List.length_map, List.take_length] at hcq
        refine ⟨_, rfl, q H2 cq s2 ncq ?_⟩
        unfold contM
        rw [e0]
        exact hcq
theorem ok_piece_price {f : Addr} {fd : FuncData} {k : Nat} (M : Names mg) (D : Def K mg "piece_price" s_piece_price ["tiers", "count"] f fd) : FnOk P w K mg base CX0 (k + 1) f fd ["tiers", "count"] sp_piece_price := by
  refine D.F.ok sc_piece_price (fun vs H Q E h => ?_) (fun cdv A outer s H vs Q E hr h => ?_)
  · obtain ⟨a, ts, c, rfl, _⟩ := h
    rfl
  · obtain ⟨a, ts, c, rfl, ⟨us, h1, h2, h3⟩, gd, hc, q⟩ := h
    have few := gd.few
    have pos := gd.pos
    refine ⟨_, (pss_one (ps_ret (pe_ix ix_list (pe_lc (own := [("begin", 2), ("price", 3)]) (by rfl) sc_piece_price.nd (pi_list (pv 0)) (blkOk_by (own := [("begin", 2), ("price", 3)]) (N := N_piece_price) (sc := defScope s_piece_price) (by decide +kernel)) (fun _ _ _ _ _ => (pg_tupK (K := K) (n := 2) rfl rfl (pgs_cons (pg_name (i := 2) sc_piece_price.nd rfl (Or.inl rfl)) (pgs_cons (pg_name (i := 3) sc_piece_price.nd rfl (Or.inl rfl)) pgs_nil)))) (fun _ _ _ _ _ => (pts_one (pt_cmpR op_le (pv 2) (pv 1) (nomark _)))) (fun _ _ _ _ _ => (pv 3))) (pe_un un_neg pe_int) (fun _ _ => rfl)))), ?_⟩
    refine ⟨_, rfl, a, rfl, ⟨_, SqL.of h1⟩, fun B nB => lc_list (xs := us.map V.ref) (fun i H' => Same H H' ∧ H' B = some (LI (pieceL (ts.take i) c)) ∧ (pieceL (ts.take i) c).length ≤ i) ⟨same_upd nB, upd_same, Nat.le_refl _⟩ (fun i H' _ hp => SqL.of (hp.1 _ _ h1)) (fun i x H1 hx hp => ?_) (fun H1 hp => ?_)⟩
    · obtain ⟨s1, hB, hlen⟩ := hp
      rw [List.getElem?_map] at hx
      cases hu : us[i]? with
      | none => rw [hu] at hx; cases hx
      | some u =>
        rw [hu] at hx
        cases Option.some.inj hx
        have hi : i < ts.length := by
          have := (List.getElem?_eq_some_iff.mp hu).1
          omega
        have gt := List.getElem?_eq_getElem hi
        refine ⟨u, _, rfl, SqT.of (s1 _ _ (h3 i u _ hu gt)), rfl, _, _, rfl, _, _, rfl, rfl, rfl, _, rfl, _, rfl, _, _, rfl, rfl, _, rfl, ite2 (fun z => ?_) (fun z => ?_)⟩
        · have z2 := of_decide_eq_true z
          refine ⟨_, rfl, _, hB, szL' (by rw [List.length_map]; omega), sm_new s1 nB, ?_, ?_⟩
          · rw [pieceL_take gt, if_pos z2]
            exact at_app
          · rw [pieceL_take gt, if_pos z2, List.length_append, List.length_singleton]
            omega
        · have z2 : ¬ (ts[i]).1 ≤ c := fun y => z (decide_eq_true y)
          refine ⟨s1, ?_, ?_⟩
          · rw [pieceL_take gt, if_neg z2]
            exact hB
          · rw [pieceL_take gt, if_neg z2]
            omega
    · obtain ⟨s1, hB, hlen⟩ := hp
      rw [List.length_map, h2, List.take_length] at hB
      have ne : pieceL ts c ≠ [] := by
        have g0 := List.getElem?_eq_getElem (show 0 < ts.length by omega)
        have e1 := gd.one _ g0
        have hm : (ts[0]'(by omega)) ∈ ts.filter fun t => decide (t.1 ≤ c) := List.mem_filter.mpr ⟨List.getElem_mem _, decide_eq_true (by omega)⟩
        intro z
        unfold pieceL at z
        rw [List.map_eq_nil_iff] at z
        rw [z] at hm
        cases hm
      have hneg : atI ((pieceL ts c).map V.int) (-1) = some (.int (pieceM ts c)) := by
        have e : pieceL ts c = (pieceL ts c).dropLast ++ [pieceM ts c] := by
          unfold pieceM
          rw [List.getLastD_eq_getLast?, List.getLast?_eq_getLast ne]
          exact (List.dropLast_concat_getLast ne).symm
        rw [e, List.map_append]
        exact atI_last _ _
      exact ⟨1, rfl, B, _, -1, _, rfl, rfl, SqL.of hB, hneg, q H1 s1⟩
end
/-! ### price_of -/
/-- the element: shop[add][2] -/
def RPr (H0 : Hp → Prop) : L2.St → Hp → List V → (Nat → Int) → Prop := fun σ H xs val => ∃ (a : Addr) (os : List Ofr) (as : List Int), σ[0]? = some (some (.ref a)) ∧ ShopAt H a os ∧ xs = as.map V.int ∧ (∀ x ∈ as, ∃ j : Nat, x = (j : Int) ∧ ∃ c p k, os[j]? = some (.add c p k)) ∧ val = fun i => addPr os (as.getD i 0)
theorem preSum_map (os : List Ofr) (as : List Int) : ∀ n, n ≤ as.length → preSum (fun i => addPr os (as.getD i 0)) n = ((as.take n).map (addPr os)).sum
  | 0, _ => rfl
  | n + 1, h => by
    have ih := preSum_map os as n (by omega)
    have g := List.getElem?_eq_getElem (show n < as.length by omega)
    show preSum _ n + addPr os (as.getD n 0) = _
    rw [ih, take_succ_at g, List.map_append, List.sum_append, List.getD_eq_getElem?_getD, g]
    simp
theorem sum_bound (os : List Ofr) : ∀ (as : List Int), (∀ x ∈ as, -10000000000000000 ≤ addPr os x ∧ addPr os x ≤ 10000000000000000) → -(10000000000000000 * (as.length : Int)) ≤ (as.map (addPr os)).sum ∧ (as.map (addPr os)).sum ≤ 10000000000000000 * (as.length : Int)
  | [], _ => by simp
  | a :: r, h => by
    have ih := sum_bound os r fun x hx => h x (List.mem_cons_of_mem _ hx)
    have h1 := h a List.mem_cons_self
    rw [List.map_cons, List.sum_cons, List.length_cons]
    omega
section
variable {P : Program} {w : World} {K : PySem.W.Frag} {mg : Str → Option Value} {base : Heap} {T : List Addr}
theorem ok_price_of {f f1 c t : Addr} {fd fd1 : FuncData} {k : Nat} (M : Names mg) (D : Def K mg "price_of" s_price_of ["shop", "line"] f fd) (hc : fd.code = .ref c) (TB : GxR.TabB base mg c t) (ht : t ∈ T) (D_piece_price : Def K mg "piece_price" s_piece_price ["tiers", "count"] f1 fd1) : FnOk P w K mg base CX0 (k + 2) f fd ["shop", "line"] (sp_price_of T) := by
  have G_piece_price : FnOk P w K mg base CX0 (k + 1) f1 fd1 ["tiers", "count"] sp_piece_price := ok_piece_price M D_piece_price
  refine okc D.F hc sc_price_of (fun vs H Q E h => ?_) (fun cdv A outer s H vs Q E ec hr h => ?_)
  · obtain ⟨a, la, os, l, rfl, _⟩ := h
    rfl
  · obtain ⟨a, la, os, l, rfl, hS, ⟨b, hl1, hl2⟩, lok, fit, hT, q⟩ := h
    obtain ⟨vs, h1, h2, h3⟩ := id hS
    obtain ⟨p, ep, ways⟩ := lok
    refine ⟨_, (pss_cons (ps_asg (pv 1) (pg_tup rfl (pgs_cons (pg_name (i := 3) sc_price_of.nd rfl (Or.inl rfl)) (pgs_cons (pg_name (i := 4) sc_price_of.nd rfl (Or.inl rfl)) (pgs_cons (pg_name (i := 5) sc_price_of.nd rfl (Or.inl rfl)) pgs_nil)))))
  (pss_cons (ps_set (i := 2) sc_price_of.nd rfl (Or.inl rfl) (pe_ix ix_list (pv 0) (pv 3) (fun _ _ => rfl)))
  (pss_cons (ps_if (pt_cmpR op_eq (pe_ix ix_tup (pv 2) pe_int (fun _ _ => rfl)) pe_str (nomark _))
   (pss_one (ps_ret (pe_op op_mul (pv 4) (pe_call G_piece_price hr (by rfl) D_piece_price.g D_piece_price.F.kp D_piece_price.b .nil pass0 (pa_cons (pe_ix ix_tup (pv 2) pe_int (fun _ _ => rfl)) (pa_cons (pv 4) pa_nil))))))
   pss_nil)
  (pss_one (ps_ret (pe_op op_add (pe_ix ix_tup (pv 2) pe_int (fun _ _ => rfl)) (pe_sumList (R := RPr (fun _ => True)) hr (by rfl) M.sum (by decide +kernel) TB ec ⟨rfl, rfl, by decide +kernel, rfl, rfl, (by show ∀ y : Str × NameKind, y ∈ _ → y.2 = .free → (defScope s_price_of).names.lookup y.1 = some .cell; decide +kernel)⟩ (pv 5) ?el))))))), ?_⟩
    case el =>
      intro pins σ H1 s1 xs val I1 hT1 hR cenv A' E' i v va s₂ m₂ c1 c2 c3 c4 c5 hv rva hn hma hk
      obtain ⟨a1, os1, as1, e0, ⟨vs1, k1, k2, k3⟩, rfl, hadds, rfl⟩ := hR
      obtain ⟨n, hnn, rfl⟩ := of_get_ints hv
      obtain ⟨t2, rfl⟩ := rva
      obtain ⟨j, rfl, cc', pp, kk, hj⟩ := hadds n (List.mem_of_getElem? hnn)
      have lj : j < os1.length := (List.getElem?_eq_some_iff.mp hj).1
      obtain ⟨v1, o1, g1, g2, g3⟩ := ShopAt.get (H := H1) (a := a1) k2 lj
      cases Option.some.inj (g2.symm.trans hj)
      obtain ⟨b1, hv1, _⟩ := k3 j v1 _ g1 g2
      obtain ⟨m1, hns1, hl1'⟩ := I1.loc
      obtain ⟨u, ru, lk⟩ := hl1' 0 "shop" _ rfl e0 (.inr (.inl rfl))
      cases ru
      rcases lk with ⟨kk', _⟩ | ⟨_, cc, hcc, hcell⟩
      · exact absurd (show (defScope s_price_of).names.lookup ("shop" : Str) = some .local from kk') (by decide +kernel)
      · obtain ⟨its, rv, pl, hz⟩ := I1.list (SqL.of k1)
        obtain ⟨itst, rvt, plt, hzt⟩ := I1.tuple (SqT.of hv1)
        obtain ⟨oc, eoc, doc⟩ := id hcell
        have ncP : cc ≠ t := tab_ne I1 hT1 eoc (.inr fun vs z => by rw [doc] at z; cases z)
        obtain ⟨oa, ea, ca, na, da⟩ := id pl.isList
        have naP : a1 ≠ t := tab_ne I1 hT1 ea (.inl (by rw [ca]; exact fun z => nomatch z))
        obtain ⟨ot, et, ct, nt, dt⟩ := id plt
        have nvP : v1 ≠ t := tab_ne I1 hT1 et (.inl (by rw [ct]; exact fun z => nomatch z))
        have hcell2 : s₂.heap.IsCell cc (some (.ref a1)) := ⟨oc, hk _ _ ncP eoc, doc⟩
        have hL2 : s₂.heap.IsList a1 its.toArray := pl.isList.at fun o e => hk _ _ naP e
        have hT2 : IsTup s₂.heap v1 itst.toArray := ⟨ot, hk _ _ nvP et, ct, nt, dt⟩
        have hcl : cenv.cells.lookup ("shop" : Str) = some cc := by
          rw [c2]
          show some (((envOfC "price_of" (defScope s_price_of) s.heap.objs.size f cdv).cells.lookup ("shop" : Str)).getD 0) = some cc
          rw [show (envOfC "price_of" (defScope s_price_of) s.heap.objs.size f cdv).cells.lookup ("shop" : Str) = some cc from hcc]
          rfl
        have sk : cenv.scope.kind = .function := by rw [c1]
        have hn63 := line63
        obtain ⟨uj, hu1, ru1⟩ := rv.get g3
        cases ru1
        obtain ⟨up, hu2, ru2⟩ := rvt.get (show ([V.str "add", V.ref b1, V.int pp, V.int kk] : List V)[2]? = some (.int pp) from rfl)
        obtain ⟨tp, rfl⟩ := ru2
        have lv := rv.length
        have lvt := rvt.length
        rw [List.length_map] at lv
        have l4 : itst.length = 4 := by rw [← lvt]; rfl
        refine Subscript_ (Subscript_ (wpAny_Name (wpAny_loadName_free sk (by show cenv.scope.names.lookup ("shop" : Str) = _; rw [c1]; rfl) hcl hcell2 (wpAny_Name (wpAny_loadName_local sk (by show cenv.scope.names.lookup ("add" : Str) = _; rw [c1]; rfl) hn hma ?_)))))
        have hz' : os1.length ≤ sizeLine := by
          have := hz
          rw [List.length_map, k2] at this
          exact this
        have hj63 : (j : Int) < 2 ^ 63 := by omega
        refine item_listR hL2 (by omega) hj63 (x := .ref v1) (by rw [Int.toNat_natCast]; simpa using hu1) ?_
        refine wpAny_Constant_int ?_
        refine subscriptTail_builtinR (x := .int pp tp) hT2.typeIs slot_tuple_getitem.lookup (getItem_tuple (s := { s₂ with toks := s₂.toks + 1 }) (j := 2) (Q := fun r s' => r = .int pp tp ∧ (∃ t, r = .int (addPr os1 (as1.getD i 0)) t) ∧ Keeps s₂ s') hT2 (by decide) (by decide) (by rw [List.size_toArray, l4]; exact (ixN_seq (ixN_nat (n := 4) (j := 2) (by decide))).1) (by simpa using hu2) ⟨rfl, ⟨tp, ?_⟩, GxR.keeps_tok _ _⟩) rfl
        rw [show as1.getD i 0 = ((j : Nat) : Int) by rw [List.getD_eq_getElem?_getD, hnn]; rfl]
        unfold addPr
        rw [Int.toNat_natCast, hj]
    refine ⟨_, rfl, la, _, rfl, SqT.of hl1, rfl, _, _, rfl, _, _, rfl, _, _, rfl, rfl, ?_⟩
    rcases ways with ⟨c0, ts, w1, w0, w2, w3, w4⟩ | ⟨c0, pr, w1, w2, w3, w4⟩
    · have hp : p < os.length := (List.getElem?_eq_some_iff.mp w1).1
      obtain ⟨v, o', g1, g2, g3⟩ := ShopAt.get (H := H) (a := a) h2 hp
      cases Option.some.inj (g2.symm.trans w1)
      obtain ⟨bc, tt, hv, hbc, hts⟩ := h3 p v _ g1 g2
      refine ⟨_, rfl, _, rfl, a, _, _, _, rfl, rfl, SqL.of h1, at_of ep g3, ?_⟩
      refine ⟨_, rfl, v, _, _, _, rfl, rfl, SqT.of hv, atI_nat (j := 0) rfl, rfl, true, rfl, ?_⟩
      refine ⟨_, rfl, _, rfl, v, _, _, _, rfl, rfl, SqT.of hv, atI_nat (j := 2) rfl, _, rfl, tt, ts, l.c, rfl, hts, w0, w2, fun H1 s1 => ⟨_, _, rfl, rfl, .inl ⟨by omega, by omega⟩, ?_⟩⟩
      have e := q H1 (.same s1 hT)
      unfold priceM at e
      rw [ep, Int.toNat_natCast, w1] at e
      exact e
    · have hp : p < os.length := (List.getElem?_eq_some_iff.mp w1).1
      obtain ⟨v, o', g1, g2, g3⟩ := ShopAt.get (H := H) (a := a) h2 hp
      cases Option.some.inj (g2.symm.trans w1)
      obtain ⟨bc, hv, hbc⟩ := h3 p v _ g1 g2
      have bnd : ∀ x ∈ l.as, -10000000000000000 ≤ addPr os x ∧ addPr os x ≤ 10000000000000000 := fun x hx => by
        obtain ⟨j, rfl, c', p', k', hj⟩ := w4 x hx
        have := (fit _ (List.mem_of_getElem? hj)).2 c' p' k' rfl
        unfold addPr
        rw [Int.toNat_natCast, hj]
        exact this
      have bsub : ∀ n, n ≤ l.as.length → InLong (((l.as.take n).map (addPr os)).sum) := fun n hn => by
        have := sum_bound os (l.as.take n) fun x hx => bnd x (List.mem_of_mem_take hx)
        rw [List.length_take, Nat.min_eq_left hn] at this
        unfold InLong
        omega
      refine ⟨_, rfl, _, rfl, a, _, _, _, rfl, rfl, SqL.of h1, at_of ep g3, ?_⟩
      refine ⟨_, rfl, v, _, _, _, rfl, rfl, SqT.of hv, atI_nat (j := 0) rfl, rfl, false, rfl, ?_⟩
      refine ⟨_, rfl, v, _, _, _, rfl, rfl, SqT.of hv, atI_nat (j := 2) rfl, _, rfl, b, _, (fun i => addPr os (l.as.getD i 0)), rfl, SqL.of hl2, hT t ht, ⟨a, os, l.as, rfl, hS, rfl, w4, rfl⟩, fun j hj => ?_, fun H2 t2 => ⟨_, _, rfl, rfl, ?_⟩⟩
      · rw [List.length_map] at hj
        refine ⟨?_, ?_⟩
        · have := bnd _ (List.getElem_mem hj)
          show InLong (addPr os (l.as.getD j 0))
          rw [show l.as.getD j 0 = l.as[j] by rw [List.getD_eq_getElem?_getD, List.getElem?_eq_getElem hj]; rfl]
          unfold InLong
          omega
        · rw [preSum_map os l.as (j + 1) (by omega)]
          exact bsub _ (by omega)
      · rw [List.length_map, preSum_map os l.as _ (Nat.le_refl _), List.take_length]
        have e := q H2 (.tabbed hT t2 ht)
        unfold priceM at e
        rw [ep, Int.toNat_natCast, w1] at e
        exact e
end
/-! ### any(xs) of ints; tuple(xs) at a written K -/
theorem truth_ints {prog : Program} {w : World} {A : Around} {ns : List Int} {its : List Value} (rv : Vals (ns.map V.int) its) :
    TruthOf prog w A (fun i v => its.toArray[i]? = some v) (fun i => (ns.getD i 0) != 0) := by
  intro i v s Q E at_ q
  have inIts : its[i]? = some v := by simpa using at_
  have li : i < ns.length := List.length_map (f := V.int) ▸ rv.length.symm ▸ (List.getElem?_eq_some_iff.mp inIts).1
  obtain ⟨_, hu, t, rfl⟩ := rv.get (get_ints (List.getElem?_eq_getElem li))
  cases inIts.symm.trans hu
  have same : ns.getD i 0 = ns[i] := by
    rw [List.getD_eq_getElem?_getD, List.getElem?_eq_getElem li]
    rfl
  exact PySem.P.truthy_int (same ▸ q)
def anyI (ns : List Int) : Bool := ns.any (· != 0)
theorem anyI_range : ∀ ns : List Int, (List.range ns.length).any (fun i => (ns.getD i 0) != 0) = anyI ns
  | [] => rfl
  | b :: bs => by
    unfold anyI
    rw [List.length_cons, List.range_succ_eq_map, List.any_cons, List.any_map, List.any_cons]
    have ih := anyI_range bs
    unfold anyI at ih
    rw [← ih]
    rfl
def rAnyI (K : PySem.W.Frag) : List V → Hp → VK → Prop := fun vs H Q => ∃ (a : Addr) (ns : List Int), vs = [V.ref a] ∧ SqL K H a (ns.map V.int) ∧ Q (.bl (anyI ns)) H
theorem cr_anyI {X : Cx} (hc : X.calm = true) : CallR X (.builtin "any") (rAnyI X.K) := by
  rintro pins s σ H _ us Q I r ⟨a, ns, rfl, held, q⟩
  obtain ⟨its, rv, there, _⟩ := I.list held
  have many : its.length = ns.length := rv.length.symm.trans (List.length_map ..)
  cases Vals.ref1 r
  refine call_any_walk (iter_any there.isList ?_)
  rintro t rfl st apart
  refine ⟨_, _, _, _, _, _, _, rfl, Walks.list (A := X.A.in1) (I.ok.hd hc) _ a apart its.toArray, st, truth_ints rv, fun h' tk more => ⟨.bl _, H, I.kept fun b o e => more b o (fun z => ?_) (Heap.get?_push_of_some _ e), ?_, q⟩⟩
  · cases List.mem_singleton.mp z
    exact Nat.lt_irrefl _ (Heap.lt_size e)
  · exact congrArg Value.bool (by rw [← anyI_range, List.size_toArray, many])
theorem cr_anyIK {X : Cx} {K : PySem.W.Frag} (h : X.K = K) (hc : X.calm = true) : CallR X (.builtin "any") (rAnyI K) := by subst h; exact cr_anyI hc
theorem pe_tupleOfK {X : Cx} {K : PySem.W.Frag} {a : Expr} {ta : TE} {p pos : Pos} (h : X.K = K) (hg : Gl X "tuple") (hm : X.mg "tuple" = none) (ha : PE X a ta) (na : starEach [a] X.env = (false, eval a X.env) :: starEach [] X.env := by rfl) :
    PE X (.Call (.Name "tuple" p) [a] [] pos) (tThen ta (kTup K)) := by subst h; exact pe_tupleOf hg hm ha na
/-! ### had -/
abbrev s_had : Stmt := topS 24
abbrev N_had : List Str := ["content", "thing"]
theorem sc_had : FnScope N_had ["content", "thing"] (defScope s_had) := ⟨rfl, rfl, rfl, by decide +kernel, rfl, by decide +kernel, by decide +kernel⟩

def hadM (cs : List Int) (i : Nat) : Int := cs.getD i 0
theorem hadM_in {cs : List Int} {i : Nat} (h : i < cs.length) : cs[i]? = some (hadM cs i) := by
  unfold hadM
  rw [List.getD_eq_getElem?_getD, List.getElem?_eq_getElem h]
  rfl
theorem hadM_out {cs : List Int} {i : Nat} (h : ¬ i < cs.length) : hadM cs i = 0 := by
  unfold hadM
  rw [List.getD_eq_getElem?_getD, List.getElem?_eq_none (by omega)]
  rfl
def sp_had (K : PySem.W.Frag) : Sp := fun vs H Q _ => ∃ (a : Addr) (cs : List Int) (i : Nat), vs = [.ref a, .int i] ∧ SqL K H a (cs.map V.int) ∧ Q (.int (hadM cs i)) H
section
variable {P : Program} {w : World} {K : PySem.W.Frag} {mg : Str → Option Value} {base : Heap}
theorem ok_had {f : Addr} {fd : FuncData} {k : Nat} (M : Names mg) (D : Def K mg "had" s_had ["content", "thing"] f fd) : FnOk P w K mg base CX0 (k + 1) f fd ["content", "thing"] (sp_had K) := by
  refine D.F.ok sc_had (fun vs H Q E h => ?_) (fun cdv A outer s H vs Q E hr h => ?_)
  · obtain ⟨a, cs, i, rfl, _⟩ := h
    rfl
  · obtain ⟨a, cs, i, rfl, ha, q⟩ := h
    refine ⟨_, (pss_one (ps_ret (pe_ifExp (pt_cmpR op_lt (pv 1) (pe_callB call_len_seq (by rfl) M.len (by decide +kernel) (pa_cons (pv 0) pa_nil)) (nomark _)) (pe_ix ix_list (pv 0) (pv 1) (fun _ _ => rfl)) pe_int))), ?_⟩
    refine ⟨_, rfl, _, rfl, a, _, rfl, .inl ha, _, _, rfl, rfl, _, rfl, ite2 (fun c => ?_) (fun c => ?_)⟩
    · have c2 : (i : Int) < ((cs.map V.int).length : Int) := of_decide_eq_true c
      rw [List.length_map] at c2
      exact ⟨_, rfl, _, rfl, a, _, _, _, rfl, rfl, ha, atI_nat (get_ints (hadM_in (by omega))), q⟩
    · have c2 : ¬ (i : Int) < ((cs.map V.int).length : Int) := fun z => c (decide_eq_true z)
      rw [List.length_map] at c2
      rw [hadM_out (by omega)] at q
      exact q
/-- had, called where nothing is known of the frames: all objects stay -/
theorem had_quiet {f : Addr} {fd : FuncData} {mb : Str → Option Value} (M : Names mg) (D : Def K mg "had" s_had ["content", "thing"] f fd) {A' : Around} {E' : Value → Shared → Prop} {s : Shared} {L : Addr} {cs : List Int} {its : List Value} {i : Nat} {t : Tok} (KX : K.In s.heap)
    (hg : s.heap.Ns mainGlobals mg) (hb : s.heap.Ns builtinsNs mb) (hbb : ∀ x : Str, x ≠ "__name__" → mb x = bootBuiltins x) (hlim : s.heap.NoLimit) (hA : A'.depth < recursionLimit)
    (hL : s.heap.IsList L its.toArray) (rv : Vals (cs.map V.int) its) (hz : cs.length ≤ sizeLine) :
    wpAny (model P w) A' (call (.ref f) [.ref L, .int i t]) (fun y s₃ => (∃ t', y = .int (hadM cs i) t') ∧ Keeps s s₃) E' s := by
  obtain ⟨oc, od, kV, doc, pm, an, cdv, ct, osl, rfl, lk, hcd⟩ := D.F.ex
  refine wpAny_call (Att.call_fn KX hlim lk hcd hA (D.b s [.ref L, .int i t] KX rfl) (by rfl) (fun s₁ x => ?_) rfl rfl rfl)
  obtain ⟨h1, tk1, e1, keep1⟩ := x.done
  have hn := x.toInCall.ns
  subst e1
  have hL1 : h1.IsList L its.toArray := hL.at fun o e => keep1 L o e
  have hll := rv.length
  rw [List.length_map] at hll
  have hn63 := line63
  have fin : ∀ (v : Value) (s' : Shared), (∃ t', v = .int (hadM cs i) t') → Keeps { s with heap := h1, toks := tk1 } s' → (∃ t', v = .int (hadM cs i) t') ∧ Keeps s s' := fun v s' hv ⟨h', tk', e, kk⟩ => ⟨hv, h', tk', e, fun b o e => kk b o (keep1 b o e)⟩
  have nameC : ∀ {Q : Value → Shared → Prop} {E : Value → Shared → Prop} {pos : Pos} {tk : Nat}, Q (.ref L) { s with heap := h1, toks := tk } → wpAny (model P w) (A'.deeper (envOfC "had" (defScope s_had) s.heap.objs.size f cdv)) (eval (.Name "content" pos) (envOfC "had" (defScope s_had) s.heap.objs.size f cdv)) Q E { s with heap := h1, toks := tk } := fun h => wpAny_Name (wpAny_loadName_local rfl rfl hn rfl h)
  have nameT : ∀ {Q : Value → Shared → Prop} {E : Value → Shared → Prop} {pos : Pos} {tk : Nat}, Q (.int i t) { s with heap := h1, toks := tk } → wpAny (model P w) (A'.deeper (envOfC "had" (defScope s_had) s.heap.objs.size f cdv)) (eval (.Name "thing" pos) (envOfC "had" (defScope s_had) s.heap.objs.size f cdv)) Q E { s with heap := h1, toks := tk } := fun h => wpAny_Name (wpAny_loadName_local rfl rfl hn rfl h)
  show wpAny _ _ (execs (defBody s_had) (envOfC "had" (defScope s_had) s.heap.objs.size f cdv)) _ _ _
  refine wpAny_execs_cons (wpAny_Return_some (wpAny_IfExp (wpAny_isTrue_Compare1 (nameT ?_))))
  refine wpAny_Call_Name_kw (Calls.Name_function_global rfl rfl (Calls.loadGlobal_builtin (hg.keeps keep1) M.len (hb.keeps keep1) ((hbb "len" (by decide)).trans boot_len) ?_))
  refine PyProof.Rows.callWith_builtin1 (Calls.spliced_cons (nameC (Calls.spliced_nil ?_)))
  refine Calls.call_len_list (hl := hL1) (by rw [List.size_toArray]; omega) ?_
  refine lt_int (wpAny_truthy_bool ?_)
  by_cases c : (i : Int) < (its.toArray.size : Int)
  · rw [decide_eq_true c]
    rw [List.size_toArray] at c
    have hi : i < cs.length := by omega
    obtain ⟨u, hu, ru⟩ := rv.get (get_ints (hadM_in hi))
    obtain ⟨t', rfl⟩ := ru
    refine Subscript_ (nameC (nameT ?_))
    refine item_listR hL1 (by omega) (by omega) (x := .int (hadM cs i) t') (by rw [Int.toNat_natCast]; simpa using hu) ?_
    exact fin _ _ ⟨t', rfl⟩ ⟨_, _, rfl, fun b o e => e⟩
  · rw [decide_eq_false c]
    rw [List.size_toArray] at c
    refine wpAny_Constant_int ?_
    exact fin _ _ ⟨_, by rw [hadM_out (by omega)]⟩ ⟨_, _, rfl, fun b o e => e⟩
end
abbrev s_rest : Stmt := topS 25
abbrev N_rest : List Str := ["want", "content", "thing", "number"]
theorem sc_rest : FnScope N_rest ["want", "content"] (defScope s_rest) := ⟨rfl, rfl, rfl, by decide +kernel, rfl, by decide +kernel, by decide +kernel⟩

/-! ### rest -/
def restM (ws cs : List Int) : List Int := (List.range ws.length).map fun i => if ws.getD i 0 - hadM cs i > 0 then ws.getD i 0 - hadM cs i else 0
theorem restM_get {ws cs : List Int} {i : Nat} {n : Int} (h : ws[i]? = some n) : (restM ws cs)[i]? = some (if n - hadM cs i > 0 then n - hadM cs i else 0) := by
  have hi : i < ws.length := (List.getElem?_eq_some_iff.mp h).1
  unfold restM
  rw [List.getElem?_map, List.getElem?_range hi]
  show some (if ws.getD i 0 - hadM cs i > 0 then ws.getD i 0 - hadM cs i else 0) = _
  rw [show ws.getD i 0 = n by rw [List.getD_eq_getElem?_getD, h]; rfl]
theorem restM_len (ws cs : List Int) : (restM ws cs).length = ws.length := by
  unfold restM
  rw [List.length_map, List.length_range]
def sp_rest (K : PySem.W.Frag) : Sp := fun vs H Q _ => ∃ (a b : Addr) (ws cs : List Int), vs = [.ref a, .ref b] ∧ SqL K H a (ws.map V.int) ∧ SqL K H b (cs.map V.int) ∧ ws.length ≤ 1000 ∧ ∀ H' p, Same H H' → H p = none → H' p = some (LI (restM ws cs)) → Q (.ref p) H'
section
variable {P : Program} {w : World} {K : PySem.W.Frag} {mg : Str → Option Value} {base : Heap}
theorem ok_rest {f fh : Addr} {fd fdh : FuncData} {k : Nat} (M : Names mg) (D : Def K mg "rest" s_rest ["want", "content"] f fd) (D_had : Def K mg "had" s_had ["content", "thing"] fh fdh) : FnOk P w K mg base CX0 (k + 2) f fd ["want", "content"] (sp_rest K) := by
  have G_had : FnOk P w K mg base CX0 (k + 1) fh fdh ["content", "thing"] (sp_had K) := ok_had M D_had
  refine D.F.ok sc_rest (fun vs H Q E h => ?_) (fun cdv A outer s H vs Q E hr h => ?_)
  · obtain ⟨a, b, ws, cs, rfl, _⟩ := h
    rfl
  · obtain ⟨a, b, ws, cs, rfl, ha, hb, hl, q⟩ := h
    refine ⟨_, (pss_one (ps_ret (pe_lc (own := [("thing", 2), ("number", 3)]) (by rfl) sc_rest.nd (pi_enum (by rfl) M.enumerate (pa_cons (pv 0) pa_nil)) (blkOk_by (own := [("thing", 2), ("number", 3)]) (N := N_rest) (sc := defScope s_rest) (by decide +kernel)) (fun _ _ _ _ _ => (pg_tupK (K := K) (n := 2) rfl rfl (pgs_cons (pg_name (i := 2) sc_rest.nd rfl (Or.inl rfl)) (pgs_cons (pg_name (i := 3) sc_rest.nd rfl (Or.inl rfl)) pgs_nil)))) (fun _ _ _ _ _ => pts_nil) (fun _ _ _ _ _ => (pe_callB (call_max2 rfl) (by rfl) M.max (by decide +kernel) (pa_cons pe_int (pa_cons (pe_op op_sub (pv 3) (pe_call G_had hr (by rfl) D_had.g D_had.F.kp D_had.b .nil pass0 (pa_cons (pv 1) (pa_cons (pv 2) pa_nil)))) pa_nil))))))), ?_⟩
    refine ⟨_, rfl, a, _, rfl, ha, fun L nL => lc_it (walk_enum (xs := ws.map V.int)) (fun i H' => Same H H' ∧ H' L = some (LI ((restM ws cs).take i))) ⟨same_upd nL, upd_same⟩ (fun i H' _ hp => hp.1.seq ha) (fun i x H1 H2 hi hp hy => ?_) (fun H1 hp => ?_)⟩
    · obtain ⟨s1, hL⟩ := hp
      obtain ⟨T, x1, x2, rfl, nT, rfl, e1, e2⟩ := hy
      cases Option.some.inj e1
      obtain ⟨n, hn, rfl⟩ := of_get_ints e2
      have nLT : L ≠ T := ne_of_none hL nT
      have s2 : Same H (upd H1 T (.tup [.int (i : Nat), .int n])) := s1.trans (same_upd nT)
      rw [List.length_map] at hi
      refine ⟨T, _, rfl, SqT.of upd_same, rfl, _, _, rfl, _, _, rfl, rfl, rfl, _, rfl, _, rfl, _, rfl, b, cs, i, rfl, s2.seq hb, _, _, rfl, rfl, _, _, rfl, _, (by rw [upd_ne nLT]; exact hL), szL' (by rw [List.length_map, List.length_take]; omega), sm_new s2 nL, ?_⟩
      rw [take_succ_at (restM_get hn)]
      exact at_app
    · obtain ⟨s1, hL⟩ := hp
      rw [List.length_map, List.take_of_length_le (by rw [restM_len]; omega)] at hL
      exact q _ L s1 nL hL
end
/-! ### small numbers -/
def casesM (ws : List Int) : Int := ws.foldl (fun p w => p * (w + 1)) 1
theorem casesM_take {ws : List Int} {i : Nat} {x : Int} (h : ws[i]? = some x) : casesM (ws.take (i + 1)) = casesM (ws.take i) * (x + 1) := by
  unfold casesM
  rw [take_succ_at h, List.foldl_append]
  rfl
theorem first_at : ∀ {l : List Int} {x : Int}, x ∈ l → ∃ j : Nat, l[j]? = some x ∧ ∀ (m : Nat) y, m < j → l[m]? = some y → y ≠ x
  | a :: r, x, h => by
    by_cases e : a = x
    · subst e
      exact ⟨0, rfl, fun m y hm => absurd hm (Nat.not_lt_zero _)⟩
    · obtain ⟨j, h1, h2⟩ := first_at (l := r) ((List.mem_cons.mp h).resolve_left fun z => e z.symm)
      refine ⟨j + 1, h1, fun m y hm hy => ?_⟩
      cases m with
      | zero =>
        have : a = y := Option.some.inj hy
        rw [← this]
        exact e
      | succ m => exact h2 m y (by omega) hy
theorem casesM_zero : ∀ (ws : List Int) (p : Int), (∀ w ∈ ws, w = 0) → ws.foldl (fun p w => p * (w + 1)) p = p
  | [], _, _ => rfl
  | a :: r, p, h => by
    have e : a = 0 := h a List.mem_cons_self
    subst e
    show r.foldl (fun p w => p * (w + 1)) (p * (0 + 1)) = p
    rw [casesM_zero r _ fun w hw => h w (List.mem_cons_of_mem _ hw)]
    omega
theorem sum_nonneg : ∀ {ws : List Int}, (∀ w ∈ ws, 0 ≤ w) → 0 ≤ ws.sum
  | [], _ => by decide
  | a :: r, h => by
    have h1 := h a List.mem_cons_self
    have h2 := sum_nonneg (ws := r) fun w hw => h w (List.mem_cons_of_mem _ hw)
    rw [List.sum_cons]
    omega
theorem sum_get : ∀ {ws : List Int} {j : Nat} {x : Int}, (∀ w ∈ ws, 0 ≤ w) → ws[j]? = some x → x ≤ ws.sum
  | [], j, x, _, h => by simp at h
  | a :: r, 0, x, hh, h => by
    have e : a = x := Option.some.inj h
    have := sum_nonneg (ws := r) fun w hw => hh w (List.mem_cons_of_mem _ hw)
    rw [List.sum_cons]
    omega
  | a :: r, j + 1, x, hh, h => by
    have h1 := hh a List.mem_cons_self
    have h2 := sum_get (ws := r) (j := j) (x := x) (fun w hw => hh w (List.mem_cons_of_mem _ hw)) h
    rw [List.sum_cons]
    omega
def Small (ws : List Int) : Prop := ∀ w ∈ ws, 0 ≤ w ∧ w ≤ 9
theorem Small.app {ws : List Int} {n : Int} (h : Small ws) (h1 : 0 ≤ n) (h2 : n ≤ 9) : Small (ws ++ [n]) := fun w hw => by
  rcases List.mem_append.mp hw with z | z
  · exact h w z
  · rw [List.mem_singleton.mp z]
    exact ⟨h1, h2⟩
theorem Small.big {ws : List Int} (h : Small ws) : ∀ w ∈ ws, -1000000 ≤ w ∧ w ≤ 1000000 := fun w hw => by
  have := h w hw
  omega
/-! ### lesser wants, in order -/
/-- 0, 1, .. n (none below nought) -/
def upto (n : Int) : List Int := (List.range (n + 1).toNat).map fun (i : Nat) => (i : Int)
def lesserF : List Int → List (List Int)
  | [] => [[]]
  | n :: w => (upto n).flatMap fun a => (lesserF w).map (a :: ·)
theorem lesserF_snoc : ∀ (w : List Int) (n : Int), lesserF (w ++ [n]) = (lesserF w).flatMap fun s => (upto n).map fun l => s ++ [l]
  | [], n => by
    show (upto n).flatMap (fun a => [[a]]) = _
    simp only [lesserF, List.flatMap_cons, List.flatMap_nil, List.append_nil, List.nil_append]
    induction upto n with
    | nil => rfl
    | cons x r ih => rw [List.flatMap_cons, List.map_cons, ih]; rfl
  | m :: w, n => by
    show (upto m).flatMap (fun a => (lesserF (w ++ [n])).map (a :: ·)) = ((upto m).flatMap fun a => (lesserF w).map (a :: ·)).flatMap _
    rw [lesserF_snoc w n, List.flatMap_assoc]
    congr 1
    funext a
    rw [List.map_flatMap, List.flatMap_map]
    congr 1
    funext s
    rw [List.map_map]
    rfl
theorem upto_length {n : Int} : (upto n).length = (n + 1).toNat := by
  unfold upto
  rw [List.length_map, List.length_range]
theorem upto_get {n : Int} {i : Nat} (h : i < (n + 1).toNat) : (upto n)[i]? = some (i : Int) := by
  unfold upto
  rw [List.getElem?_map, List.getElem?_range h]
  rfl
theorem flatMap_const_length {α β : Type} (l : List α) (f : α → List β) (c : Nat) (h : ∀ a ∈ l, (f a).length = c) : (l.flatMap f).length = l.length * c := by
  induction l with
  | nil => simp
  | cons a r ih =>
    rw [List.flatMap_cons, List.length_append, h a List.mem_cons_self, ih fun b hb => h b (List.mem_cons_of_mem _ hb), List.length_cons, Nat.add_mul]
    omega
theorem lesserF_length_cons (n : Int) (w : List Int) : (lesserF (n :: w)).length = (n + 1).toNat * (lesserF w).length := by
  show ((upto n).flatMap fun a => (lesserF w).map (a :: ·)).length = _
  rw [flatMap_const_length _ _ (lesserF w).length (fun a _ => List.length_map _), upto_length]
theorem cases_foldl : ∀ (w : List Int) (p : Int), (∀ x ∈ w, 0 ≤ x) → w.foldl (fun p w => p * (w + 1)) p = p * ((lesserF w).length : Int)
  | [], p, _ => by
    show p = p * ((1 : Nat) : Int)
    omega
  | n :: w, p, h => by
    have hn := h n List.mem_cons_self
    show w.foldl (fun p w => p * (w + 1)) (p * (n + 1)) = _
    rw [cases_foldl w _ fun x hx => h x (List.mem_cons_of_mem _ hx), lesserF_length_cons, Int.natCast_mul, Int.toNat_of_nonneg (by omega), Int.mul_assoc]
theorem casesM_lesser {w : List Int} (h : ∀ x ∈ w, 0 ≤ x) : casesM w = ((lesserF w).length : Int) := by
  unfold casesM
  rw [cases_foldl w 1 h]
  omega
/-- the next one, by the last place that is less -/
def nextF : List Int → List Int → Option (List Int)
  | a :: r, b :: w => match nextF r w with
    | some r' => some (a :: r')
    | none => if a = b then none else some ((a + 1) :: List.replicate r.length 0)
  | _, _ => none
theorem nextF_self : ∀ w : List Int, nextF w w = none
  | [] => rfl
  | a :: w => by
    unfold nextF
    rw [nextF_self w]
    simp
theorem nextF_at : ∀ (l l' r : List Int) (a b : Int), l.length = l'.length → a ≠ b → nextF (l ++ a :: r) (l' ++ b :: r) = some (l ++ (a + 1) :: List.replicate r.length 0)
  | [], [], r, a, b, _, h => by
    show nextF (a :: r) (b :: r) = some ((a + 1) :: List.replicate r.length 0)
    unfold nextF
    rw [nextF_self r]
    simp [h]
  | x :: l, y :: l', r, a, b, hl, h => by
    show nextF (x :: (l ++ a :: r)) (y :: (l' ++ b :: r)) = _
    unfold nextF
    rw [nextF_at l l' r a b (by simpa using hl) h]
    rfl
/-- what a row of lists is behind another -/
inductive Chain (w : List Int) : List (List Int) → Prop
  | one {r : List Int} (h : nextF r w = none) : Chain w [r]
  | cons {r s : List Int} {l : List (List Int)} (h : nextF r w = some s) (t : Chain w (s :: l)) : Chain w (r :: s :: l)
theorem Chain.map {w : List Int} {a n : Int} : ∀ {l : List (List Int)} {r : List Int}, Chain w (r :: l) → ∀ {rest : List (List Int)}, (a = n ∧ rest = [] ∨ a ≠ n ∧ ∃ z m, rest = z :: m ∧ z = (a + 1) :: List.replicate w.length 0 ∧ Chain (n :: w) (z :: m)) → (∀ s ∈ r :: l, s.length = w.length) →
    Chain (n :: w) (((r :: l).map (a :: ·)) ++ rest)
  | [], r, .one h, rest, hr, hlen => by
    have hrl := hlen r List.mem_cons_self
    rcases hr with ⟨e, rfl⟩ | ⟨e, z, m, rfl, ez, c⟩
    · refine .one ?_
      show nextF (a :: r) (n :: w) = none
      unfold nextF
      rw [h]
      simp [e]
    · refine .cons ?_ c
      show nextF (a :: r) (n :: w) = some z
      unfold nextF
      rw [h]
      simp [e, ez, hrl]
  | s :: l, r, .cons h t, rest, hr, hlen => by
    refine .cons ?_ (Chain.map t hr fun x hx => hlen x (List.mem_cons_of_mem _ hx))
    show nextF (a :: r) (n :: w) = some (a :: s)
    unfold nextF
    rw [h]
theorem lesserF_len : ∀ {w r : List Int}, r ∈ lesserF w → r.length = w.length
  | [], r, h => by
    rw [List.mem_singleton.mp h]
  | n :: w, r, h => by
    obtain ⟨a, _, h2⟩ := List.mem_flatMap.mp h
    obtain ⟨s, h3, rfl⟩ := List.mem_map.mp h2
    rw [List.length_cons, List.length_cons, lesserF_len h3]
/-- the tail of the order: from first number k on, d more -/
theorem chain_from {n : Int} {w : List Int} {l : List (List Int)} (hl : lesserF w = List.replicate w.length 0 :: l) (c : Chain w (lesserF w)) : ∀ (d k : Nat), ((k + d : Nat) : Int) = n →
    ∃ z m, ((List.range (d + 1)).map fun (i : Nat) => ((k + i : Nat) : Int)).flatMap (fun a => (lesserF w).map (a :: ·)) = z :: m ∧ z = (k : Int) :: List.replicate w.length 0 ∧ Chain (n :: w) (z :: m)
  | 0, k, e => by
    have c' := c
    rw [hl] at c'
    have q := Chain.map (a := (k : Int)) (n := n) c' (rest := []) (.inl ⟨by omega, rfl⟩) (fun s hs => lesserF_len (by rw [hl]; exact hs))
    refine ⟨(k : Int) :: List.replicate w.length 0, l.map ((k : Int) :: ·), ?_, rfl, ?_⟩
    · simp [hl]
    · simpa using q
  | d + 1, k, e => by
    obtain ⟨z, m, h1, h2, h3⟩ := chain_from (n := n) hl c d (k + 1) (by omega)
    have c' := c
    rw [hl] at c'
    have q := Chain.map (a := (k : Int)) (n := n) c' (rest := z :: m) (.inr ⟨by omega, z, m, rfl, by rw [h2]; rfl, h3⟩) (fun s hs => lesserF_len (by rw [hl]; exact hs))
    refine ⟨(k : Int) :: List.replicate w.length 0, l.map ((k : Int) :: ·) ++ (z :: m), ?_, rfl, ?_⟩
    · rw [List.range_succ_eq_map, List.map_cons, List.flatMap_cons, List.map_map]
      have e2 : ((fun (i : Nat) => ((k + i : Nat) : Int)) ∘ Nat.succ) = fun (i : Nat) => ((k + 1 + i : Nat) : Int) := by
        funext i
        show ((k + (i + 1) : Nat) : Int) = _
        congr 1
        omega
      rw [e2, h1, hl]
      rfl
    · simpa using q
theorem lesserF_chain : ∀ {w : List Int}, (∀ x ∈ w, 0 ≤ x) → Chain w (lesserF w) ∧ ∃ l, lesserF w = List.replicate w.length 0 :: l
  | [], _ => ⟨.one rfl, [], rfl⟩
  | n :: w, h => by
    have hn := h n List.mem_cons_self
    obtain ⟨c, l, hl⟩ := lesserF_chain (w := w) fun x hx => h x (List.mem_cons_of_mem _ hx)
    obtain ⟨z, m, h1, h2, h3⟩ := chain_from (n := n) hl c n.toNat 0 (by omega)
    have e : lesserF (n :: w) = z :: m := by
      rw [← h1]
      show (upto n).flatMap _ = _
      unfold upto
      rw [show (n + 1).toNat = n.toNat + 1 by omega]
      congr 2
      funext i
      congr 1
      omega
    rw [e]
    exact ⟨h3, m, by rw [h2]; rfl⟩
theorem Chain.at {w : List Int} : ∀ {l : List (List Int)} {i : Nat} {r : List Int}, Chain w l → l[i]? = some r → nextF r w = l[i + 1]?
  | _, 0, r, .one h, e => by
    cases Option.some.inj e
    exact h
  | _, i + 1, r, .one h, e => by simp at e
  | _, 0, r, .cons h t, e => by
    cases Option.some.inj e
    exact h
  | _, i + 1, r, .cons h t, e => by
    have q := Chain.at (i := i) (r := r) t (by simpa using e)
    simpa using q
/-! ### lesser -/
abbrev s_lesser : Stmt := topS 26
abbrev N_lesser : List Str := ["want", "begun", "number", "start", "less"]
theorem sc_lesser : FnScope N_lesser ["want"] (defScope s_lesser) := ⟨rfl, rfl, rfl, by decide +kernel, rfl, by decide +kernel, by decide +kernel⟩

/-- at D stands a list of new lists, one for each of rs -/
def Made (H1 : Hp) (D : Addr) (H' : Hp) (rs : List (List Int)) : Prop := ∃ bs : List Addr, H' D = some (.lst (bs.map V.ref)) ∧ bs.length = rs.length ∧ bs.Nodup ∧ ∀ (i : Nat) b r, bs[i]? = some b → rs[i]? = some r → H1 b = none ∧ b ≠ D ∧ H' b = some (LI r)
theorem Made.snoc {H1 H' H2 : Hp} {D p : Addr} {rs : List (List Int)} {r : List Int} (h : Made H1 D H' rs) (s1 : Same H1 H') (s2 : Same H' H2) (np : H' p = none) (hp : H2 p = some (LI r)) :
    ∃ acc, H2 D = some (.lst acc) ∧ acc.length = rs.length ∧ Made H1 D (upd H2 D (.lst (acc ++ [.ref p]))) (rs ++ [r]) := by
  obtain ⟨bs, hD, hl, nd, hr⟩ := h
  have npD : p ≠ D := (ne_of_none hD np).symm
  refine ⟨bs.map V.ref, s2 _ _ hD, by rw [List.length_map]; exact hl, bs ++ [p], ?_, ?_, ?_, fun i b r' hb hr' => ?_⟩
  · rw [upd_same, List.map_append]
    rfl
  · rw [List.length_append, List.length_append, hl]
    rfl
  · refine List.nodup_append.mpr ⟨nd, by simp, fun x hx y hy => ?_⟩
    rw [List.mem_singleton.mp hy]
    obtain ⟨i, hi, e⟩ := List.getElem_of_mem hx
    have h1 : bs[i]? = some x := by rw [List.getElem?_eq_getElem hi, e]
    obtain ⟨r0, h2⟩ : ∃ r0, rs[i]? = some r0 := ⟨rs[i]'(by omega), List.getElem?_eq_getElem (by omega)⟩
    exact ne_of_none (hr i x r0 h1 h2).2.2 np
  · rcases Nat.lt_or_ge i bs.length with hi | hi
    · rw [List.getElem?_append_left hi] at hb
      rw [List.getElem?_append_left (by omega)] at hr'
      obtain ⟨t1, t2, t3⟩ := hr i b r' hb hr'
      exact ⟨t1, t2, by rw [upd_ne t2]; exact s2 _ _ t3⟩
    · rw [List.getElem?_append_right hi] at hb
      rw [List.getElem?_append_right (by omega)] at hr'
      have e0 : i - bs.length = 0 := by
        cases e : i - bs.length with
        | zero => rfl
        | succ n => rw [e] at hb; simp at hb
      rw [← hl] at hr'
      rw [e0] at hb hr'
      cases Option.some.inj hb
      cases Option.some.inj hr'
      exact ⟨s1.free np, npD, by rw [upd_ne npD]; exact hp⟩
theorem lesserF_le : ∀ {w : List Int}, Small w → (lesserF w).length ≤ 10 ^ w.length
  | [], _ => by decide
  | n :: w, h => by
    have hn := h n List.mem_cons_self
    have ih := lesserF_le (w := w) fun x hx => h x (List.mem_cons_of_mem _ hx)
    rw [lesserF_length_cons, List.length_cons, Nat.pow_succ, Nat.mul_comm]
    exact Nat.mul_le_mul ih (by omega)
theorem lesserF_le4 {w : List Int} (h : Small w) (h4 : w.length ≤ 4) : (lesserF w).length ≤ 10000 :=
  Nat.le_trans (lesserF_le h) (Nat.le_trans (Nat.pow_le_pow_right (by decide) h4) (by decide))
def sp_lesser (K : PySem.W.Frag) : Sp := fun vs H Q _ => ∃ (a : Addr) (ws : List Int), vs = [.ref a] ∧ SqL K H a (ws.map V.int) ∧ ws.length ≤ 4 ∧ Small ws ∧
  ∀ H' p, Same H H' → H p = none → Made H p H' (lesserF ws) → Q (.ref p) H'
section
variable {P : Program} {w : World} {K : PySem.W.Frag} {mg : Str → Option Value} {base : Heap}
theorem ok_lesser {f : Addr} {fd : FuncData} {k : Nat} (M : Names mg) (D : Def K mg "lesser" s_lesser ["want"] f fd) : FnOk P w K mg base CX0 (k + 1) f fd ["want"] (sp_lesser K) := by
  refine D.F.ok sc_lesser (fun vs H Q E h => ?_) (fun cdv A outer s H vs Q E hr h => ?_)
  · obtain ⟨a, ws, rfl, _⟩ := h
    rfl
  · obtain ⟨a, ws, rfl, ha, h4, sm, q⟩ := h
    refine ⟨_, (pss_cons (ps_set (i := 1) sc_lesser.nd rfl (Or.inl rfl) (pe_lst (pa_cons (pe_lst pa_nil) pa_nil)))
  (pss_cons (ps_for PassesOwn.never rfl (pi_list (pv 0)) (pg_name (i := 2) sc_lesser.nd rfl (Or.inr rfl))
   (pss_one (ps_setLc2 (i := 1) (own := [("start", 3), ("less", 4)]) (vs1 := [4]) (by rfl) sc_lesser.nd rfl rfl (sw_true rfl rfl rfl (by decide +kernel)) (pi_list (pv 1)) (blkOk_by (own := [("start", 3), ("less", 4)]) (N := N_lesser) (sc := defScope s_lesser) (by decide +kernel)) (by decide) (fun _ _ _ _ _ => (pg_name (i := 3) sc_lesser.nd rfl (Or.inl rfl))) (fun _ _ _ _ _ => pts_nil) (fun _ _ _ _ _ => (pi_range1 (by rfl) M.range (pa_cons (pe_op op_add (pv 2) pe_int) pa_nil))) (fun _ _ _ _ _ => (pg_name (i := 4) sc_lesser.nd rfl (Or.inl rfl))) (fun _ _ _ _ _ => pts_nil) (fun _ _ _ _ _ => (pe_op op_cat (pv 3) (pe_lst (pa_cons (pv 4) pa_nil)))))))
  (pss_one (ps_ret (pv 1))))), ?_⟩
    refine ⟨Nat.zero_le _, fun z nz => ⟨by show 1 ≤ sizeLine; decide, fun b nb => ?_⟩⟩
    have nzb : z ≠ b := ne_of_none upd_same nb
    have s1 : Same H (upd H z (.lst [])) := same_upd nz
    have s2 : Same H (upd (upd H z (.lst [])) b (.lst [.ref z])) := s1.trans (same_upd nb)
    refine ⟨_, rfl, a, rfl, ⟨_, s2.seq ha⟩, for_list (xs := ws.map V.int) (fun i σ H' => ∃ p y2, σ = [some (.ref a), some (.ref p), y2, none, none] ∧ Same H H' ∧ H p = none ∧ Made H p H' (lesserF (ws.take i))) ⟨b, none, rfl, s2, s1.free nb, [z], upd_same, rfl, by simp, fun i b' r hb hr => ?_⟩ (fun i σ H' _ hp => ?_) (fun i x σ H1 hx hp => ?_) (fun σ H' hp => ?_)⟩
    · cases i with
      | succ i => simp at hb
      | zero =>
        cases Option.some.inj hb
        cases Option.some.inj hr
        exact ⟨nz, nzb, by rw [upd_ne nzb]; exact upd_same⟩
    · obtain ⟨p, y2, _, s3, _⟩ := hp
      exact s3.seq ha
    · obtain ⟨p, y2, rfl, s3, np, as, hp, hal, nd, hrows⟩ := hp
      obtain ⟨n, hn, rfl⟩ := of_get_ints hx
      have bn := sm n (List.mem_of_getElem? hn)
      have etk := take_succ_at hn
      have smk : Small (ws.take (i + 1)) := fun x hx => sm x (List.mem_of_mem_take hx)
      have big : (lesserF (ws.take (i + 1))).length ≤ 10000 := lesserF_le4 smk (by rw [List.length_take]; omega)
      rw [etk, lesserF_snoc] at big
      generalize hrs : lesserF (ws.take i) = rs at hal hrows big
      have blen : ∀ j, ((rs.take j).flatMap fun s => (upto n).map fun l => s ++ [l]).length = min j rs.length * (n + 1).toNat := fun j => by
        rw [flatMap_const_length _ _ (n + 1).toNat (fun a _ => by rw [List.length_map, upto_length]), List.length_take]
      rw [flatMap_const_length _ _ (n + 1).toNat (fun a _ => by rw [List.length_map, upto_length])] at big
      refine ⟨_, rfl, p, rfl, ⟨_, SqL.of hp⟩, fun L nL => ?_⟩
      have nLH : H L = none := s3.free nL
      refine ⟨fun j m H' => m = as.length - j ∧ j ≤ as.length ∧ Same H1 H' ∧ Made H1 L H' ((rs.take j).flatMap fun s => (upto n).map fun l => s ++ [l]), ⟨_, rfl, Nat.zero_le _, same_upd nL, [], upd_same, rfl, by simp, fun j b' r hb => by simp at hb⟩, fun j m H2 hW => ?_⟩
      obtain ⟨rfl, hj, s4, md⟩ := hW
      have hA : SqL K H2 p (as.map V.ref) := SqL.of (s4 _ _ hp)
      by_cases hjl : j < as.length
      · obtain ⟨c, hc⟩ : ∃ c, as[j]? = some c := ⟨as[j], List.getElem?_eq_getElem hjl⟩
        obtain ⟨r, hr⟩ : ∃ r, rs[j]? = some r := ⟨rs[j]'(by omega), List.getElem?_eq_getElem (by omega)⟩
        have gc : (as.map V.ref)[j]? = some (.ref c) := by rw [List.getElem?_map, hc]; rfl
        obtain ⟨nc, ncp, hcr⟩ := hrows j c r hc hr
        have hc2 := s4 _ _ hcr
        refine .inr ⟨⟨_, _, hA, gc⟩, fun H' => Same H1 H' ∧ Made H1 L H' ((rs.take (j + 1)).flatMap fun s => (upto n).map fun l => s ++ [l]), fun H' hN => ⟨_, by omega, rfl, by omega, hN⟩, fun x H3 hy => ?_⟩
        obtain ⟨rfl, fy⟩ := hy
        have ex : x = .ref c := Option.some.inj ((fy _ hA).symm.trans gc)
        subst ex
        refine ⟨rfl, _, rfl, _, _, rfl, rfl, _, rfl, by omega, by omega, fun t m' H' => m' = (n + 1).toNat - t ∧ t ≤ (n + 1).toNat ∧ Same H1 H' ∧ H' c = some (LI r) ∧ Made H1 L H' (((rs.take j).flatMap fun s => (upto n).map fun l => s ++ [l]) ++ ((upto n).take t).map fun l => r ++ [l]), ⟨_, rfl, Nat.zero_le _, s4, hc2, ?_⟩, fun t m' H4 hW1 => ?_⟩
        · rw [List.take_zero, List.map_nil, List.append_nil]
          exact md
        · obtain ⟨rfl, ht, s5, hc5, md5⟩ := hW1
          by_cases htl : t < (n + 1).toNat
          · refine .inr ⟨htl, fun H' => Same H1 H' ∧ H' c = some (LI r) ∧ Made H1 L H' (((rs.take j).flatMap fun s => (upto n).map fun l => s ++ [l]) ++ ((upto n).take (t + 1)).map fun l => r ++ [l]), fun H' hN => ⟨_, by omega, rfl, htl, hN⟩, fun x H5 hy => ?_⟩
            obtain ⟨rfl, rfl⟩ := hy
            refine ⟨rfl, _, rfl, _, rfl, by show 1 ≤ sizeLine; decide, fun u nu => ?_⟩
            have ncu : c ≠ u := ne_of_none hc5 nu
            have hc6 : upd H5 u (.lst [.int (0 + (t : Int))]) c = some (LI r) := by rw [upd_ne ncu]; exact hc5
            have hrl : r.length ≤ 4 := by
              have z := lesserF_len (w := ws.take i) (r := r) (by rw [hrs]; exact List.mem_of_getElem? hr)
              rw [z, List.length_take]
              omega
            refine ⟨c, u, _, _, rfl, rfl, hc6, upd_same, szL (by rw [List.length_map]; show r.length + 1 ≤ _; omega), fun v nv => ?_⟩
            have s6 : Same H5 (upd (upd H5 u (.lst [.int (0 + (t : Int))])) v (.lst (r.map V.int ++ [.int (0 + (t : Int))]))) := (same_upd nu).trans (same_upd nv)
            have nv5 : H5 v = none := (same_upd nu).free nv
            obtain ⟨acc, ha1, ha2, ha3⟩ := md5.snoc (r := r ++ [(0 + (t : Int))]) s5 s6 nv5 (by rw [upd_same, li_app])
            refine ⟨acc, ha1, szL' ?_, ?_, ?_, ?_⟩
            · rw [ha2, List.length_append, blen, List.length_map, List.length_take, upto_length]
              have m1 : min j rs.length = j := by omega
              have m2 : min t (n + 1).toNat ≤ 10 := by omega
              have m3 : j * (n + 1).toNat ≤ rs.length * (n + 1).toNat := Nat.mul_le_mul_right _ (by omega)
              rw [m1]
              omega
            · refine sm_new (s5.trans s6) nL
            · have ncL : c ≠ L := ne_of_none hcr nL
              rw [upd_ne ncL]
              exact s6 _ _ hc5
            · have e2 : (upto n).take (t + 1) = (upto n).take t ++ [(0 + (t : Int))] := take_succ_at (by rw [upto_get htl, Int.zero_add])
              rw [e2, List.map_append, ← List.append_assoc]
              exact ha3
          · have et : t = (n + 1).toNat := by omega
            refine .inl ⟨by show (n + 1).toNat ≤ t; omega, s5, ?_⟩
            have e2 : (upto n).take t = upto n := List.take_of_length_le (by rw [upto_length]; omega)
            rw [e2] at md5
            rw [take_succ_at hr, List.flatMap_append]
            simpa using md5
      · have ej : j = as.length := by omega
        refine .inl ⟨⟨_, hA, by rw [List.length_map]; omega⟩, ?_⟩
        rw [List.take_of_length_le (by omega)] at md
        refine ⟨L, _, rfl, s3.trans s4, nLH, ?_⟩
        rw [etk, lesserF_snoc, hrs]
        obtain ⟨bs, m1, m2, m3, m4⟩ := md
        exact ⟨bs, m1, m2, m3, fun i b r hb hr => ⟨s3.free (m4 i b r hb hr).1, (m4 i b r hb hr).2⟩⟩
    · obtain ⟨p, y2, rfl, s3, np, md⟩ := hp
      rw [List.length_map, List.take_length] at md
      exact ⟨_, rfl, q H' p s3 np md⟩
end
/-! ### tables through calls -/
theorem tabG_same {H H' : Hp} {T : Addr} (s : Same H H') (h : GxR.TabG H T) : GxR.TabG H' T := by
  obtain ⟨ps, h1, h2⟩ := h
  exact ⟨ps, s _ _ h1, h2⟩
theorem tabG_but {H H' : Hp} {T d : Addr} {xs : List V} (s : SameBut d H H') (hd : H d = some (.lst xs)) (h : GxR.TabG H T) : GxR.TabG H' T := by
  obtain ⟨ps, h1, h2⟩ := h
  exact ⟨ps, s _ _ (ne_of h1 hd (fun z => nomatch z)) h1, h2⟩
theorem tabbed_lst {H H' : Hp} {T a : Addr} {xs : List V} (t : GxR.Tabbed T H H') (hT : GxR.TabG H T) (h : H a = some (.lst xs)) : H' a = some (.lst xs) := by
  obtain ⟨ps, h1, h2⟩ := hT
  rw [t.2 a (ne_of h h1 (fun z => nomatch z))]
  exact h
theorem draw4 (x : Int) : ∃ m : Nat, 1 ≤ m ∧ m ≤ 4 ∧ 1 + x % 4 = (m : Int) := ⟨(1 + x % 4).toNat, by omega, by omega, by omega⟩
/-! ### a heap without one address; what is kept apart from tables -/
def cutH (d : Addr) (H : Hp) : Hp := fun b => if b = d then none else H b
section
variable {d : Addr} {H H' : Hp}
theorem cut_at {b : Addr} (h : b ≠ d) : cutH d H b = H b := if_neg h
theorem cut_put {b : Addr} {o : HO} (h : b ≠ d) (e : H b = some o) : cutH d H b = some o := by rw [cut_at h]; exact e
theorem cut_some {b : Addr} {o : HO} (h : cutH d H b = some o) : b ≠ d ∧ H b = some o := by
  unfold cutH at h
  by_cases e : b = d
  · rw [if_pos e] at h
    cases h
  · rw [if_neg e] at h
    exact ⟨e, h⟩
theorem cut_same (s : SameBut d H H') : Same (cutH d H) (cutH d H') := fun b o h => by
  obtain ⟨n, e⟩ := cut_some h
  exact cut_put n (s b o n e)
theorem cut_le : Same (cutH d H) H := fun _ _ h => (cut_some h).2
theorem cut_upd {u : Addr} {o : HO} (h : u ≠ d) : cutH d (upd H u o) = upd (cutH d H) u o := by
  funext b
  by_cases e : b = d
  · rw [e, upd_ne (fun z => h z.symm)]
    unfold cutH
    rw [if_pos rfl, if_pos rfl]
  · rw [cut_at e]
    by_cases e2 : b = u
    · rw [e2, upd_same, upd_same]
    · rw [upd_ne e2, upd_ne e2, cut_at e]
/-- all but tables stay -/
def Ke (H H' : Hp) : Prop := ∀ b o, H b = some o → (∀ ps, o ≠ .tbl ps) → H' b = some o
theorem Ke.refl (H : Hp) : Ke H H := fun _ _ e _ => e
theorem Ke.trans {H1 H2 : Hp} (a : Ke H H1) (b : Ke H1 H2) : Ke H H2 := fun c o e n => b c o (a c o e n) n
theorem Ke.of (s : Same H H') : Ke H H' := fun b o e _ => s b o e
theorem Ke.cut (a : Ke H H') : Ke (cutH d H) (cutH d H') := fun b o e n => by
  obtain ⟨n1, e1⟩ := cut_some e
  exact cut_put n1 (a b o e1 n)
theorem Ke.lst (a : Ke H H') {p : Addr} {xs : List V} (h : H p = some (.lst xs)) : H' p = some (.lst xs) := a _ _ h fun _ z => nomatch z
theorem Ke.tup (a : Ke H H') {p : Addr} {xs : List V} (h : H p = some (.tup xs)) : H' p = some (.tup xs) := a _ _ h fun _ z => nomatch z
theorem Ext.ke {T : List Addr} (e : Ext T H H') : Ke H H' := e.ext
theorem tb_same {T : List Addr} (s : Same H H') (h : Tb T H) : Tb T H' := fun t ht => tabG_same s (h t ht)
theorem tb_but {T : List Addr} {xs : List V} (s : SameBut d H H') (hd : H d = some (.lst xs)) (h : Tb T H) : Tb T H' := fun t ht => tabG_but s hd (h t ht)
theorem TiersAt.ke (e : Ke H H') {a : Addr} {ts : List (Int × Int)} (h : TiersAt H a ts) : TiersAt H' a ts := by
  obtain ⟨us, h1, h2, h3⟩ := h
  exact ⟨us, e.lst h1, h2, fun i u t a b => e.tup (h3 i u t a b)⟩
theorem OfrAt.ke (e : Ke H H') {a : Addr} : ∀ {o : Ofr}, OfrAt H a o → OfrAt H' a o
  | .pack c p, ⟨b, h1, h2⟩ => ⟨b, e.tup h1, e.lst h2⟩
  | .many c ts, ⟨b, t, h1, h2, h3⟩ => ⟨b, t, e.tup h1, e.lst h2, h3.ke e⟩
  | .add c p k, ⟨b, h1, h2⟩ => ⟨b, e.tup h1, e.lst h2⟩
theorem ShopAt.ke (e : Ke H H') {a : Addr} {os : List Ofr} (h : ShopAt H a os) : ShopAt H' a os := by
  obtain ⟨vs, h1, h2, h3⟩ := h
  exact ⟨vs, e.lst h1, h2, fun i v o a b => (h3 i v o a b).ke e⟩
theorem TiersAt.same (s : Same H H') {a : Addr} {ts : List (Int × Int)} (h : TiersAt H a ts) : TiersAt H' a ts := h.ke (.of s)
/-- a tier more -/
theorem TiersAt.push {F u : Addr} {ts : List (Int × Int)} {t : Int × Int} (h : TiersAt H F ts) (nu : H u = none) : ∃ xs, H F = some (.lst xs) ∧ xs.length = ts.length ∧ TiersAt (upd (upd H u (.tup [.int t.1, .int t.2])) F (.lst (xs ++ [.ref u]))) F (ts ++ [t]) := by
  obtain ⟨us, h1, h2, h3⟩ := h
  refine ⟨_, h1, by rw [List.length_map]; exact h2, us ++ [u], ?_, by rw [List.length_append, List.length_append, h2]; rfl, fun i v t' hv ht => ?_⟩
  · rw [upd_same, List.map_append]
    rfl
  · by_cases z : i < us.length
    · rw [List.getElem?_append_left z] at hv
      rw [List.getElem?_append_left (by omega)] at ht
      have e := h3 i v t' hv ht
      rw [upd_ne (ne_of e h1 (fun z => nomatch z)), upd_ne (ne_of_none e nu)]
      exact e
    · rw [List.getElem?_append_right (by omega)] at hv
      rw [List.getElem?_append_right (by omega)] at ht
      rw [← h2] at ht
      have ei : i - us.length = 0 := by
        rcases Nat.eq_zero_or_pos (i - us.length) with z | z
        · exact z
        · rw [List.getElem?_eq_none (by rw [List.length_singleton]; omega)] at hv
          cases hv
      rw [ei] at hv ht
      cases Option.some.inj hv
      cases Option.some.inj ht
      rw [upd_ne (fun z => by rw [z, h1] at nu; cases nu), upd_same]
end
/-! ### offers within bounds -/
def PriceT (ts : List (Int × Int)) : Prop := ∀ t ∈ ts, 0 ≤ t.2 ∧ t.2 < 1000000000000
theorem cut_off {d : Addr} {H : Hp} {o : HO} : cutH d (upd H d o) = cutH d H := by
  funext b
  by_cases e : b = d
  · unfold cutH
    rw [if_pos e, if_pos e]
  · rw [cut_at e, cut_at e, upd_ne e]
theorem cut_mono {d : Addr} {H H' : Hp} (s : Same H H') : Same (cutH d H) (cutH d H') := cut_same (.of s)
theorem TiersAt.cut {H : Hp} {S t : Addr} {ts : List (Int × Int)} {xs : List V} (h : TiersAt H t ts) (n : t ≠ S) (hS : H S = some (.lst xs)) : TiersAt (cutH S H) t ts := by
  obtain ⟨us, h1, h2, h3⟩ := h
  refine ⟨us, cut_put n h1, h2, fun i u t a b => ?_⟩
  have e := h3 i u t a b
  exact cut_put (ne_of e hS (fun z => nomatch z)) e
/-- contents of an offer: small, not all noughts, with at most 400 lesser ones -/
def SmallR (c : List Int) : Prop := Small c ∧ casesM c ≤ 400 ∧ ∃ x ∈ c, 0 < x
def FitO (m : Nat) : Ofr → Prop
  | .pack c p => c.length = m ∧ SmallR c ∧ 0 ≤ p ∧ p < 1000000000000
  | .many c ts => c.length = m ∧ SmallR c ∧ PriceT ts
  | .add c p _ => c.length = m ∧ SmallR c ∧ 0 ≤ p ∧ p < 1000000000000
def FitS (m : Nat) (os : List Ofr) : Prop := ∀ o ∈ os, FitO m o
theorem FitO.contR {m : Nat} : ∀ {o : Ofr}, FitO m o → o.cont.length = m ∧ SmallR o.cont
  | .pack _ _, h => ⟨h.1, h.2.1⟩
  | .many _ _, h => ⟨h.1, h.2.1⟩
  | .add _ _ _, h => ⟨h.1, h.2.1⟩
theorem FitO.cont {m : Nat} {o : Ofr} (h : FitO m o) : o.cont.length = m ∧ Small o.cont := ⟨h.contR.1, h.contR.2.1⟩
theorem FitS.fit {m : Nat} {os : List Ofr} (hm : m ≤ 4) (h : FitS m os) : Fit os := fun o ho => by
  refine ⟨?_, fun c p k e => ?_⟩
  · have := (h o ho).cont.1
    omega
  · subst e
    have := h _ ho
    exact ⟨by have := this.2.2.1; omega, by have := this.2.2.2; omega⟩
theorem FitS.push {m : Nat} {os : List Ofr} {o : Ofr} (h : FitS m os) (ho : FitO m o) : FitS m (os ++ [o]) := fun x hx => by
  rcases List.mem_append.mp hx with z | z
  · exact h x z
  · rw [List.mem_singleton.mp z]
    exact ho
theorem GoodO.mono {os : List Ofr} {i : Nat} {x : Ofr} : ∀ {o : Ofr}, GoodO os i o → GoodO (os ++ [x]) i o
  | .pack _ _, _ => True.intro
  | .many _ _, h => h
  | .add _ _ _, ⟨j, e, hj, c, p, h⟩ => ⟨j, e, hj, c, p, by rw [List.getElem?_append_left (List.getElem?_eq_some_iff.mp h).1]; exact h⟩
theorem Good.push {os : List Ofr} {o : Ofr} (h : Good os) (h8 : os.length < 8) (ho : GoodO os os.length o) : Good (os ++ [o]) := by
  refine ⟨by rw [List.length_append, List.length_singleton]; omega, fun i x hx => ?_⟩
  by_cases z : i < os.length
  · rw [List.getElem?_append_left z] at hx
    exact (h.2 i x hx).mono
  · have hi := (List.getElem?_eq_some_iff.mp hx).1
    rw [List.length_append, List.length_singleton] at hi
    have ei : i = os.length := by omega
    rw [List.getElem?_append_right (by omega), ei, Nat.sub_self] at hx
    cases Option.some.inj hx
    rw [ei]
    exact ho.mono
/-! ### lines as data -/
abbrev dInts (ns : List Int) : PyData := .list (ns.map PyData.int)
def dLine (l : Ln) : PyData := .tuple [.int l.p, .int l.c, dInts l.as]
abbrev dLines (ls : List Ln) : PyData := .list (ls.map dLine)
theorem LineAt.dp {K : PySem.W.Frag} {H : Hp} {a : Addr} {l : Ln} (h : LineAt H a l) : Dp K H (.ref a) (dLine l) := by
  obtain ⟨b, h1, h2⟩ := h
  exact .tup (SqT.of h1) (.cons (.int _) (.cons (.int _) (.cons (dp_ints (SqL.of h2)) .nil)))
theorem LineAt.same {H H' : Hp} (s : Same H H') {a : Addr} {l : Ln} (h : LineAt H a l) : LineAt H' a l := by
  obtain ⟨b, h1, h2⟩ := h
  exact ⟨b, s _ _ h1, s _ _ h2⟩
theorem LineAt.ke {H H' : Hp} (s : Ke H H') {a : Addr} {l : Ln} (h : LineAt H a l) : LineAt H' a l := by
  obtain ⟨b, h1, h2⟩ := h
  exact ⟨b, s.tup h1, s.lst h2⟩
theorem dp_lines {K : PySem.W.Frag} {H : Hp} : ∀ {as : List Addr} {ls : List Ln}, Al (LineAt H) as ls → DpAll K H (as.map V.ref) (ls.map dLine)
  | [], [], _ => .nil
  | [], _ :: _, h => h.elim
  | _ :: _, [], h => h.elim
  | _ :: _, _ :: _, h => .cons h.1.dp (dp_lines h.2)
theorem lay_line (l : Ln) : PyData.canLay0 (dLine l) = true := by
  have := lay_ints l.as
  simp [dLine, PyData.canLayAll0, PyData.canLay0, this]
theorem depth_line (l : Ln) : PyData.depth (dLine l) ≤ 2 := by
  have := depth_ints l.as
  simp only [dLine, PyData.depth, PyData.depthAll, this]
  decide
theorem lay_lines : ∀ ls : List Ln, PyData.canLayAll0 (ls.map dLine) = true
  | [] => by simp [PyData.canLayAll0]
  | l :: r => by
    have ih := lay_lines r
    have h1 := lay_line l
    simp [PyData.canLayAll0, ih, h1]
theorem depth_lines : ∀ ls : List Ln, PyData.depthAll (ls.map dLine) ≤ 2
  | [] => by simp [PyData.depthAll]
  | l :: r => by
    have ih := depth_lines r
    have h1 := depth_line l
    simp only [List.map_cons, PyData.depthAll]
    omega
theorem shaped_lines (ls : List Ln) : SeqAt.shaped (dLines ls) = true := by
  unfold SeqAt.shaped
  have h1 : PyData.canLay0 (dLines ls) = true := by
    simp only [PyData.canLay0]
    exact lay_lines ls
  have h2 : PyData.depth (dLines ls) ≤ 64 := by
    have := depth_lines ls
    simp only [PyData.depth]
    omega
  rw [h1, decide_eq_true h2]
  rfl
theorem shaped_line (l : Ln) : SeqAt.shaped (dLine l) = true := by
  unfold SeqAt.shaped
  have h2 : PyData.depth (dLine l) ≤ 64 := Nat.le_trans (depth_line l) (by decide)
  rw [lay_line l, decide_eq_true h2]
  rfl
theorem linesAtM_p {os : List Ofr} {i : Nat} {l : Ln} (h : l ∈ linesAtM os i) : l.p = (i : Int) := by
  unfold linesAtM at h
  split at h
  · obtain ⟨c, _, rfl⟩ := List.mem_map.mp h
    rfl
  · obtain ⟨c, _, rfl⟩ := List.mem_map.mp h
    rfl
  · cases h
theorem flat_one {α : Type} (X : List α) (p : Nat) : ∀ n : Nat, (List.range n).flatMap (fun i => if i = p then X else []) = if p < n then X else []
  | 0 => by simp
  | n + 1 => by
    rw [List.range_succ, List.flatMap_append, flat_one X p n, List.flatMap_singleton]
    by_cases h1 : p < n
    · rw [if_pos h1, if_neg (by omega), if_pos (by omega), List.append_nil]
    · rw [if_neg h1, List.nil_append]
      by_cases h2 : n = p
      · rw [if_pos h2, if_pos (by omega)]
      · rw [if_neg h2, if_neg (by omega)]
theorem lines_filter {os : List Ofr} {p : Nat} (h : p < os.length) : (linesM os).filter (fun l => decide (l.p = (p : Int))) = linesAtM os p := by
  unfold linesM
  rw [List.filter_flatMap]
  have e : ∀ i : Nat, (linesAtM os i).filter (fun l => decide (l.p = (p : Int))) = if i = p then linesAtM os p else [] := fun i => by
    by_cases z : i = p
    · rw [if_pos z, z, List.filter_eq_self]
      exact fun l hl => decide_eq_true (linesAtM_p hl)
    · rw [if_neg z, List.filter_eq_nil_iff]
      intro l hl
      have := linesAtM_p hl
      rw [decide_eq_true_eq]
      omega
  rw [show (fun i => (linesAtM os i).filter (fun l => decide (l.p = (p : Int)))) = fun i => if i = p then linesAtM os p else [] from funext e, flat_one, if_pos h]
/-! ### the tier of a count -/
def stepT (q : Int → Prop) [DecidablePred q] (ts : List (Int × Int)) (e : Int) : Int := ts.foldl (fun e t => if q t.1 then t.2 else e) e
theorem stepT_none {q : Int → Prop} [DecidablePred q] : ∀ {ts : List (Int × Int)} {e : Int}, (∀ t ∈ ts, ¬ q t.1) → stepT q ts e = e
  | [], _, _ => rfl
  | t :: r, e, h => by
    show stepT q r (if q t.1 then t.2 else e) = e
    rw [if_neg (h t List.mem_cons_self)]
    exact stepT_none fun t ht => h t (List.mem_cons_of_mem _ ht)
theorem stepT_split (c : Int) : ∀ (ts : List (Int × Int)) (e : Int), ts.Pairwise (fun a b => a.1 < b.1) → stepT (· = c) ts (stepT (· ≤ c - 1) ts e) = stepT (· ≤ c) ts e
  | [], _, _ => rfl
  | t :: r, e, h => by
    obtain ⟨h1, h2⟩ := List.pairwise_cons.mp h
    show stepT (· = c) r (if t.1 = c then t.2 else stepT (· ≤ c - 1) r (if t.1 ≤ c - 1 then t.2 else e)) = stepT (· ≤ c) r (if t.1 ≤ c then t.2 else e)
    by_cases z1 : t.1 ≤ c - 1
    · rw [if_pos z1, if_neg (by omega), if_pos (by omega)]
      exact stepT_split c r t.2 h2
    · rw [if_neg z1]
      by_cases z2 : t.1 = c
      · rw [if_pos z2, if_pos (by omega), stepT_none (q := (· = c)) fun x hx => by have := h1 x hx; omega, stepT_none (q := (· ≤ c)) fun x hx => by have := h1 x hx; omega]
      · rw [if_neg z2, if_neg (by omega)]
        exact stepT_split c r e h2
theorem pieceM_step (c : Int) : ∀ (ts : List (Int × Int)) (e : Int), (pieceL ts c).getLastD e = stepT (· ≤ c) ts e
  | [], _ => rfl
  | t :: r, e => by
    show _ = stepT (· ≤ c) r (if t.1 ≤ c then t.2 else e)
    rw [← pieceM_step c r]
    unfold pieceL
    by_cases z : t.1 ≤ c
    · rw [if_pos z, List.filter_cons_of_pos (p := fun t : Int × Int => decide (t.1 ≤ c)) (decide_eq_true z), List.map_cons, List.getLastD_cons]
    · rw [if_neg z, List.filter_cons_of_neg (by rw [decide_eq_true_eq]; exact z)]
theorem GoodT.pair {ts : List (Int × Int)} (h : GoodT ts) : ts.Pairwise (fun a b => a.1 < b.1) := by
  have step : ∀ (n i : Nat) (a b : Int × Int), ts[i]? = some a → ts[i + (n + 1)]? = some b → a.1 < b.1 := by
    intro n
    induction n with
    | zero => exact fun i a b ha hb => h.rise i a b ha hb
    | succ n ih =>
      intro i a b ha hb
      have hl := (List.getElem?_eq_some_iff.mp hb).1
      have g := List.getElem?_eq_getElem (show i + (n + 1) < ts.length by omega)
      have h1 := ih i a _ ha g
      have h2 := h.rise (i + (n + 1)) _ b g hb
      omega
  rw [List.pairwise_iff_getElem]
  intro i j hi hj hij
  have := step (j - i - 1) i ts[i] ts[j] (List.getElem?_eq_getElem hi) (by rw [show i + (j - i - 1 + 1) = j by omega]; exact List.getElem?_eq_getElem hj)
  exact this
theorem GoodT.ge1 {ts : List (Int × Int)} (h : GoodT ts) : ∀ t ∈ ts, 1 ≤ t.1 := fun t ht => by
  obtain ⟨i, hi, rfl⟩ := List.getElem_of_mem ht
  have e0 := h.one _ (List.getElem?_eq_getElem (show 0 < ts.length by omega))
  rcases Nat.eq_zero_or_pos i with z | z
  · subst z
    omega
  · have := List.pairwise_iff_getElem.mp h.pair 0 i (by omega) hi z
    omega
theorem pieceM_zero {ts : List (Int × Int)} (h : GoodT ts) : pieceM ts 0 = 0 := by
  unfold pieceM
  rw [pieceM_step]
  exact stepT_none fun t ht => by have := h.ge1 t ht; omega
theorem pieceM_succ {ts : List (Int × Int)} (h : GoodT ts) (c : Int) : stepT (· = c) ts (pieceM ts (c - 1)) = pieceM ts c := by
  unfold pieceM
  rw [pieceM_step, pieceM_step]
  exact stepT_split c ts 0 h.pair
theorem stepT_take {q : Int → Prop} [DecidablePred q] {ts : List (Int × Int)} {i : Nat} {t : Int × Int} {e : Int} (h : ts[i]? = some t) : stepT q (ts.take (i + 1)) e = if q t.1 then t.2 else stepT q (ts.take i) e := by
  unfold stepT
  rw [take_succ_at h, List.foldl_append]
  rfl
/-! ### shops made of offers -/
theorem ShopAt.of_al {H : Hp} {a : Addr} {vs : List Addr} {os : List Ofr} (h : H a = some (.lst (vs.map V.ref))) (al : Al (OfrAt H) vs os) : ShopAt H a os := by
  refine ⟨vs, h, al.len, fun i v o hv ho => ?_⟩
  obtain ⟨x, hx, r⟩ := al.get hv
  rw [ho] at hx
  cases Option.some.inj hx
  exact r
theorem TiersAt.of_al {H : Hp} {a : Addr} {us : List Addr} {ts : List (Int × Int)} (h : H a = some (.lst (us.map V.ref))) (al : Al (fun u (t : Int × Int) => H u = some (.tup [.int t.1, .int t.2])) us ts) : TiersAt H a ts := by
  refine ⟨us, h, al.len, fun i v o hv ho => ?_⟩
  obtain ⟨x, hx, r⟩ := al.get hv
  rw [ho] at hx
  cases Option.some.inj hx
  exact r
theorem ShopAt.al {H : Hp} {a : Addr} {os : List Ofr} (h : ShopAt H a os) : ∃ vs : List Addr, H a = some (.lst (vs.map V.ref)) ∧ Al (OfrAt H) vs os := by
  obtain ⟨vs, h1, h2, h3⟩ := h
  refine ⟨vs, h1, ?_⟩
  clear h1
  induction vs generalizing os with
  | nil =>
    cases os with
    | nil => exact True.intro
    | cons o r => simp at h2
  | cons v vr ih =>
    cases os with
    | nil => simp at h2
    | cons o r => exact ⟨h3 0 v o rfl rfl, ih (by simpa using h2) fun i v o hv ho => h3 (i + 1) v o hv ho⟩
theorem goodT_one (p : Int) : GoodT [(1, p)] := by
  refine ⟨by show 1 ≤ 1; decide, by show 1 ≤ 4; decide, fun t e => ?_, fun t ht => ?_, fun i a b ha hb => by simp at hb⟩
  · cases Option.some.inj e
    rfl
  · rw [List.mem_singleton.mp ht]
    show (1 : Int) ≤ 12
    decide
/-! ### lines of a good shop -/
theorem choices_mem : ∀ {ps c : List Int}, c ∈ choicesM ps → c.length ≤ ps.length ∧ ∀ x ∈ c, x ∈ ps
  | [], c, h => by
    rw [List.mem_singleton.mp h]
    exact ⟨Nat.le_refl _, fun x hx => by cases hx⟩
  | p :: ps, c, h => by
    rcases List.mem_append.mp h with h | h
    · rcases List.mem_append.mp h with h | h
      · rw [List.mem_singleton.mp h]
        exact ⟨Nat.zero_le _, fun x hx => by cases hx⟩
      · obtain ⟨d, hd, rfl⟩ := List.mem_map.mp h
        obtain ⟨h1, h2⟩ := choices_mem hd
        refine ⟨by rw [List.length_cons, List.length_cons]; omega, fun x hx => ?_⟩
        rcases List.mem_cons.mp hx with rfl | hx
        · exact List.mem_cons_self
        · exact List.mem_cons_of_mem _ (h2 x hx)
    · obtain ⟨h1, h2⟩ := choices_mem (List.mem_of_mem_tail h)
      exact ⟨by rw [List.length_cons]; omega, fun x hx => List.mem_cons_of_mem _ (h2 x hx)⟩
theorem adds_mem {os : List Ofr} {p : Int} {n : Nat} {x : Int} (h : x ∈ addsN os p n) : ∃ j : Nat, x = (j : Int) ∧ j < n ∧ ∃ c pr, os[j]? = some (.add c pr p) := by
  obtain ⟨j, hj, rfl⟩ := List.mem_map.mp h
  obtain ⟨h1, h2⟩ := List.mem_filter.mp hj
  refine ⟨j, rfl, List.mem_range.mp h1, ?_⟩
  unfold isAdd at h2
  split at h2
  · rename_i c pr k e
    have := of_decide_eq_true h2
    subst this
    exact ⟨c, pr, e⟩
  · cases h2
theorem linesAt_ok {os : List Ofr} (gd : Good os) {p : Nat} {l : Ln} (h : l ∈ linesAtM os p) : LineOk os l := by
  unfold linesAtM at h
  split at h
  · rename_i c pr e
    obtain ⟨ch, hch, rfl⟩ := List.mem_map.mp h
    obtain ⟨h1, h2⟩ := choices_mem hch
    have h8 := gd.1
    have hl := addsN_len os (p : Int) os.length
    refine ⟨p, rfl, .inr ⟨c, pr, e, rfl, ?_, fun x hx => ?_⟩⟩
    · have h1' : ch.length ≤ (addsN os (p : Int) os.length).length := h1
      show ch.length ≤ 8
      omega
    · obtain ⟨j, e1, _, c', pr', e2⟩ := adds_mem (h2 x hx)
      exact ⟨j, e1, c', pr', _, e2⟩
  · rename_i c ts e
    obtain ⟨i, hi, rfl⟩ := List.mem_map.mp h
    have hi' := List.mem_range.mp hi
    exact ⟨p, rfl, .inl ⟨c, ts, e, gd.2 p _ e, by show (1 : Int) ≤ 1 + (i : Nat); omega, by show (1 : Int) + (i : Nat) ≤ 12; omega, rfl⟩⟩
  · cases h
theorem lines_ok {os : List Ofr} (gd : Good os) {l : Ln} (h : l ∈ linesM os) : LineOk os l := by
  obtain ⟨p, _, hp⟩ := List.mem_flatMap.mp h
  exact linesAt_ok gd hp
/-- m numbers from nought on -/
def V0 (m : Nat) (c : List Int) : Prop := c.length = m ∧ ∀ x ∈ c, 0 ≤ x
theorem tog_nonneg : ∀ {a b : List Int}, (∀ x ∈ a, 0 ≤ x) → (∀ x ∈ b, 0 ≤ x) → ∀ x ∈ togM a b, 0 ≤ x
  | [], _, _, _, x, h => by simp [togM] at h
  | _ :: _, [], _, _, x, h => by simp [togM] at h
  | a :: r, b :: q, ha, hb, x, h => by
    have h' : x ∈ (a + b) :: togM r q := h
    rcases List.mem_cons.mp h' with rfl | h'
    · have h1 := ha a List.mem_cons_self
      have h2 := hb b List.mem_cons_self
      omega
    · exact tog_nonneg (fun y hy => ha y (List.mem_cons_of_mem _ hy)) (fun y hy => hb y (List.mem_cons_of_mem _ hy)) x h'
theorem V0.tog {m : Nat} {a b : List Int} (ha : V0 m a) (hb : V0 m b) : V0 m (togM a b) := ⟨by rw [togM_len, ha.1, hb.1]; exact Nat.min_self m, tog_nonneg ha.2 hb.2⟩
theorem FitO.v0 {m : Nat} {o : Ofr} (h : FitO m o) : V0 m o.cont := ⟨h.cont.1, fun x hx => (h.cont.2 x hx).1⟩
theorem V0.fold {m : Nat} {α : Type} {f : α → List Int} : ∀ {ls : List α} {acc : List Int}, V0 m acc → (∀ l ∈ ls, V0 m (f l)) → V0 m (ls.foldl (fun acc l => togM acc (f l)) acc)
  | [], _, h, _ => h
  | l :: r, acc, h, hl => V0.fold (ls := r) (h.tog (hl l List.mem_cons_self)) fun x hx => hl x (List.mem_cons_of_mem _ hx)
theorem cont_v0 {m : Nat} {os : List Ofr} {l : Ln} (ft : FitS m os) (lok : LineOk os l) : V0 m (contM os l) := by
  obtain ⟨p, ep, ways⟩ := lok
  unfold contM
  rcases ways with ⟨c, ts, w1, w0, w2, w3, w4⟩ | ⟨c, pr, w1, w2, w3, w4⟩
  · have hf := (ft _ (List.mem_of_getElem? w1)).v0
    refine V0.fold ⟨?_, fun x hx => ?_⟩ (fun x hx => by rw [w4] at hx; cases hx)
    · rw [List.length_map, ep, contAt_get w1]
      exact hf.1
    · rw [ep, contAt_get w1] at hx
      obtain ⟨y, hy, rfl⟩ := List.mem_map.mp hx
      exact Int.mul_nonneg (by omega) (hf.2 y hy)
  · have hf := (ft _ (List.mem_of_getElem? w1)).v0
    refine V0.fold ⟨?_, fun x hx => ?_⟩ (fun x hx => ?_)
    · rw [List.length_map, ep, contAt_get w1]
      exact hf.1
    · rw [ep, contAt_get w1] at hx
      obtain ⟨y, hy, rfl⟩ := List.mem_map.mp hx
      exact Int.mul_nonneg (by omega) (hf.2 y hy)
    · obtain ⟨j, rfl, c', pr', k, hj⟩ := w4 x hx
      rw [contAt_get hj]
      exact (ft _ (List.mem_of_getElem? hj)).v0
/-! ### an exception that is kept behind its except suite -/
/-- at a: an exception of the class cls, its dict d -/
def exk (a : Addr) (cls : Value) (d : Option Addr) : HO := .ext fun h => ∃ (ob : Obj) (fs : Array Value), h.get? a = some ob ∧ Zc cls d ob ∧ ob.data = .fields fs
theorem exk_ok {P : Program} {w : World} {H : Hp} {h : Heap} {a : Addr} {cls : Value} {d : Option Addr} {ob : Obj} {fs : Array Value} (e : h.get? a = some ob) (z : Zc cls d ob) (k : ob.data = .fields fs) : ObjOk P w H h a (exk a cls d) :=
  ⟨⟨ob, fs, e, z, k⟩, ⟨ob, e⟩, fun _ _ ⟨u, gs, q, r⟩ m => ⟨u, gs, m u q, r⟩⟩
theorem exk_at {P : Program} {w : World} {H : Hp} {h : Heap} {a : Addr} {cls : Value} {d : Option Addr} (all : HOk P w H h) (e : H a = some (exk a cls d)) : ∃ (ob : Obj) (fs : Array Value), h.get? a = some ob ∧ Zc cls d ob ∧ ob.data = .fields fs := by
  have here := all a _ e
  exact (show ObjOk P w H h a (.ext fun h => ∃ (ob : Obj) (fs : Array Value), h.get? a = some ob ∧ Zc cls d ob ∧ ob.data = .fields fs) from here).1
/-- an object that nobody followed is followed from now on: what was followed stands elsewhere -/
theorem upd_far {H : Hp} {a b : Addr} {o u : HO} (na : H a = none) (e : H b = some u) : upd H a o b = some u := by
  have far : b ≠ a := fun z => Option.some_ne_none u (e.symm.trans ((congrArg H z).trans na))
  exact (upd_ne far).trans e
theorem Inv_track {X : Cx} {pins : List (Addr × Obj)} {σ : L2.St} {H : Hp} {s : Shared} {a : Addr} {ob : Obj} {fs : Array Value} {o : HO} (I : Inv X pins σ H s) (ha : s.heap.get? a = some ob) (hd : ob.data = .fields fs) (na : H a = none)
    (n0 : X.s_0.heap.get? a = none) (nL : a ≠ X.env.locals) (np : ∀ p ∈ X.pn ++ pins, p.1 ≠ a) (ok : ObjOk X.prog X.w (upd H a o) s.heap a o) : Inv X pins σ (upd H a o) s := by
  have all : HOk X.prog X.w (upd H a o) s.heap := by
    intro b u e
    by_cases far : b = a
    · cases far
      cases upd_same.symm.trans e
      exact ok
    · exact (I.hok b u ((upd_ne far).symm.trans e)).stay (fun _ _ _ r => r) (fun _ r => upd_far na r) (fun _ _ r => upd_far na r)
  have noCell : ∀ x c, X.env.cells.lookup x = some c → c ≠ a := by
    intro x c e z
    obtain ⟨v, u, hu, du⟩ := I.cell x c e
    cases (congrArg s.heap.get? z).symm.trans hu |>.symm.trans ha
    exact Data.noConfusion (hd.symm.trans du)
  exact
    { ok := I.ok, os := I.os, bare := I.bare, loc := I.loc, cell := I.cell, len := I.len, hok := all
      free := (upd_ne nL.symm).trans I.free
      freeC := fun x c e => (upd_ne (noCell x c e)).trans (I.freeC x c e)
      pin := fun p hp => ⟨(I.pin p hp).1, (upd_ne (np p hp)).trans (I.pin p hp).2.1, (I.pin p hp).2.2⟩
      base :=
        { keep := I.base.keep, slot := I.base.slot, there := I.base.there
          free := fun b u e n x => (upd_ne fun z => Option.some_ne_none u (e.symm.trans ((congrArg X.s_0.heap.get? z).trans n0))).trans (I.base.free b u e n x)
          tups := fun b xs e => upd_far na (I.base.tups b xs e)
          frzs := fun b u xs e => upd_far na (I.base.frzs b u xs e)
          tbls := fun b ps e => (I.base.tbls b ps e).elim fun m r => ⟨m, upd_far na r⟩ } }
section
variable {X : Cx} {pins pins' : List (Addr × Obj)} {σ : L2.St} {H : Hp} {s : Shared} {a : Addr}
/-- into an except suite with nothing kept aside, and out of it -/
theorem Inv_suiteK (I : Inv X pins σ H s) (a : Addr) : Inv (X.suite a (X.pn ++ pins)) [] σ H s :=
  { ok := I.ok.suite a _, os := I.os, bare := I.bare, base := I.base, loc := I.loc, cell := I.cell, free := I.free, freeC := I.freeC, hok := I.hok, len := I.len
    pin := fun p hp => I.pin p ((List.append_nil (X.pn ++ pins)) ▸ hp) }
theorem Inv_unsuiteK (I : Inv (X.suite a (X.pn ++ pins)) pins' σ H s) (ok : X.Ok) : Inv X pins σ H s :=
  { ok := ok, os := I.os, bare := I.bare, base := I.base, loc := I.loc, cell := I.cell, free := I.free, freeC := I.freeC, hok := I.hok, len := I.len
    pin := fun p hp => I.pin p (List.mem_append.mpr (.inl hp)) }
/-- an end stands in another context as well -/
theorem sp_map {Y : Cx} {q : List (Addr × Obj)} {D : Ends} {f : Flow} (g : ∀ {σ H}, Inv X pins σ H s → Inv Y q σ H s) (x : SP X pins D f s) : SP Y q D f s := by
  cases f
  case ret => exact x.elim fun v x => x.elim fun σ x => x.elim fun H x => ⟨v, σ, H, g x.1, x.2⟩
  all_goals exact x.elim fun σ x => x.elim fun H x => ⟨σ, H, g x.1, x.2⟩
end
/-! ### a try with one clause, whatever the clause does -/
/-- an exception, at a, has fallen out of a try's body in the state sI; s' is the state in which it is looked at -/
structure Fell (X : Cx) (pins : List (Addr × Obj)) (B : Heap) (a : Addr) (σ : L2.St) (H : Hp) (sI s' : Shared) : Prop where
  was : Inv X pins σ H sI
  kept : ∀ b o, sI.heap.get? b = some o → b ∉ frs X.stack → B.get? b = some o
  unseen : H a = none
  world : s'.os = sI.os
  bare : AllBare s'.gens
/-- it flies through h -/
abbrev Air (X : Cx) (B : Heap) (a : Addr) (cls : Value) (d : Option Addr) (h : Heap) : Prop := HandSPX.FlyingZ B (X.env :: X.outer) a (Zc cls d) h
section
variable {X : Cx} {pins : List (Addr × Obj)} {B h : Heap} {a : Addr} {cls : Value} {d : Option Addr} {σ : L2.St} {H : Hp} {sI s' : Shared}
theorem Fell.stands (F : Fell X pins B a σ H sI s') (up : sI.heap.UpToSlots h) (air : Air X B a cls d h) : Inv X pins σ H { s' with heap := h } := F.was.landed F.kept air.1 up F.world F.bare
theorem Air.noFrame (air : Air X B a cls d h) : a ∉ frs (X.env :: X.outer) := by
  intro isOne
  obtain ⟨ob, fs, at_, _, isEx⟩ := air.there
  obtain ⟨_, u, hu, no⟩ := air.2.2.1.mem isOne
  cases hu.symm.trans at_
  exact no fs isEx
theorem Air.noLocals (air : Air X B a cls d h) (hf : X.env.frame = some X.env.locals) : a ≠ X.env.locals := by
  intro z
  refine air.noFrame ?_
  unfold frs
  rw [List.filterMap_cons, hf, z]
  exact List.mem_cons_self
theorem Air.type (air : Air X B a cls d h) : PySem.W.Looks (model X.prog X.w) h (typeOf (.ref a)) cls := by
  obtain ⟨ob, fs, at_, z, _⟩ := air.there
  intro A Q E s more q
  exact wpAny_typeOf_ref (more _ _ at_) (z.1.symm ▸ q)
/-- it is none of what stood at the entry, and nothing that is kept aside -/
theorem Fell.since (F : Fell X pins B a σ H sI s') (hs : X.stack = X.env :: X.outer) (hex : X.ex = []) (air : Air X B a cls d h) : X.s_0.heap.get? a = none := by
  refine Option.eq_none_iff_forall_ne_some.mpr fun o e => ?_
  obtain ⟨u, hu⟩ := F.was.base.there a o e (hex ▸ List.not_mem_nil)
  exact Option.some_ne_none u ((F.kept a u hu (hs ▸ air.noFrame)).symm.trans air.2.1)
theorem Fell.aside (F : Fell X pins B a σ H sI s') (air : Air X B a cls d h) : ∀ p ∈ X.pn ++ pins, p.1 ≠ a := by
  intro p hp z
  have P := F.was.pin p hp
  have b := F.kept p.1 p.2 P.1 fun isOne => (List.mem_cons.mp (F.was.stkSub p.1 isOne)).elim P.2.2.1 P.2.2.2.1
  exact Option.some_ne_none p.2 (b.symm.trans (z ▸ air.2.1))
/-- a class's name, read where the exception is looked at -/
theorem Fell.name (F : Fell X pins B a σ H sI s') (up : sI.heap.UpToSlots h) (air : Air X B a cls d h) {x : Str} {c : Value} {p : Pos} {Q : Value → Shared → Prop} {E : Value → Shared → Prop} (n : L2.Names X x c)
    (q : Q c { s' with heap := h }) : wpAny (model X.prog X.w) (X.A.mark (some (.ref a))) (eval (.Name x p) X.env) Q E { s' with heap := h } := by
  have I := Inv_suiteK (F.stands up air) a
  rcases n.2.2 with own | given
  · exact ld_glob (X := X.suite a (X.pn ++ pins)) I n.1 own q n.2.1
  · exact ld_blt (X := X.suite a (X.pn ++ pins)) I n.1 given.1 given.2.1 q given.2.2 n.2.1
/-- no clause is left: it flies on -/
theorem Fell.passes {D : Ends} {W : WX} (F : Fell X pins B a σ H sI s') (up : sI.heap.UpToSlots h) (air : Air X B a cls d h) (hs : X.stack = X.env :: X.outer) (hf : X.env.frame = some X.env.locals) (tk : L2.Takes X W) (w : W cls d σ H) :
    wpAny (model X.prog X.w) X.A (handleBy (.ref a) X.env []) (SP X pins D) X.xe { s' with heap := h } := by
  obtain ⟨_, _, _, ob, fs, T, _, _, at_, _, isEx, trace, _⟩ := id air
  have out : wpAny (model X.prog X.w) X.A (setFlight (.ref a) X.env.frame) (fun _ t => wpAny (model X.prog X.w) X.A (throw (.ref a) : Sem Flow) (SP X pins D) X.xe t) X.xe { s' with heap := h } :=
    hf.symm ▸ HandSPX.setFlight_upZ air fun h4 air4 up4 => wpAny_throw (tk _ _ ⟨a, B, sI, pins, σ, H, cls, d, rfl, F.was, F.kept, up.trans up4, .inr (.inr (hs.symm ▸ air4)), F.unseen, F.world, F.bare, w⟩)
  have some_ : ¬ ((Value.ref T == Value.none) = true) := by simp
  refine wpAny_handleBy_nil ?_
  unfold PySem.passOn
  refine wpAny_bind (wpAny_field at_ isEx trace ?_)
  rw [if_neg some_]
  first
    | exact wpAny_bind out
    | exact wpAny_bind (wpAny_pure (wpAny_bind out))
end
section
variable {X : Cx} {body : List Stmt} {hd : ExceptHandler} {pos : Pos} {tb : WX → TS} {W : Ends → WX}
/-- the rule: what the body lets fall is handled by the clause -/
theorem ps_try_by (hs : X.stack = X.env :: X.outer) (hf : X.env.frame = some X.env.locals)
    (hb : ∀ (V : WX) (pn : List (Addr × Obj)) (E : Value → Shared → Prop), L2.Takes (X.tr pn E) V → PassesOwn (model X.prog X.w) X.A X.env E → PSs (X.tr pn E) body (tb V))
    (hh : ∀ (pins : List (Addr × Obj)) (D : Ends) (B h : Heap) (a : Addr) (cls : Value) (d : Option Addr) (σ : L2.St) (H : Hp) (sI s' : Shared), X.Ok → Fell X pins B a σ H sI s' → sI.heap.UpToSlots h → Air X B a cls d h → W D cls d σ H →
      wpAny (model X.prog X.w) X.A (handleBy (.ref a) X.env [hd]) (SP X pins D) X.xe { s' with heap := h }) :
    PS X (.Try body [hd] [] [] pos) (fun D σ H => tb (W D) D σ H) := by
  refine ⟨fun pins s σ H D I h => wpAny_Try_except ?_⟩
  have looked : L2.Takes (X.tr (X.pn ++ pins) fun e t => wpAny (model X.prog X.w) X.A (noteFrame e X.env) (fun _ t => wpAny (model X.prog X.w) X.A (setFlight e none) (fun _ t => wpAny (model X.prog X.w) X.A (handleBy e X.env [hd]) (SP X pins D) X.xe t) X.xe t) X.xe t) (W D) := by
    rintro u s' ⟨a, B, sI, q, σ1, H1, cls, d, rfl, J, kept, up, sky, unseen, world, bare, w⟩
    refine Sky.land Zc.steady (I.ok.frames.trans (congrArg some hs)) hf (hs ▸ sky) fun h3 air up3 => ?_
    exact hh pins D B h3 a cls d σ1 H1 sI s' I.ok ⟨J.ofTry I.ok, kept, unseen, world, bare⟩ (up.trans up3) air w
  refine wpAny_mono ((hb (W D) (X.pn ++ pins) _ looked PassesOwn.looking).run [] s σ H D (I.toTry _) h) (fun f t x => ?_) (fun _ _ x => x)
  have x : SP X pins D f t := sp_map (fun J => J.ofTry I.ok) x
  cases f
  case next => exact wpAny_execs_nil x
  all_goals exact x
end
/-- what the clause wishes: the exception is followed -/
def wAsK (K : PySem.W.Frag) (c : Value) (i : Nat) (ts : TS) (Wout : WX) (D : Ends) : WX := fun cls d σ H =>
  ∃ b, PySem.W.exmOne K cls c = some b ∧ (b = true → ∀ a, H a = none → ts { nx := fun σ' H' => D.nx (σ'.set i none) H', rt := D.rt, bk := fun σ' H' => D.bk (σ'.set i none) H', ct := fun σ' H' => D.ct (σ'.set i none) H' } (σ.set i (some (.ref a))) (upd H a (exk a cls d))) ∧
    (b = false → Wout cls d σ H)
section
variable {X : Cx} {x n : Str} {c : Value} {i : Nat} {body suite : List Stmt} {b₀ : Stmt} {np pos pos' : Pos} {tb : WX → TS} {ts : TS} {Wout : WX}
theorem ps_try_asK (hs : X.stack = X.env :: X.outer) (hf : X.env.frame = some X.env.locals) (hex : X.ex = []) (hN : X.N.Nodup) (hi : X.N[i]? = some n) (hln : X.env.kindOf n = some .local) (hc : L2.Names X x c) (tk : L2.Takes X Wout)
    (hb : ∀ (W : WX) (pn : List (Addr × Obj)) (xe : Value → Shared → Prop), L2.Takes (X.tr pn xe) W → PassesOwn (model X.prog X.w) X.A X.env xe → PSs (X.tr pn xe) body (tb W))
    (hsu : ∀ (a : Addr) (pn : List (Addr × Obj)), PSs (X.suite a pn) (b₀ :: suite) ts) :
    PS X (.Try body [.ExceptHandler (some (.Name x np)) (some n) (b₀ :: suite) pos'] [] [] pos) (fun D σ H => tb (wAsK X.K c i ts Wout D) D σ H) := by
  refine ps_try_by (W := wAsK X.K c i ts Wout) hs hf hb ?_
  intro pins D B h a cls d σ H sI s' ok F up air ⟨b, asked, yes, no⟩
  refine wpAny_handleBy_cons (codeAny_handlers_test (F.name up air hc ?_)) nofun
  refine (PySem.W.exm_one (M := model X.prog X.w) (F.stands up air).kIn air.type asked).here ?_
  cases b
  · exact F.passes up air hs hf tk (no rfl)
  · refine codeAny_handlers_suite_as (HandSPX.lands_againZ air fun h4 air4 up4 => ?_)
    have air4 : Air X B a cls d h4 := air4
    obtain ⟨ob, fs, at_, z, isEx⟩ := air4.there
    have J := Inv_track (F.stands (up.trans up4) air4) at_ isEx F.unseen (F.since hs hex air4) (air4.noLocals hf) (F.aside air4) (exk_ok at_ z isEx)
    refine store_ok (X := X.suite a (X.pn ++ pins)) (v := .ref a) (Inv_suiteK J a) hN hi (.inl hln) rfl (fun t S => ?_) (.inr hln)
    refine wpAny_mono ((hsu a (X.pn ++ pins)).run [] t _ _ _ S (yes rfl a F.unseen)) (fun f t x => ?_) (fun _ _ no => no.elim)
    have gone : ∀ {σ5 : L2.St} {H5 : Hp} {Q : Shared → Prop}, Inv (X.suite a (X.pn ++ pins)) [] σ5 H5 t → (∀ t', Inv X pins (σ5.set i none) H5 t' → Q t') → wpAny (model X.prog X.w) X.A (do bindName X.env n .none; unbindBehindTheSuite X.env n pos') (fun _ t' => Q t') X.xe t :=
      fun S5 q => gone_ok (Inv_unsuiteK S5 ok) hN hi hln q
    cases f
    case ret => exact x.elim fun v x => x.elim fun σ5 x => x.elim fun H5 x => gone x.1 fun t' J5 => ⟨v, _, H5, J5, x.2⟩
    all_goals exact x.elim fun σ5 x => x.elim fun H5 x => gone x.1 fun t' J5 => ⟨_, H5, J5, x.2⟩
end
/-! ### isinstance, fields of a kept exception -/
/-- a class that answers isinstance rightly does so for its instances with fields as well -/
theorem exc_asked {K : PySem.W.Frag} {D x : Addr} {ox : Obj} {od : Option Obj} (C : ExcC K D) : PySem.W.KitX K (.ref x) (.ref D) (fun h => PySem.W.InstAt h x ox D od) :=
  PySem.W.kitx_exc ((PySem.W.any_some C.hd).elim fun _ r => by rw [r.1]; rfl) C.hg C.hk C.hs C.ha C.hn C.ht C.hm
/-- isinstance(e, c), e an exception that is kept; its fields stand at d -/
def rIsK (K : PySem.W.Frag) : List V → Hp → VK → Prop := fun xs H Q => ∃ (a D d : Addr) (fs : List (Str × V)) (c : V) (cv : Value) (b : Bool), xs = [.ref a, c] ∧ H a = some (exk a (.ref D) (some d)) ∧ H d = some (.xd fs) ∧ ExcC K D ∧ (∀ u, RelV c u → u = cv) ∧ PySem.W.kitOne K (.ref D) cv = some b ∧ Q (.bl b) H
theorem inst_of {X : Cx} {pins : List (Addr × Obj)} {σ : L2.St} {H : Hp} {s : Shared} {a D d : Addr} {fs : List (Str × V)} (I : Inv X pins σ H s) (ha : H a = some (exk a (.ref D) (some d))) (hd : H d = some (.xd fs)) :
    ∃ oe od mA, PySem.W.InstAt s.heap a oe D (some od) ∧ s.heap.Ns1 d mA ∧ (∀ f, RelO (fs.lookup f) (mA f)) ∧ ∀ n, PySem.W.lookIn n od = some (mA n) := by
  obtain ⟨mA, there, same⟩ := show ObjOk X.prog X.w H s.heap d (.xd fs) from I.hok d _ hd
  obtain ⟨od, atD, looks⟩ := lookIn_ns there
  obtain ⟨ob, vs, atA, z, isEx⟩ := exk_at I.hok ha
  have noClass : PySem.W.notCls ob = true := by
    unfold PySem.W.notCls
    rw [isEx]
  exact ⟨ob, od, mA, ⟨atA, z.1, noClass, z.2 ▸ atD⟩, there, same, looks⟩
theorem call_isK {X : Cx} : CallR X (.builtin "isinstance") (rIsK X.K) := by
  rintro pins s σ H _ us Q I r ⟨a, D, d, fs, c, cv, b, rfl, ha, hd, C, only, e, q⟩
  obtain ⟨ob, od, mA, J, _⟩ := inst_of I ha hd
  match us, r with
  | [_, t], .cons rfl (.cons rt .nil) =>
    cases only t rt
    exact PySem.W.kia_one (exc_asked C) I.kIn J e nofun fun _ => ⟨.bl b, H, I.kept fun _ _ z => z, rfl, q⟩
/-- e.f -/
def tXk (K : PySem.W.Frag) (f : Str) (te : TE) : TE := fun σ H Q => te σ H fun x H1 => ∃ (a C d : Addr) (fs : List (Str × V)) (v : V), x = .ref a ∧ H1 a = some (exk a (.ref C) (some d)) ∧ H1 d = some (.xd fs) ∧ XfC K C ∧ PySem.W.findIn K (.ref C) f = some none ∧ fs.lookup f = some v ∧ Q v H1
theorem pe_xk {X : Cx} {e : Expr} {te : TE} {pos : Pos} {n : Str} (he : PE X e te) (hb : attributeBase e n X.env (eval e X.env) = eval e X.env := by rfl) : PE X (.Attribute e n pos) (tXk X.K n te) := by
  constructor
  intro pins s σ H Q I h
  refine attr_of hb (thn (he.run pins s σ H _ I h) ?_)
  rintro u t ⟨_, H1, J, isRef, a, C, d, fs, v, rfl, ha, hd, T, own, at_, q⟩
  cases (show u = Value.ref a from isRef)
  obtain ⟨ob, od, mA, inst, _, same, looks⟩ := inst_of J ha hd
  obtain ⟨w, hw, rw_⟩ := RelO.some_of (v := v) (o := mA n) (at_ ▸ same n)
  have found : PySem.W.lookIn n od = some (some w) := (looks n).trans (congrArg some hw)
  exact HandSPX.exc_get J.kIn inst T.ga T.gg T.exC (PySem.W.findObj_own T.hdC own rfl found) (handed_of rw_) ⟨v, H1, J.tok _, rw_, q⟩
/-! ### Base.__init__(self, ..), Base an own class over ValueError without __init__ -/
section
variable {X : Cx} {e : Expr} {es : List Expr} {ta : TA} {p1 p2 pos : Pos}
theorem pe_binit {pl : Sem Bool} {B : Str} {CB : Addr} {mc : Value} (hg : Gl X B) (hm : X.mg B = some (.ref CB)) (hr : PySem.W.readsIn X.K CB mc = true) (ga : PySem.W.specialIn X.K (.ref CB) "__getattribute__" = some (some (.builtin "type.__getattribute__"))) (vV : PySem.W.findCls X.K (.ref CB) mc "__init__" = some (.val (.builtin "ValueError.__init__"))) (ha : PA X (e :: es) ta)
    (hdb : (B == ("__debug__" : Str)) = false := by decide)
    (hc : eval (.Call (.Attribute (.Name B p1) "__init__" p2) (e :: es) [] pos) X.env = (eval (.Name B p1) X.env >>= fun owner => standAt p2.atName >>= fun _ =>
      holding [owner] (getMethod owner "__init__" pl) >>= fun m => callWith pos m.1 m.2 (backTo pos (starEach (e :: es) X.env)) (backToKw pos (keywordEach [] X.env))) := by rfl)
    (hse : starEach (e :: es) X.env = (false, eval e X.env) :: starEach es X.env := by rfl) (hpl : (backTo pos (starEach es X.env)).any (·.1) = false := by rfl) :
    PE X (.Call (.Attribute (.Name B p1) "__init__" p2) (e :: es) [] pos) (tVeI X.K ta) := by
  constructor
  intro pins s σ H Q I h
  refine PySem.W.methodCall_KW (ld_glob I hg hm ?_ hdb) hc
  refine PySem.W.method_cls I.kIn ga (PySem.W.cls_value I.kIn hr vV (by decide +kernel) ?_)
  refine PyProof.Rows.callWith_method1 (thn (ha.run pos pins _ σ H _ (I.tok _) h) ?_) hse hpl
  rintro us t ⟨_, H1, J, r, a, C, ws, rfl, few, T, at_, q⟩
  match us, r with
  | _ :: ur, .cons rfl rs =>
    have fits : ur.length ≤ sizeLine := Nat.le_trans (Nat.le_of_eq (Paired.length rs).symm) (Nat.le_trans few (by rw [sizeLine_eq]; decide))
    exact oinit_ok T J at_ fits fun t' J' => ⟨.non, H1, J', rfl, q⟩
end
/-! ### a new exception of an own class, whose own __init__ is told -/
/-- the heap in which its __init__ begins -/
def exNew (h : Heap) (C : Addr) (us : List Value) : Heap := (h.push (PySem.W.kdv_tup us)).push (PySem.HandSPX.excO C h.objs.size)
theorem exNew_keeps {h : Heap} {C : Addr} {us : List Value} : ∀ b o, h.get? b = some o → (exNew h C us).get? b = some o := fun _ _ e => Heap.get?_push_of_some _ (Heap.get?_push_of_some _ e)
theorem exNew_at {h : Heap} {C : Addr} {us : List Value} : (exNew h C us).get? (h.objs.size + 1) = some (PySem.HandSPX.excO C h.objs.size) := by
  unfold exNew
  heap_get
theorem made_new {X : Cx} {CX : CXT} {C fI : Addr} {k : Nat} {fd : FuncData} {ps : List Str} {sp : Sp} {pins : List (Addr × Obj)} {σ : L2.St} {H : Hp} {s : Shared} {vs : List V} {us : List Value} {Q : VK} {R E : Value → Shared → Prop}
    (T : OexC X.K C) (iC : PySem.W.findIn X.K (.ref C) "__init__" = some (some (.ref fI))) (tI : PySem.W.typeIn X.K (.ref fI) = some (.type "function")) (F1 : FnOk X.prog X.w X.K X.mg X.base CX k fI fd ps sp) (room : Room (k + 1) X.A) (binds : Binds X.K fd ps [])
    (I : Inv X pins σ H s) (r : Vals vs us) (few : vs.length ≤ 1000) (q : sp (.ref (s.heap.objs.size + 1) :: vs) (upd H (s.heap.objs.size + 1) (exo (s.heap.objs.size + 1) C none)) Q (fun _ _ _ => False))
    (bad : ∀ er s', Inv X pins σ (upd H (s.heap.objs.size + 1) (exo (s.heap.objs.size + 1) C none)) { s with heap := exNew s.heap C us } →
      CX X.stack (upd H (s.heap.objs.size + 1) (exo (s.heap.objs.size + 1) C none)) { s with heap := exNew s.heap C us } (fun _ _ _ => False) er s' → E er s')
    (good : ∀ u s', Inv X pins σ (upd H (s.heap.objs.size + 1) (exo (s.heap.objs.size + 1) C none)) { s with heap := exNew s.heap C us } →
      CE X.stack X.prog X.w (upd H (s.heap.objs.size + 1) (exo (s.heap.objs.size + 1) C none)) { s with heap := exNew s.heap C us } Q u s' → u = .none ∧ R (.ref (s.heap.objs.size + 1)) s') :
    wpAny (model X.prog X.w) X.A (call (.ref C) us) R E s := by
  obtain ⟨nm, q0, N, bs, bm, sn, sub, ab, col, dd, k0, k1, k2, k3, k5, isCls, likes⟩ := T.cls
  obtain ⟨hp, gs, dr, tk, os⟩ := s
  have J : Inv X pins σ (upd H (hp.objs.size + 1) (exo (hp.objs.size + 1) C none)) ⟨exNew hp C us, gs, dr, tk, os⟩ := I.laid (t' := tk) exNew_keeps (Nat.le_succ _) (exo_ok exNew_at)
  have all : Vals (V.ref (hp.objs.size + 1) :: vs) (Value.ref (hp.objs.size + 1) :: us) := .cons rfl r
  have many : (Value.ref (hp.objs.size + 1) :: us ++ []).length = ps.length := (congrArg List.length (List.append_nil _)).trans (all.length.symm.trans (F1.len _ _ _ _ q))
  have fits : us.length ≤ sizeLine := Nat.le_trans (Nat.le_of_eq (Paired.length r).symm) (Nat.le_trans few (by rw [sizeLine_eq]; decide))
  have told := binds ⟨exNew hp C us, gs, dr, tk, os⟩ (Value.ref (hp.objs.size + 1) :: us) J.kIn many
  rw [List.append_nil] at told
  have runs := F1.run _ X.stack _ _ ⟨Value.ref (hp.objs.size + 1) :: us, []⟩ _ _ Q (fun _ _ _ => False) (room.make C us []) (J.env0.make C us []) told all q
  refine wpAny_call (PySem.HandSPX.call_own F.excBase_ValueError (fun Y => PySem.HandSPX.refsVE_contains Y bm likes) (I.kIn _ _ isCls) (PySem.W.looks_findIn I.kIn iC) (fun self => PySem.W.bind_fn I.kIn self tI) fits (codeAny_mono runs ?_))
  rintro (er | fl) s' after
  · exact bad er s' J after
  · cases fl
    case ret u => exact good u s' J after
    all_goals exact after.elim
/-! ### NoOffer -/
def clsBody (s : Stmt) : List Stmt := match s with
  | .ClassDef _ _ _ b _ _ _ _ _ _ _ => b
  | _ => []
abbrev s_ninit : Stmt := (clsBody (topS 2)).getD 0 (.Pass ⟨0, 0, 0, 0⟩)
theorem sc_ninit : FnScope ["self", "place"] ["self", "place"] (defScope s_ninit) := ⟨rfl, rfl, rfl, by decide +kernel, rfl, by decide +kernel, by decide +kernel⟩
/-- what the written part says of the refusal's class, at C, of its base, at CP, and of its __init__, at fI -/
structure Exs (K : PySem.W.Frag) (mg : Str → Option Value) (C CP fI : Addr) (fdI : FuncData) : Prop where
  gN : mg "NoOffer" = some (.ref C)
  gP : mg "PackError" = some (.ref CP)
  oex : OexC K C
  rP : PySem.W.readsIn K CP (.type "type") = true
  gaP : PySem.W.specialIn K (.ref CP) "__getattribute__" = some (some (.builtin "type.__getattribute__"))
  vP : PySem.W.findCls K (.ref CP) (.type "type") "__init__" = some (.val (.builtin "ValueError.__init__"))
  np : PySem.W.findIn K (.ref C) "place" = some none
  iC : PySem.W.findIn K (.ref C) "__init__" = some (some (.ref fI))
  tI : PySem.W.typeIn K (.ref fI) = some (.type "function")
  F : Fun K "__init__" "NoOffer.__init__" s_ninit fI fdI
  b : Binds K fdI ["self", "place"] []
  exc : ExcC K C
  xf : XfC K C
theorem lt100_log {n : Nat} (h : n < 100) : ((n : Nat) : Int).natAbs.log2 < 1920 := by
  have h1 : n < 2 ^ 7 := Nat.lt_trans h (by decide)
  rw [Int.natAbs_natCast]
  by_cases z : n = 0
  · rw [z]
    decide
  · have := (Nat.log2_lt z).mpr h1
    omega
theorem lt100_len {n : Nat} (h : n < 100) : (Str.ofString (toString ((n : Nat) : Int))).length ≤ 2 := by
  have : ∀ n, n < 100 → (Str.ofString (toString ((n : Nat) : Int))).length ≤ 2 := by decide +kernel
  exact this n h
theorem strE_len (x y : Str) : (x ++ y).length = x.length + y.length := by
  show (x ++ y).cps.size = x.cps.size + y.cps.size
  rw [Str.cps_append, Array.size_append]
def tJoinedE (ts : List TE) : TE := fun σ H Q => tJs ts Str.empty σ H fun out H1 => Q (.str out) H1
theorem pe_joinedE {X : Cx} {v1 v2 : Expr} {rest : List Expr} {ts : List TE} {pos : Pos} (h : PJ X (v1 :: v2 :: rest) ts) : PE X (.JoinedStr (v1 :: v2 :: rest) pos) (tJoinedE ts) := pe_joined h
def sp_ninit (C : Addr) : Sp := fun vs H Q _ => ∃ (a : Addr) (n : Nat), vs = [.ref a, .int n] ∧ n < 100 ∧ H a = some (exo a C none) ∧ ∀ dx, H dx = none → dx ≠ a → Q .non (upd (upd H dx (exd dx [("place", .int n)])) a (exo a C (some dx)))
/-- a made refusal's heap -/
theorem made_heap {H : Hp} {a dx : Addr} {fs : List (Str × V)} {C : Addr} (ha : H a = none) (hd : H dx = none) (ne : dx ≠ a) : upd (del (upd (upd (upd H a (exo a C none)) dx (exd dx fs)) a (exo a C (some dx))) a) dx (.xd fs) = upd H dx (.xd fs) := by
  funext b
  by_cases h1 : b = dx
  · rw [h1, upd_same, upd_same]
  · rw [upd_ne h1, upd_ne h1]
    by_cases h2 : b = a
    · rw [h2, del_same, ha]
    · rw [del_ne h2, upd_ne h2, upd_ne h1, upd_ne h2]
section
variable {P : Program} {w : World} {K : PySem.W.Frag} {mg : Str → Option Value} {base : Heap} {T : List Addr} {C CP fI : Addr} {fdI : FuncData}
theorem ok_ninit {k : Nat} (X : Exs K mg C CP fI fdI) : FnOk P w K mg base CX0 (k + 1) fI fdI ["self", "place"] (sp_ninit C) := by
  refine X.F.ok sc_ninit (fun vs H Q E h => ?_) (fun cdv A outer s H vs Q E hr h => ?_)
  · obtain ⟨a, n, rfl, _⟩ := h
    rfl
  · obtain ⟨a, n, rfl, hn, ha, q⟩ := h
    refine ⟨_, pss_cons (ps_expr (pe_binit (by rfl) X.gP X.rP X.gaP X.vP (pa_cons (pv 0) (pa_cons (pe_joinedE (.cons pe_str (.cons (pe_fmt (pv 1)) (.cons pe_str .nil)))) pa_nil)))) (pss_one (ps_ost (pv 0) (pv 1))), ?_⟩
    have ln := lt100_len hn
    refine ⟨_, rfl, _, rfl, by decide +kernel, _, rfl, .inr ⟨_, rfl, lt100_log hn, _, rfl, ?_, _, rfl, ?_, ?_⟩⟩
    · rw [strE_len, strE_len]
      exact Nat.le_trans (Nat.add_le_add_left ln _) (by decide +kernel)
    · rw [strE_len, strE_len, strE_len]
      exact Nat.le_trans (Nat.add_le_add_right (Nat.add_le_add_left ln _) _) (by decide +kernel)
    · refine ⟨a, C, _, rfl, by show 1 ≤ 1000; decide, X.oex, ha, ?_⟩
      exact ⟨_, rfl, _, rfl, a, C, rfl, X.oex, X.np, .inl ⟨ha, fun dx nd ne => q dx nd ne⟩⟩
end
/-! ### names_pack, good_tiers, can_stand, look: of any shop -/
def packB (os : List Ofr) (j : Nat) : Bool := match os[j]? with
  | some (.pack _ _) => true
  | _ => false
def namesB (os : List Ofr) (i : Nat) (k : Int) : Bool := decide (0 ≤ k) && decide (k < (i : Int)) && packB os k.toNat
def begs (ts : List (Int × Int)) : List Int := ts.map (·.1)
def riseB (bs : List Int) : Bool := (List.range (min bs.length (bs.drop 1).length)).all fun i => decide (bs.getD i 0 < (bs.drop 1).getD i 0)
def goodB (ts : List (Int × Int)) : Bool := decide (1 ≤ ts.length) && decide (ts.length ≤ 4) && decide ((begs ts).getD 0 0 = 1) && decide ((begs ts).getD (ts.length - 1) 0 ≤ 12) && riseB (begs ts)
def standO (os : List Ofr) (i : Nat) : Ofr → Bool
  | .add _ _ k => namesB os i k
  | .many _ ts => goodB ts
  | .pack _ _ => true
def standB (os : List Ofr) (i : Nat) : Bool := match os[i]? with
  | some o => standO os i o
  | none => true
def firstBad (os : List Ofr) : Option Nat := (List.range os.length).find? fun i => !standB os i
def SizeO (n : Nat) (os : List Ofr) : Prop := ∀ c ts, Ofr.many c ts ∈ os → ts.length ≤ n
theorem standB_at {os : List Ofr} {i : Nat} {o : Ofr} (h : os[i]? = some o) : standB os i = standO os i o := by
  unfold standB
  rw [h]
def spx_names_pack : Sp := fun vs H Q _ => ∃ (a : Addr) (os : List Ofr) (i : Nat) (c : List Int) (p k : Int), vs = [.ref a, .int i] ∧ ShopAt H a os ∧ os[i]? = some (.add c p k) ∧ Q (.bl (namesB os i k)) H
def spx_good_tiers (T : List Addr) : Sp := fun vs H Q _ => ∃ (a : Addr) (ts : List (Int × Int)), vs = [.ref a] ∧ TiersAt H a ts ∧ ts.length ≤ 1000 ∧ Tb T H ∧ ∀ H', Ext T H H' → Q (.bl (goodB ts)) H'
def spx_can_stand (T : List Addr) : Sp := fun vs H Q _ => ∃ (a : Addr) (os : List Ofr) (i : Nat), vs = [.ref a, .int i] ∧ ShopAt H a os ∧ SizeO 1000 os ∧ i < os.length ∧ Tb T H ∧ ∀ H', Ext T H H' → Q (.bl (standB os i)) H'
def spx_look (C : Addr) (T : List Addr) : Sp := fun vs H Q E => ∃ (a : Addr) (os : List Ofr), vs = [.ref a] ∧ ShopAt H a os ∧ SizeO 1000 os ∧ os.length ≤ 99 ∧ Tb T H ∧ (firstBad os = none → ∀ H', Ext T H H' → Q .non H') ∧
  ∀ n, firstBad os = some n → ∀ H' d, Ext T H H' → H d = none → H' d = some (.xd [("place", .int (n : Nat))]) → E (.ref C) (some d) H'
theorem find_range_none {p : Nat → Bool} {n : Nat} (h : ∀ i, i < n → p i = false) : (List.range n).find? p = none := by
  rw [List.find?_eq_none]
  intro i hi
  rw [h i (List.mem_range.mp hi)]
  decide
theorem find_range_some {p : Nat → Bool} : ∀ {n i : Nat}, i < n → (∀ j, j < i → p j = false) → p i = true → (List.range n).find? p = some i
  | n + 1, i, hi, h, hp => by
    rw [List.range_succ, List.find?_append]
    by_cases z : i < n
    · rw [find_range_some z h hp]
      rfl
    · have e : i = n := by omega
      subst e
      rw [find_range_none h]
      simp [hp]
section
variable {P : Program} {w : World} {K : PySem.W.Frag} {mg : Str → Option Value} {base : Heap} {T : List Addr}
theorem okx_names_pack {f : Addr} {fd : FuncData} {k : Nat} (D : Def K mg "names_pack" s_names_pack ["shop", "at"] f fd) : FnOk P w K mg base CX0 (k + 1) f fd ["shop", "at"] spx_names_pack := by
  refine D.F.ok sc_names_pack (fun vs H Q E h => ?_) (fun cdv A outer s H vs Q E hr h => ?_)
  · obtain ⟨a, os, i, c, p, k, rfl, _⟩ := h
    rfl
  · obtain ⟨a, os, i, c, p, k, rfl, ⟨vs, h1, h2, h3⟩, hi, q⟩ := h
    have li : i < os.length := (List.getElem?_eq_some_iff.mp hi).1
    obtain ⟨v, o, g1, g2, g3⟩ := ShopAt.get (H := H) (a := a) h2 li
    cases Option.some.inj (g2.symm.trans hi)
    obtain ⟨b, hb, _⟩ := h3 i v _ g1 g2
    refine ⟨_, (pss_cons (ps_set (i := 2) sc_names_pack.nd rfl (Or.inl rfl) (pe_ix ix_tup (pe_ix ix_list (pv 0) (pv 1) (fun _ _ => rfl)) pe_int (fun _ _ => rfl)))
  (pss_one (ps_ret (pe_and (pe_chain op_le op_lt pe_int (pv 2) (pv 1)) (pe_one (pe_cmpR op_eq (pe_ix ix_tup (pe_ix ix_list (pv 0) (pv 2) (fun _ _ => rfl)) pe_int (fun _ _ => rfl)) pe_str (nomark _))))))), ?_⟩
    refine ⟨_, rfl, _, rfl, a, _, _, _, rfl, rfl, SqL.of h1, atI_nat g3, v, _, _, _, rfl, rfl, SqT.of hb, atI_nat (j := 3) rfl, ?_⟩
    unfold namesB at q
    by_cases k0 : 0 ≤ k
    · rw [decide_eq_true k0, Bool.true_and] at q
      by_cases k1 : k < (i : Int)
      · rw [decide_eq_true k1, Bool.true_and] at q
        obtain ⟨j, rfl⟩ := Int.eq_ofNat_of_zero_le k0
        obtain ⟨v', o', g4, g5, g6⟩ := ShopAt.get (H := H) (a := a) h2 (show j < os.length by omega)
        obtain ⟨b', r', hb', _⟩ := (h3 j v' o' g4 g5).head
        refine ⟨_, rfl, _, _, rfl, rfl, true, (by show V.bl _ = V.bl _; rw [decide_eq_true k0]), _, rfl, _, _, rfl, rfl, true, (by show V.bl _ = V.bl _; rw [decide_eq_true k1]), ?_⟩
        refine ⟨_, rfl, _, rfl, a, _, _, _, rfl, rfl, SqL.of h1, atI_nat g6, v', _, _, _, rfl, rfl, SqT.of hb', atI_nat (j := 0) rfl, rfl, ?_⟩
        rw [Int.toNat_natCast] at q
        unfold packB at q
        rw [g5] at q
        cases o' with
        | pack c' p' => exact q
        | many c' ts' => exact q
        | add c' p' k' => exact q
      · rw [decide_eq_false k1, Bool.false_and] at q
        exact ⟨_, rfl, _, _, rfl, rfl, true, (by show V.bl _ = V.bl _; rw [decide_eq_true k0]), _, rfl, _, _, rfl, rfl, false, (by show V.bl _ = V.bl _; rw [decide_eq_false k1]), q⟩
    · rw [decide_eq_false k0, Bool.false_and, Bool.false_and] at q
      exact ⟨_, rfl, _, _, rfl, rfl, false, (by show V.bl _ = V.bl _; rw [decide_eq_false k0]), false, rfl, q⟩
theorem okx_good_tiers {f c t : Addr} {fd : FuncData} {k : Nat} (M : Names mg) (D : Def K mg "good_tiers" s_good_tiers ["tiers"] f fd) (hc : fd.code = .ref c) (TB : GxR.TabB base mg c t) (ht : t ∈ T) : FnOk P w K mg base CX0 (k + 1) f fd ["tiers"] (spx_good_tiers T) := by
  obtain ⟨t4, m_MOST_TIERS⟩ := M.c_MOST_TIERS
  obtain ⟨t12, m_MOST_PIECES⟩ := M.c_MOST_PIECES
  refine okc D.F hc sc_good_tiers (fun vs H Q E h => ?_) (fun cdv A outer s H vs Q E ec hr h => ?_)
  · obtain ⟨a, ts, rfl, _⟩ := h
    rfl
  · obtain ⟨a, ts, rfl, ⟨us, h1, h2, h3⟩, l1000, hT, q⟩ := h
    refine ⟨_, (pss_cons (ps_setLc (i := 1) (own := [("begin", 2), ("price", 3)]) (by rfl) sc_good_tiers.nd rfl rfl (sw_true rfl rfl rfl (by decide +kernel)) (pi_list (pv 0)) (blkOk_by (own := [("begin", 2), ("price", 3)]) (N := N_good_tiers) (sc := defScope s_good_tiers) (by decide +kernel)) (fun _ _ _ _ _ => (pg_tupK (K := K) (n := 2) rfl rfl (pgs_cons (pg_name (i := 2) sc_good_tiers.nd rfl (Or.inl rfl)) (pgs_cons (pg_name (i := 3) sc_good_tiers.nd rfl (Or.inl rfl)) pgs_nil)))) (fun _ _ _ _ _ => pts_nil) (fun _ _ _ _ _ => (pv 2)))
  (pss_cons (ps_if (pt_not (pt_chain op_le op_le pe_int (pe_callB call_len_seq (by rfl) M.len (by decide +kernel) (pa_cons (pv 1) pa_nil)) (pe_glob (v := .int 4) (by rfl) m_MOST_TIERS ⟨_, rfl⟩)))
   (pss_one (ps_ret pe_bl))
   pss_nil)
  (pss_cons (ps_if (PW.pt (pw_or (pt_cmpR op_ne (pe_ix ix_list (pv 1) pe_int (fun _ _ => rfl)) pe_int (nomark _)) (pw_or1 (pt_cmpR op_gt (pe_ix ix_list (pv 1) (pe_un un_neg pe_int) (fun _ _ => rfl)) (pe_glob (v := .int 12) (by rfl) m_MOST_PIECES ⟨_, rfl⟩) (nomark _)))))
   (pss_one (ps_ret pe_bl))
   pss_nil)
  (pss_one (ps_ret (pe_allZip hr (by rfl) M.all (by decide +kernel) (by rfl) M.zip TB ec ⟨rfl, rfl, by decide +kernel, rfl, rfl, rfl, by decide, (by show ∀ y : Str × NameKind, y ∈ _ → y.2 = .free → (defScope s_good_tiers).names.lookup y.1 = some .cell; decide +kernel)⟩ (pv 1) (pe_slice sl_list (pv 1) (po_some pe_int) po_none) (by decide) (by decide))))))), ?_⟩
    refine ⟨_, rfl, a, rfl, ⟨_, SqL.of h1⟩, fun B nB => lc_list (xs := us.map V.ref) (fun i H' => Same H H' ∧ H' B = some (LI ((ts.take i).map (·.1)))) ⟨same_upd nB, upd_same⟩ (fun i H' _ hp => SqL.of (hp.1 _ _ h1)) (fun i x H1 hx hp => ?_) (fun H1 hp => ?_)⟩
    · obtain ⟨s1, hB⟩ := hp
      rw [List.getElem?_map] at hx
      cases hu : us[i]? with
      | none => rw [hu] at hx; cases hx
      | some u =>
        rw [hu] at hx
        cases Option.some.inj hx
        have hi : i < ts.length := by
          have := (List.getElem?_eq_some_iff.mp hu).1
          omega
        have gt := List.getElem?_eq_getElem hi
        refine ⟨u, _, rfl, SqT.of (s1 _ _ (h3 i u _ hu gt)), rfl, _, _, rfl, _, _, rfl, rfl, rfl, _, rfl, _, hB, szL' (by rw [List.length_map, List.length_map, List.length_take]; omega), sm_new s1 nB, ?_⟩
        rw [take_succ_at gt, List.map_append]
        exact at_app
    · obtain ⟨s1, hB⟩ := hp
      rw [List.length_map, h2, List.take_length] at hB
      have hB : H1 B = some (LI (begs ts)) := hB
      have lbs : (begs ts).length = ts.length := List.length_map ..
      have hE : Ext T H H1 := .same s1 hT
      unfold goodB at q
      by_cases c1 : 1 ≤ ts.length
      · by_cases c2 : ts.length ≤ 4
        · rw [decide_eq_true c1, decide_eq_true c2, Bool.true_and, Bool.true_and] at q
          refine ⟨_, rfl, B, _, rfl, .inl (SqL.of hB), _, _, rfl, rfl, true, (by show V.bl _ = V.bl _; rw [decide_eq_true (by rw [List.length_map, lbs]; omega)]), _, _, rfl, rfl, true, (by show V.bl _ = V.bl _; rw [decide_eq_true (by rw [List.length_map, lbs]; omega)]), ?_⟩
          have k2 : (begs ts)[0]? = some ((begs ts).getD 0 0) := by rw [List.getD_eq_getElem?_getD, List.getElem?_eq_getElem (by omega)]; rfl
          have k4 : (begs ts)[ts.length - 1]? = some ((begs ts).getD (ts.length - 1) 0) := by rw [List.getD_eq_getElem?_getD, List.getElem?_eq_getElem (by omega)]; rfl
          generalize (begs ts).getD 0 0 = b0 at q k2
          generalize (begs ts).getD (ts.length - 1) 0 = b1 at q k4
          by_cases c3 : b0 = 1
          · rw [decide_eq_true c3, Bool.true_and] at q
            refine ⟨_, rfl, B, _, _, _, rfl, rfl, SqL.of hB, atI_nat (j := 0) (get_ints k2), rfl, _, rfl, iteNS (by rw [c3]) ?_⟩
            have hneg : atI ((begs ts).map V.int) (-1) = some (.int b1) := by
              have e : (begs ts).map V.int = ((begs ts).map V.int).take (ts.length - 1) ++ [.int b1] := by
                rw [← take_succ_at (get_ints k4), show ts.length - 1 + 1 = ts.length by omega]
                exact (List.take_of_length_le (by rw [List.length_map, lbs]; exact Nat.le_refl _)).symm
              rw [e]
              exact atI_last _ _
            refine ⟨_, rfl, 1, rfl, B, _, -1, _, rfl, rfl, SqL.of hB, hneg, _, _, rfl, rfl, _, rfl, ?_⟩
            by_cases c4 : b1 ≤ 12
            · rw [decide_eq_true c4, Bool.true_and] at q
              rw [decide_eq_false (by omega)]
              refine ⟨_, rfl, _, rfl, 1, rfl, B, _, rfl, SqL.of hB, fun z nz => ⟨B, z, begs ts, (begs ts).drop 1, rfl, rfl, SqL.of ((same_upd nz) _ _ hB), SqL.of (by rw [upd_same]; congr 2; rw [List.map_drop]; exact cut1 _), (hE.new (s1.free nz)).t1 t ht, fun H3 t3 => ?_⟩⟩
              exact q H3 ((hE.new (s1.free nz)).trans (.tabbed (hE.new (s1.free nz)).t1 t3 ht))
            · rw [decide_eq_false c4, Bool.false_and] at q
              rw [decide_eq_true (by omega)]
              exact q H1 hE
          · rw [decide_eq_false c3, Bool.false_and, Bool.false_and] at q
            refine ⟨_, rfl, B, _, _, _, rfl, rfl, SqL.of hB, atI_nat (j := 0) (get_ints k2), rfl, true, ?_, q H1 hE⟩
            show V.bl (!decide (V.int b0 = V.int 1)) = V.bl true
            rw [decide_eq_false (fun z => c3 (V.int.inj z))]
            rfl
        · rw [decide_eq_false c2, Bool.and_false, Bool.false_and, Bool.false_and, Bool.false_and] at q
          exact ⟨_, rfl, B, _, rfl, .inl (SqL.of hB), _, _, rfl, rfl, true, (by show V.bl _ = V.bl _; rw [decide_eq_true (by rw [List.length_map, lbs]; omega)]), _, _, rfl, rfl, false, (by show V.bl _ = V.bl _; rw [decide_eq_false (by rw [List.length_map, lbs]; omega)]), q H1 hE⟩
      · rw [decide_eq_false c1, Bool.false_and, Bool.false_and, Bool.false_and, Bool.false_and] at q
        exact ⟨_, rfl, B, _, rfl, .inl (SqL.of hB), _, _, rfl, rfl, false, (by show V.bl _ = V.bl _; rw [decide_eq_false (by rw [List.length_map, lbs]; omega)]), false, rfl, q H1 hE⟩
theorem okx_can_stand {f f1 f2 c t : Addr} {fd fd1 fd2 : FuncData} {k : Nat} (M : Names mg) (D : Def K mg "can_stand" s_can_stand ["shop", "at"] f fd) (D_names_pack : Def K mg "names_pack" s_names_pack ["shop", "at"] f1 fd1) (D_good_tiers : Def K mg "good_tiers" s_good_tiers ["tiers"] f2 fd2)
    (hc : fd2.code = .ref c) (TB : GxR.TabB base mg c t) (ht : t ∈ T) : FnOk P w K mg base CX0 (k + 2) f fd ["shop", "at"] (spx_can_stand T) := by
  have G_names_pack : FnOk P w K mg base CX0 (k + 1) f1 fd1 ["shop", "at"] spx_names_pack := okx_names_pack D_names_pack
  have G_good_tiers : FnOk P w K mg base CX0 (k + 1) f2 fd2 ["tiers"] (spx_good_tiers T) := okx_good_tiers M D_good_tiers hc TB ht
  refine D.F.ok sc_can_stand (fun vs H Q E h => ?_) (fun cdv A outer s H vs Q E hr h => ?_)
  · obtain ⟨a, os, i, rfl, _⟩ := h
    rfl
  · obtain ⟨a, os, i, rfl, ⟨vs, h1, h2, h3⟩, sz, hi, hT, q⟩ := h
    obtain ⟨v, o, g1, g2, g3⟩ := ShopAt.get (H := H) (a := a) h2 hi
    have ho := h3 i v o g1 g2
    rw [standB_at g2] at q
    refine ⟨_, (pss_cons (ps_set (i := 2) sc_can_stand.nd rfl (Or.inl rfl) (pe_ix ix_tup (pe_ix ix_list (pv 0) (pv 1) (fun _ _ => rfl)) pe_int (fun _ _ => rfl)))
  (pss_cons (ps_if (pt_cmpR op_eq (pv 2) pe_str (nomark _))
   (pss_one (ps_ret (pe_call G_names_pack hr (by rfl) D_names_pack.g D_names_pack.F.kp D_names_pack.b .nil pass0 (pa_cons (pv 0) (pa_cons (pv 1) pa_nil)))))
   pss_nil)
  (pss_cons (ps_if (pt_cmpR op_eq (pv 2) pe_str (nomark _))
   (pss_one (ps_ret (pe_call G_good_tiers hr (by rfl) D_good_tiers.g D_good_tiers.F.kp D_good_tiers.b .nil pass0 (pa_cons (pe_ix ix_tup (pe_ix ix_list (pv 0) (pv 1) (fun _ _ => rfl)) pe_int (fun _ _ => rfl)) pa_nil))))
   pss_nil)
  (pss_one (ps_ret pe_bl))))), ?_⟩
    cases o with
    | pack c p =>
      obtain ⟨b, hb, _⟩ := ho
      refine ⟨_, rfl, _, rfl, a, _, _, _, rfl, rfl, SqL.of h1, atI_nat g3, v, _, _, _, rfl, rfl, SqT.of hb, atI_nat (j := 0) rfl, ?_⟩
      refine ⟨_, rfl, rfl, false, rfl, ?_⟩
      refine ⟨_, rfl, rfl, false, rfl, ?_⟩
      exact q H (.refl hT)
    | many c ts =>
      obtain ⟨b, t', hb, _, hts⟩ := ho
      refine ⟨_, rfl, _, rfl, a, _, _, _, rfl, rfl, SqL.of h1, atI_nat g3, v, _, _, _, rfl, rfl, SqT.of hb, atI_nat (j := 0) rfl, ?_⟩
      refine ⟨_, rfl, rfl, false, rfl, ?_⟩
      refine ⟨_, rfl, rfl, true, rfl, ?_⟩
      exact ⟨_, rfl, _, rfl, a, _, _, _, rfl, rfl, SqL.of h1, atI_nat g3, v, _, _, _, rfl, rfl, SqT.of hb, atI_nat (j := 2) rfl, t', ts, rfl, hts, sz c ts (List.mem_of_getElem? g2), hT, q⟩
    | add c p kk =>
      obtain ⟨b, hb, _⟩ := ho
      refine ⟨_, rfl, _, rfl, a, _, _, _, rfl, rfl, SqL.of h1, atI_nat g3, v, _, _, _, rfl, rfl, SqT.of hb, atI_nat (j := 0) rfl, ?_⟩
      refine ⟨_, rfl, rfl, true, rfl, ?_⟩
      exact ⟨_, rfl, _, rfl, a, os, i, c, p, kk, rfl, ⟨vs, h1, h2, h3⟩, g2, q H (.refl hT)⟩
theorem okx_look {f f0 f1 f2 c t C CP fI : Addr} {fd fd0 fd1 fd2 fdI : FuncData} {k : Nat} (M : Names mg) (X : Exs K mg C CP fI fdI) (D : Def K mg "look" s_look ["shop"] f fd) (D_can_stand : Def K mg "can_stand" s_can_stand ["shop", "at"] f0 fd0) (D_names_pack : Def K mg "names_pack" s_names_pack ["shop", "at"] f1 fd1) (D_good_tiers : Def K mg "good_tiers" s_good_tiers ["tiers"] f2 fd2)
    (hc : fd2.code = .ref c) (TB : GxR.TabB base mg c t) (ht : t ∈ T) : FnOk P w K mg base (L2.CX P w) (k + 3) f fd ["shop"] (spx_look C T) := by
  have G_can_stand : FnOk P w K mg base CX0 (k + 2) f0 fd0 ["shop", "at"] (spx_can_stand T) := okx_can_stand M D_can_stand D_names_pack D_good_tiers hc TB ht
  have GI : FnOk P w K mg base CX0 (k + 1) fI fdI ["self", "place"] (sp_ninit C) := ok_ninit X
  refine D.F.okX sc_look (fun vs H Q E h => ?_) (fun cdv A outer s H vs Q E hr h => ?_)
  · obtain ⟨a, os, rfl, _⟩ := h
    rfl
  · obtain ⟨a, os, rfl, hS, sz, l99, hT, q, qE⟩ := h
    obtain ⟨vs, h1, h2, h3⟩ := id hS
    refine ⟨_, pss_one (ps_for (passes_of rfl) rfl (pi_range1 (by rfl) M.range (pa_cons (pe_callB call_len_seq (by rfl) M.len (by decide +kernel) (pa_cons (pv 0) pa_nil)) pa_nil)) (pg_name (i := 1) sc_look.nd rfl (Or.inl rfl))
      (pss_one (ps_if (pt_not (pt_val (pe_call G_can_stand hr (by rfl) D_can_stand.g D_can_stand.F.kp D_can_stand.b .nil pass0 (pa_cons (pv 0) (pa_cons (pv 1) pa_nil)))))
        (pss_one (ps_raise rfl (takes_of rfl rfl rfl rfl) (pmk_oex X.oex X.iC X.tI GI hr X.b .nil pass0 (by rfl) X.gN (pa_cons (pv 1) pa_nil))))
        pss_nil))), ?_⟩
    refine ⟨_, rfl, a, _, rfl, .inl (SqL.of h1), _, rfl, by omega, by rw [List.length_map]; omega, for_range (n := (((vs.map V.ref).length : Nat) : Int).toNat) (fun i σ H' => ∃ y1, σ = [some (.ref a), y1] ∧ Ext T H H' ∧ ∀ j, j < i → standB os j = true) ⟨none, rfl, .refl hT, fun j hj => absurd hj (Nat.not_lt_zero _)⟩ (fun i σ H1 hi hp => ?_) (fun σ H1 hp => ?_)⟩
    · obtain ⟨y1, rfl, e1, all⟩ := hp
      rw [Int.toNat_natCast, List.length_map, h2] at hi
      refine ⟨_, rfl, _, rfl, a, os, i, by show [V.ref a, V.int (0 + (i : Int))] = _; rw [Int.zero_add], hS.ext e1, sz, hi, e1.t1, fun H2 e2 => ?_⟩
      have E2 := e1.trans e2
      cases hb : standB os i with
      | true =>
        refine ⟨true, rfl, _, rfl, E2, fun j hj => ?_⟩
        by_cases z : j = i
        · rw [z]
          exact hb
        · exact all j (by omega)
      | false =>
        have fb : firstBad os = some i := find_range_some hi (fun j hj => by rw [all j hj]; rfl) (by rw [hb]; rfl)
        refine ⟨false, rfl, _, rfl, by show 1 ≤ 1000; decide, fun x nx => ?_⟩
        refine ⟨x, i, by show [V.ref x, V.int (0 + (i : Int))] = _; rw [Int.zero_add], by omega, upd_same, fun dx nd ne => ⟨rfl, dx, [("place", .int (i : Nat))], upd_same, ?_, ?_, ?_⟩⟩
        · rw [upd_ne ne, upd_same]
        · rw [upd_ne ne] at nd
          exact nd
        · rw [upd_ne ne] at nd
          rw [made_heap nx nd ne]
          exact qE i fb _ dx (E2.new (E2.free _ nd)) (E2.free _ nd) upd_same
    · obtain ⟨y1, rfl, e1, all⟩ := hp
      rw [Int.toNat_natCast, List.length_map, h2] at all
      exact q (find_range_none fun i hi => by rw [all i hi]; rfl) H1 e1
end
/-! ### generator expressions whose element may call defs: the generator's frame as a context of its own -/
abbrev gCx (X : Cx) (A : Around) (s : Shared) (H : Hp) (cenv : Env) (fp : List Addr) (pn : List (Addr × Obj)) : Cx :=
  { X with A := A.deeper cenv, s_0 := s, H_0 := H, env := cenv, outer := X.stack, stack := cenv :: X.stack, ex := fp, fn := fun _ => false, calm := true, pn := pn, xe := fun _ _ => False }
theorem over_gen {A : Around} {elt : Expr} {cs : List Comprehension} {scope : Scope} {pos : Pos} {it acc : Value} {cenv : Env} : A.over (.compLoop (.GeneratorExp elt cs scope pos) 0 it acc cenv) [] = A.deeper cenv := by
  rfl
theorem g_cell {cells : List (Str × Addr)} {names : List (Str × NameKind)} {y : Str} {c : Addr} (hf : ∀ z ∈ names, z.2 = .free → ∃ c, cells.lookup z.1 = some c) (e : (cloFrom cells names []).lookup y = some c) : names.lookup y ≠ none ∧ cells.lookup y = some c := by
  rcases cloFrom_mem (PySem.mem_of_lookup e) with q | ⟨q1, q2⟩
  · cases q
  · obtain ⟨c', e'⟩ := hf _ q1 rfl
    obtain ⟨k, hk⟩ := mem_lookup q1
    refine ⟨by rw [hk]; simp, ?_⟩
    subst q2
    have e'' : cells.lookup y = some c' := e'
    rw [e'']
    rfl
theorem g_look {cells : List (Str × Addr)} {names : List (Str × NameKind)} {y : Str} (hf : ∀ z ∈ names, z.2 = .free → ∃ c, cells.lookup z.1 = some c) (e : names.lookup y = some .free) : ∃ c, (cloFrom cells names []).lookup y = some c ∧ cells.lookup y = some c := by
  obtain ⟨c, hc⟩ := mem_lookup (cloFrom_has (cells := cells) (acc := []) (PySem.mem_of_lookup e))
  exact ⟨c, hc, (g_cell hf hc).2⟩
section
variable {X : Cx} {pins : List (Addr × Obj)} {σ : L2.St} {H : Hp} {s s5 : Shared}
/-- the generator's frame stands beside its object -/
theorem g_start {A : Around} {scope : Scope} {own : List (Str × Nat)} {fp : List Addr} {code : Value} {m : Str → Option Value} {a : Addr} {go : Obj} (I : Inv X pins σ H s) (ok : BlkOk X.N X.env.scope scope own) (hN : X.N.Nodup)
    (hcell : ∀ y ∈ scope.names, y.2 ≠ .cell) (hfp : ∀ b ∈ fp, FpOk X pins H b ∧ b < s.heap.objs.size) (hh : A.handled = none) (hfr : A.frames = some X.stack)
    (kp : ∀ b o, s.heap.get? b = some o → s5.heap.get? b = some o) (hns : s5.heap.Ns s.heap.objs.size m) (hos : s5.os = s.os) (hb : AllBare s5.gens) (hgo : s5.heap.get? a = some go) (ha : s.heap.objs.size < a) (hd : ∀ v, go.data ≠ .cell v) :
    Inv (gCx X A s H (genEnv scope (cloFrom X.env.cells scope.names []) s.heap.objs.size code builtinsNs X.env) fp [(a, go)]) [] (wipe σ (own.map (·.2))) H s5 := by
  have hf : ∀ z ∈ scope.names, z.2 = .free → ∃ c, X.env.cells.lookup z.1 = some c := fun z hz e => (ok.free z hz e).elim (fun k => I.ok.has _ (.inl k)) fun k => I.ok.has _ (.inr k)
  have low : ∀ {y c}, (cloFrom X.env.cells scope.names []).lookup y = some c → X.env.cells.lookup y = some c ∧ c < s.heap.objs.size := fun {y c} e => by
    have q := (g_cell hf e).2
    obtain ⟨v, z⟩ := I.cell y c q
    exact ⟨q, z.lt⟩
  have nocell : ∀ {y : Str}, scope.names.lookup y ≠ some .cell := fun {y} e => hcell _ (PySem.mem_of_lookup e) rfl
  have okg : (gCx X A s H (genEnv scope (cloFrom X.env.cells scope.names []) s.heap.objs.size code builtinsNs X.env) fp [(a, go)]).Ok := {
    mod := I.ok.mod
    kind := ok.kind
    glob := I.ok.glob
    blt := rfl
    above := Nat.le_refl _
    inj := fun y z c e1 e2 => I.ok.inj y z c (low e1).1 (low e2).1
    has := fun y hy => by
      rcases hy with q | q
      · exact absurd q nocell
      · obtain ⟨c, e, _⟩ := g_look hf q
        exact ⟨c, e⟩
    cab := fun _ _ z => nomatch z
    hd := fun _ => hh
    frames := Around.frames_deeper hfr
    stk := .inr ⟨rfl, rfl⟩
    exf := fun b hb => ⟨Nat.ne_of_lt (hfp b hb).2, fun y c e => (hfp b hb).1.2.2.2.2.1 y c (low e).1⟩
    bs := I.bs
    bsz := Nat.le_trans I.ok.bsz I.sz
    noex := fun b o e hb => by
      rcases (hfp b hb).1.2.2.2.1 with z | z
      · exact I.ok.noex b o e z
      · have h1 := Heap.lt_size e
        have h2 := I.ok.bsz
        exact Nat.lt_irrefl _ (Nat.lt_of_lt_of_le h1 (Nat.le_trans h2 z))
    exfs := fun b hb z => (List.mem_cons.mp (I.stkSub b z)).elim (hfp b hb).1.2.1 (hfp b hb).1.2.2.1
    funs := I.stack
    frf := I.stkFree }
  refine ⟨okg, hos, hb, Un.kept kp, ⟨m, hns, fun i y v e1 e2 e3 => ?_⟩, fun y c e => ?_, I.hok.fresh (Nat.le_refl _), fun y c e => I.freeC y c (low e).1, fun p hp => ?_, I.hok.kept kp, by rw [wipe_length]; exact I.len⟩
  · obtain ⟨e2, hne⟩ := wipe_some e2
    have hfree : scope.names.lookup y = some .free := by
      have e3 : Vis scope y := e3
      rcases e3 with q | q | q
      · rcases ok.own _ (PySem.mem_of_lookup q) (.inl rfl) with z | z
        · obtain ⟨p, hp, hpy⟩ := List.mem_map.mp z
          have e4 := ok.ix p hp
          rw [show p.1 = y from hpy] at e4
          exact absurd (List.mem_map.mpr ⟨p, hp, nodup_ix hN e4 e1⟩) hne
        · exact absurd (List.mem_of_getElem? e1) z
      · exact absurd q nocell
      · exact q
    obtain ⟨c, h1, h2⟩ := g_look hf hfree
    obtain ⟨m0, _, hl⟩ := I.loc
    have hsc := ok.free _ (PySem.mem_of_lookup hfree) rfl
    obtain ⟨u, r, q⟩ := hl i y v e1 e2 (hsc.elim (fun k => .inr (.inl k)) fun k => .inr (.inr k))
    refine ⟨u, r, .inr ⟨.inr hfree, c, h1, ?_⟩⟩
    rcases q with ⟨k, _⟩ | ⟨_, c', e', z⟩
    · have k : X.env.scope.names.lookup y = some .local := k
      rcases hsc with k' | k' <;> rw [show X.env.scope.names.lookup y = _ from k'] at k <;> cases k
    · rw [h2] at e'
      cases e'
      exact z.keeps kp
  · obtain ⟨v, z⟩ := I.cell y c (low e).1
    exact ⟨v, z.keeps kp⟩
  · have hp' : p ∈ [(a, go)] := by simpa using hp
    rw [List.mem_singleton.mp hp']
    exact ⟨hgo, I.hok.fresh (Nat.le_of_lt ha), Nat.ne_of_gt ha, fun z => by
      have q : a ∉ X.env.locals :: X.fs := fun z => by
        rcases List.mem_cons.mp z with z | z
        · have q1 : (a : Nat) < s.heap.objs.size := by rw [z]; exact I.lt
          exact Nat.lt_irrefl _ (Nat.lt_trans q1 ha)
        · exact I.nofs (Nat.le_of_lt ha) z
      exact q (I.stkSub a z), hd⟩
end
/-- the same heap and answers from without; no generator needs a cleaning -/
structure Still (s s' : Shared) : Prop where
  heap : s'.heap = s.heap
  os : s'.os = s.os
  bare : AllBare s'.gens
theorem inv_still {X : Cx} {pins : List (Addr × Obj)} {σ : L2.St} {H : Hp} {s s' : Shared} (I : Inv X pins σ H s) (h : Still s s') : Inv X pins σ H s' := by
  obtain ⟨h1, h2, h3⟩ := h
  exact ⟨I.ok, h2.trans I.os, h3, by rw [h1]; exact I.base, by rw [h1]; exact I.loc, by rw [h1]; exact I.cell, I.free, I.freeC, by rw [h1]; exact I.pin, by rw [h1]; exact I.hok, I.len⟩
/-- how a generator ends, and what it hands out: L turns in all -/
def gEnd (Y : Cx) (σ0 : L2.St) (L : Nat) (W : Nat → Hp → Prop) (s₁ : Shared) : Prop := ∃ H, Inv Y [] σ0 H s₁ ∧ W L H
def gHand (Y : Cx) (σ0 : L2.St) (L : Nat) (W : Nat → Hp → Prop) (Out : Nat → V → Hp → Prop) : Protocol := fun n _ v s kap =>
  ∃ i y H, i + n + 1 = L ∧ RelV y v ∧ Inv Y [] σ0 H s ∧ Out i y H ∧ ∀ s'', Still s s'' → W (i + 1) H → kap (.send .none) s''
section
variable {X : Cx} {A : Around} {s4 : Shared} {H4 : Hp} {cenv : Env} {fp : List Addr} {pn : List (Addr × Obj)} {elt tg iter : Expr} {scope : Scope} {pos : Pos} {it : Addr} {J : It} {tn : Nat → Heap → Prop} {g : TG} {te : TE} {σ0 : L2.St} {vs : List Nat} {L : Nat} {W : Nat → Hp → Prop} {Out : Nat → V → Hp → Prop}
theorem g_loop (hco : cenv.scope.isCoroutine = false) (T : Turn X.prog X.w X.K tg J fp it tn) (hpn : ∀ p ∈ pn, p.1 ∉ fp) (pg : PG (gCx X A s4 H4 cenv fp pn) tg g) (pe : PE (gCx X A s4 H4 cenv fp pn) elt te) (hst : ∀ H, W L H → J.stop L H)
    (hgo : ∀ i H, i < L → W i H → J.go i H ∧ ∀ x H', J.yld i H x H' → g x σ0 H' fun σ2 H2 => wipe σ2 vs = σ0 ∧ te σ2 H2 (Out i)) :
    ∀ (n i : Nat) (s₀ s : Shared), i + n = L → (∃ H, Inv (gCx X A s4 H4 cenv fp pn) [] σ0 H s ∧ tn i s.heap ∧ (∀ b ∈ fp, H b = none) ∧ W i H) →
      Seg (model X.prog X.w) A (fun _ _ r s₁ => r = .ok .next ∧ gEnd (gCx X A s4 H4 cenv fp pn) σ0 L W s₁) (gHand (gCx X A s4 H4 cenv fp pn) σ0 L W Out) n s₀
        (.compLoop (.GeneratorExp elt [⟨tg, iter, [], 0⟩] scope pos) 0 (.ref it) .none cenv) ((model X.prog X.w).den (.compLoop (.GeneratorExp elt [⟨tg, iter, [], 0⟩] scope pos) 0 (.ref it) .none cenv)) [] s := by
  have foot : ∀ {σ' : L2.St} {H' : Hp} {s' : Shared}, Inv (gCx X A s4 H4 cenv fp pn) [] σ' H' s' → (∀ b ∈ fp, H' b = none) → ∀ b ∈ fp, FpOk (gCx X A s4 H4 cenv fp pn) [] H' b := fun {σ' H' s'} I' hn b hb =>
    ⟨hn b hb, (I'.ok.exf b hb).1, I'.ok.exfs b hb, .inl hb, (I'.ok.exf b hb).2, fun p hp z => by
      have hp' : p ∈ pn := by simpa using hp
      exact hpn p hp' (z ▸ hb)⟩
  intro n
  induction n with
  | zero =>
    rintro i s₀ s hi ⟨H, I, st, nf, w⟩
    obtain rfl : i = L := by omega
    change Seg _ A _ _ 0 s₀ _ (Sem.onRaise (compTurn _ 0 (.ref it) .none cenv) _) [] s
    rw [compTurn_gen, Sem.onRaise_eq_wrap]
    refine seg_bind_wrap (wpAny_standAt (seg_bind_wrap ?_))
    rw [over_gen]
    refine thnF (T.done (gCx X A s4 H4 cenv fp pn) rfl rfl rfl rfl i [] s σ0 H (fun _ _ => False) I (foot I nf) st (hst H w)) ?_
    rintro r s6 ⟨rfl, I6⟩
    exact seg_end (.ok .next) ⟨rfl, H, I6, w⟩
  | succ n ih =>
    rintro i s₀ s hi ⟨H, I, st, nf, w⟩
    obtain ⟨go, step⟩ := hgo i H (by omega) w
    change Seg _ A _ _ (n + 1) s₀ _ (Sem.onRaise (compTurn _ 0 (.ref it) .none cenv) _) [] s
    rw [compTurn_gen, Sem.onRaise_eq_wrap]
    refine seg_bind_wrap (wpAny_standAt (seg_bind_wrap ?_))
    rw [over_gen]
    refine thnF (T.item (gCx X A s4 H4 cenv fp pn) rfl rfl rfl rfl i [] s σ0 H (fun _ _ => False) I (foot I nf) st go) ?_
    rintro r s6 ⟨u, rfl, h6⟩
    refine seg_bind_wrap ?_
    rw [over_gen]
    refine thnF h6 ?_
    rintro _ s7 ⟨x, H7, I7, r7, y7, st7, n7⟩
    refine seg_bind_wrap ?_
    rw [over_gen]
    refine thnF (pg.run _ s7 _ H7 x u _ (I7.pinned (foot I7 n7) (T.obj _ _ st7)) r7 (step x H7 y7)) ?_
    rintro _ s8 ⟨σ8, H8, I8, hw8, q8⟩
    refine seg_bind_wrap (wpAny_tests_nil ?_)
    rw [if_pos rfl]
    have hy : ∀ v, yieldOut cenv v = yieldValue v := fun v => by
      unfold yieldOut
      rw [hco]
      rfl
    simp only [hy]
    rw [Sem.bind_eq_wrap', Sem.bind_eq_wrap', Sem.wrap_wrap, Sem.wrap_wrap]
    refine seg_wrap ?_
    rw [over_gen]
    refine thnF (pe.run _ s8 σ8 H8 _ I8 q8) ?_
    rintro v s10 ⟨y, H10, I10, r10, o10⟩
    have pin' : ∀ b ∈ fp, ∀ o, s7.heap.get? b = some o → s10.heap.get? b = some o ∧ H10 b = none := fun b hb o e =>
      ⟨(I10.pin (b, o) (List.mem_append_right _ (List.mem_append_right _ (mem_pinsAt hb e)))).1, (I10.pin (b, o) (List.mem_append_right _ (List.mem_append_right _ (mem_pinsAt hb e)))).2.1⟩
    have I11 : Inv (gCx X A s4 H4 cenv fp pn) [] σ0 H10 s10 := (I10.unpinned (pins := [])).weak (by rw [← hw8, wipe_length]) fun j v e => by
      rw [← hw8] at e
      exact (wipe_some e).1
    refine seg_at (seg_yield rfl rfl rfl ⟨i, y, H10, by omega, r10, I11, o10, fun s'' hs w' => ?_⟩)
    refine seg_again rfl (ih (i + 1) s'' s'' (by omega) ⟨H10, inv_still I11 hs, ?_, fun b hb => ?_, w'⟩)
    · rw [hs.heap]
      exact T.keep _ _ _ st7 fun b hb o e => (pin' b hb o e).1
    · obtain ⟨o, e, _⟩ := T.obj _ _ st7 b hb
      exact (pin' b hb o e).2
theorem g_begin (hco : cenv.scope.isCoroutine = false) (T : Turn X.prog X.w X.K tg J fp it tn) (hpn : ∀ p ∈ pn, p.1 ∉ fp) (pg : PG (gCx X A s4 H4 cenv fp pn) tg g) (pe : PE (gCx X A s4 H4 cenv fp pn) elt te) (hst : ∀ H, W L H → J.stop L H)
    (hgo : ∀ i H, i < L → W i H → J.go i H ∧ ∀ x H', J.yld i H x H' → g x σ0 H' fun σ2 H2 => wipe σ2 vs = σ0 ∧ te σ2 H2 (Out i)) (s₀ s : Shared) (h : ∃ H, Inv (gCx X A s4 H4 cenv fp pn) [] σ0 H s ∧ tn 0 s.heap ∧ (∀ b ∈ fp, H b = none) ∧ W 0 H) :
    Seg (model X.prog X.w) A (fun _ _ r s₁ => r = .ok .next ∧ gEnd (gCx X A s4 H4 cenv fp pn) σ0 L W s₁) (gHand (gCx X A s4 H4 cenv fp pn) σ0 L W Out) L s₀
        (.compStart (.GeneratorExp elt [⟨tg, iter, [], 0⟩] scope pos) 0 (.ref it) .none cenv) ((model X.prog X.w).den (.compStart (.GeneratorExp elt [⟨tg, iter, [], 0⟩] scope pos) 0 (.ref it) .none cenv)) [] s := by
  have loop := g_loop (iter := iter) (scope := scope) (pos := pos) hco T hpn pg pe hst hgo L 0 s₀ s (Nat.zero_add _) h
  obtain ⟨H, I, st, _⟩ := h
  change Seg _ A _ _ L s₀ _ (Sem.onRaise (compStart _ 0 (.ref it) .none cenv) _) [] s
  unfold compStart
  rw [Sem.onRaise_eq_wrap]
  refine seg_bind_wrap (m := ask) (wpAny_askSetting ?_)
  split
  · exact seg_again rfl loop
  · refine seg_bind_wrap (wpAny_rule ?_)
    first
      | exact seg_bind_wrap (wpAny_standAt (seg_bind_wrap (T.self _ 0 s _ _ st (seg_again rfl loop))))
      | (refine seg_bind_wrap (m := standAt iter.pos) (wpAny_standAt ?_); exact seg_bind_wrap (T.self _ 0 s _ _ st (seg_again rfl loop)))
end
/-- the scope of a generator expression: its own names, what walks at «.0», no cells of its own -/
structure GenB (N : List Str) (sc scope : Scope) (own : List (Str × Nat)) : Prop where
  blk : BlkOk N sc scope own
  co : scope.isCoroutine = false
  cell : ∀ y ∈ scope.names, y.2 ≠ .cell
  dot : scope.names.lookup (".0" : Str) = some NameKind.local
/-- a generator that stands ready, n turns ahead at most -/
def gRun (M : Model) (A : Around) (Y : Cx) (σ0 : L2.St) (L : Nat) (W : Nat → Hp → Prop) (Out : Nat → V → Hp → Prop) (a : Addr) (j n : Nat) (s : Shared) : Prop :=
  s.heap.IsGen a j ∧ s.heap.NoLimit ∧ ∃ gs, s.gens[j]? = some gs ∧ gs.Goes M A (fun _ _ r s₁ => r = .ok .next ∧ gEnd Y σ0 L W s₁) (gHand Y σ0 L W Out) n (.send .none) (s.setGen j .running)
/-- what is told of a generator expression: its walk by W, what it hands out by Out; all else by Use -/
def tGen (P : Addr) (wi : TI) (g : TG) (te : TE) (vs : List Nat) (Use : Nat → (Nat → Hp → Prop) → (Nat → V → Hp → Prop) → Prop) : L2.St → Hp → Prop := fun σ H => wi σ H fun J H1 => GxR.TabG H1 P ∧ ∀ H2, GxR.Tabbed P H1 H2 →
  ∃ (L : Nat) (W : Nat → Hp → Prop) (Out : Nat → V → Hp → Prop), W 0 H2 ∧ (∀ H, W L H → J.stop L H) ∧
    (∀ i H, i < L → W i H → J.go i H ∧ ∀ x H', J.yld i H x H' → g x (wipe σ vs) H' fun σ2 H3 => wipe σ2 vs = wipe σ vs ∧ te σ2 H3 (Out i)) ∧ Use L W Out
section
variable {X : Cx} {pins : List (Addr × Obj)} {σ : L2.St} {H : Hp} {s : Shared}
theorem g_made {c P : Addr} {elt tg iter : Expr} {gpos : Pos} {scope : Scope} {own : List (Str × Nat)} {wi : TI} {g : TG} {te : TE} {k : Nat} {Q' : Value → Shared → Prop} {Use : Nat → (Nat → Hp → Prop) → (Nat → V → Hp → Prop) → Prop}
    (hr : Room (k + 1) X.A) (TB : GxR.TabB X.base X.mg c P) (hcode : X.env.code = .ref c) (S : GenB X.N X.env.scope scope own) (hN : X.N.Nodup) (I : Inv X pins σ H s) (hi : PI X tg iter wi)
    (hg : ∀ (A : Around) (s : Shared) (H : Hp) (C : Addr) (cl : List (Str × Addr)) (code : Value) (fp : List Addr) (pn : List (Addr × Obj)), PG (gCx X A s H (genEnv scope cl C code builtinsNs X.env) fp pn) tg g)
    (he : ∀ (A : Around) (s : Shared) (H : Hp) (C : Addr) (cl : List (Str × Addr)) (code : Value) (fp : List Addr) (pn : List (Addr × Obj)), Room k (A.deeper (genEnv scope cl C code builtinsNs X.env)) → PE (gCx X A s H (genEnv scope cl C code builtinsNs X.env) fp pn) elt te)
    (hs : ∀ v, genFold iter X.env v = pure v) (h : tGen P wi g te (own.map (·.2)) Use σ H)
    (hQ : ∀ (Y : Cx) (L : Nat) (W : Nat → Hp → Prop) (Out : Nat → V → Hp → Prop) (a : Addr) (j : Nat) (s5 : Shared), Use L W Out → (∀ H' s', Inv Y [] (wipe σ (own.map (·.2))) H' s' → Inv X pins σ H' s' ∧ s'.heap.IsGen a j) →
      gRun (model X.prog X.w) X.A.in1.in1 Y (wipe σ (own.map (·.2))) L W Out a j L s5 → Q' (.ref a) s5) :
    wpAny (model X.prog X.w) X.A (eval (.GeneratorExp elt [⟨tg, iter, [], 0⟩] scope gpos) X.env) Q' X.xe s := by
  have hf : ∀ z ∈ scope.names, z.2 = .free → ∃ c, X.env.cells.lookup z.1 = some c := fun z hz e => (S.blk.free z hz e).elim (fun k => I.ok.has _ (.inl k)) fun k => I.ok.has _ (.inr k)
  refine wpAny_GeneratorExp_make S.co (closure_ok hf) S.cell S.dot S.blk.kind (by have := hr.dp; omega) ?_ hs
  refine thn (hi.run pins s σ H _ I h) fun xv s1 hx => thn hx ?_
  rintro itv s2 ⟨it, fp, tn, J, H1, rfl, I2, T, st2, f2, ⟨ps, hP, ht⟩, q⟩
  have lim2 := I2.nolimit
  refine ⟨lim2, ?_⟩
  have hPs : s2.heap.get? P = some { cls := .none, data := .fields ps } := I2.hok P _ hP
  have cd : PySem.W.CodeHd s2.heap c P := TB.code.keeps fun b u e => I2.bk b u e
  have main : ∀ (code : Value) (h3 : Heap) (tk : Nat) (more : Array Value), Heap.ExtBut P s2.heap h3 → s2.heap.objs.size ≤ h3.objs.size → h3.get? P = some { cls := .none, data := .fields (ps ++ more) } → TriplesOk (ps ++ more).toList →
      wpAny (model X.prog X.w) X.A (builtinsFor X.env.globals X.env.builtins) (fun bi s₄ => ∀ h', h'.Ns s₄.heap.objs.size (fun y => if y = ".0" then some (.ref it) else none) → Heap.SameBut s₄.heap.objs.size (s₄.heap.push { cls := .type "frame", data := .dict #[] }) h' →
          Q' (.ref h'.objs.size) { s₄ with
            gens := s₄.gens.push (.fresh (.compStart (.GeneratorExp elt [⟨tg, iter, [], 0⟩] scope gpos) 0 (.ref it) .none (genEnv scope (cloFrom X.env.cells scope.names []) s₄.heap.objs.size code bi X.env))),
            toks := s₄.toks + 1 + 1 + 1,
            heap := h'.push { cls := .type "generator", data := .fields #[.int s₄.gens.size 0, .str "<genexpr>" (s₄.toks + 1), .str (X.env.qual ++ "<genexpr>") (s₄.toks + 1 + 1)] } }) X.xe { s2 with heap := h3, toks := tk } := by
    intro code h3 tk more hx hsz3 hP3 ht3
    obtain ⟨bm, ob, e1, e2, e3, e4, e5, e6, e7, e8⟩ := TB.bm
    have keep3 : ∀ b u, b ≠ P → s2.heap.get? b = some u → h3.get? b = some u := fun b u hb e => hx b u hb e
    have hg2 : s2.heap.Ns mainGlobals X.mg := I2.mod.glob.keeps I2.bk
    refine wpAny_builtinsFor (m := X.mg) (by rw [I2.ok.glob]; exact hg2.extBut hx TB.gP) e1 e2 (keep3 _ _ e4 (I2.bk _ _ e5)) e6 e7 e8 ?_
    have I4 : Inv X pins σ (upd H1 P (.tbl (ps ++ more))) { s2 with heap := h3, toks := tk } := GxR.inv_tab (g' := s2.gens) (d' := s2.drawn) (t' := tk) I2 hP keep3 hP3 I2.bare
    obtain ⟨L, W, Out, w0, hst, hgo, use⟩ := q _ ⟨⟨ps ++ more, upd_same, ht3⟩, fun b hb => upd_ne hb⟩
    have bP : ∀ b ∈ fp, b ≠ P := fun b hb z => by
      have q1 := (f2 b hb).1
      rw [z, hP] at q1
      cases q1
    have f4 : ∀ b ∈ fp, FpOk X pins (upd H1 P (.tbl (ps ++ more))) b ∧ b < h3.objs.size := fun b hb => by
      obtain ⟨o, e, _⟩ := T.obj _ _ st2 b hb
      refine ⟨⟨by rw [upd_ne (bP b hb)]; exact (f2 b hb).1, (f2 b hb).2⟩, Heap.lt_size (keep3 b o (bP b hb) e)⟩
    have st4 : tn 0 h3 := T.keep _ _ _ st2 fun b hb o e => keep3 b o (bP b hb) e
    generalize upd H1 P (.tbl (ps ++ more)) = H2 at I4 w0 f4
    generalize hs4 : ({ s2 with heap := h3, toks := tk } : Shared) = s4 at I4 ⊢
    have hp4 : s4.heap = h3 := by rw [← hs4]
    rw [← hp4] at f4 st4
    intro h' hn' hs'
    generalize hgo' : ({ cls := .type "generator", data := .fields #[.int s4.gens.size 0, .str "<genexpr>" (s4.toks + 1), .str (X.env.qual ++ "<genexpr>") (s4.toks + 1 + 1)] } : Obj) = go
    have hgn : ∀ {h : Heap}, h.get? h'.objs.size = some go → h.IsGen h'.objs.size s4.gens.size := fun {h} e => by
      subst hgo'
      exact ⟨_, _, _, e, rfl, rfl, rfl⟩
    have hgd : ∀ v, go.data ≠ .cell v := fun v z => by
      subst hgo'
      cases z
    have hgf : ∀ h : Heap, (h.push go).get? h.objs.size = some go := fun h => by
      subst hgo'
      exact Heap.get?_push_size _ rfl
    have hsz' : h'.objs.size = s4.heap.objs.size + 1 := by rw [hs'.1, Heap.size_push]
    have kp : ∀ b o, s4.heap.get? b = some o → (h'.push go).get? b = some o := fun b o e => Heap.get?_push_of_some _ (hs'.extBut b o (Nat.ne_of_lt (Heap.lt_size e)) (Heap.get?_push_of_some _ e))
    have ha : s4.heap.objs.size < h'.objs.size := by omega
    have hnf : ∀ p ∈ [(h'.objs.size, go)], p.1 ∉ fp := fun p hp hb => by
      rw [List.mem_singleton.mp hp] at hb
      exact Nat.lt_irrefl _ (Nat.lt_trans ha (f4 _ hb).2)
    have rm : Room k (X.A.in1.in1.deeper (genEnv scope (cloFrom X.env.cells scope.names []) s4.heap.objs.size code builtinsNs X.env)) :=
      ⟨hr.hd, by have := hr.dp; show X.A.depth + 1 + 3 * k + 5 < _; omega, by have := hr.un; show X.A.units + 1 + 1 + 3 + 16 * k + 200 < _; omega⟩
    refine hQ (gCx X X.A.in1.in1 s4 H2 (genEnv scope (cloFrom X.env.cells scope.names []) s4.heap.objs.size code builtinsNs X.env) fp [(h'.objs.size, go)]) L W Out _ s4.gens.size _ use (fun H' s' I' => ⟨?_, ?_⟩) ⟨hgn (hgf h'), I4.nolimit.keeps kp, _, Array.getElem?_push_size .., rfl, ?_⟩
    · exact I4.call' (ch := fp) I'.os I'.base I'.hok I'.bare fun b hb => ⟨(f4 b hb).1.2.2.2.1, (f4 b hb).1.2.1, (f4 b hb).1.2.2.2.2.1, (f4 b hb).1.2.2.2.2.2⟩
    · exact hgn (I'.pin (h'.objs.size, go) (by simp)).1
    · refine g_begin (vs := own.map (·.2)) S.co T hnf (hg _ _ _ _ _ _ _ _) (he _ _ _ _ _ _ _ _ rm) hst hgo _ _ ⟨H2, g_start I4 S.blk hN S.cell f4 hr.hd I4.ok.frames kp (hn'.push _) rfl (allBare_setGen (AllBare.push I4.bare rfl) rfl) (hgf h') ha hgd, ?_, fun b hb => (f4 b hb).1.1, w0⟩
      exact T.keep _ _ _ st4 fun b hb o e => kp b o e
  cases hcm : codeAmong gpos ps.toList with
  | none =>
    refine wpAny_genexprCodeX hcode (cd.code hPs ht) (cd.tab hPs) hcm fun c' h' tk hx hge hlt hco' _ htab' _ => ?_
    obtain ⟨_, _, _, _, _, _, _, _, _, _, _, _, _, _, _, _, _, _, _, htr, _⟩ := hco'
    exact main _ h' tk _ hx (Nat.le_trans hge (Nat.le_of_lt hlt)) htab'.2 htr
  | some cv =>
    refine wpAny_genexprCode_hit hcode (cd.code hPs ht) hcm ?_
    exact main cv s2.heap s2.toks #[] (Heap.ExtBut.refl _ _) (Nat.le_refl _) (by simpa using hPs) (by simpa using ht)
end
section
variable {X : Cx}
/-- all(..) of such a generator: while it hands out True it goes on -/
theorem g_all {A : Around} {Y : Cx} {σ0 : L2.St} {L : Nat} {W : Nat → Hp → Prop} {Out : Nat → V → Hp → Prop} {a : Addr} {j : Nat} {R : Result → Shared → Prop} {Qf : Hp → Prop} {P : Program} {w : World} (hh : A.handled = none) (hd : A.depth < recursionLimit)
    (hk : ∀ H s, Inv Y [] σ0 H s → s.heap.IsGen a j) (hout : ∀ i y H, Out i y H → ∃ b, y = .bl b ∧ if b = true then W (i + 1) H else Qf H)
    (hT : ∀ H s, Inv Y [] σ0 H s → W L H → R (.ok (.ret (.bool true))) s) (hF : ∀ H s, Inv Y [] σ0 H s → Qf H → R (.ok (.ret (.bool false))) s) :
    ∀ (n : Nat) (s : Shared), gRun (model P w) A.in1.in1 Y σ0 L W Out a j n s → codeAny (model P w) A (.builtin "all.loop" ⟨[.ref a], []⟩) R s := by
  intro n
  induction n with
  | zero =>
    rintro s ⟨ig, nl, gs, hgs, hgo⟩
    refine codeAny_builtin F.entry_all_loop ?_
    rw [Around.under_plainId F.plain_all_loop _]
    change wpAny _ A.in1 (pyNext (.ref a) >>= _) _ _ s
    refine wpAny_bind (wpAny_pyNext_genexpQ (P := fun _ _ s₁ => gEnd Y σ0 L W s₁) hh nl hd ig hgs hgo ?_ ?_)
    · rintro v s₁ gs' hb ⟨i, y, H, _, ry, I, o, kap⟩
      obtain ⟨b, rfl, hb'⟩ := hout i y H o
      obtain rfl : v = .bool b := ry
      cases b with
      | true => exact (kap s₁ ⟨rfl, rfl, I.bare⟩ hb').elim
      | false =>
        refine wpAny_bind (wpAny_holding (wpAny_truthy_bool (wpAny_bind (wpAny_letGo ?_))))
        exact wpAny_bind (wpAny_rule (wpAny_pure (hF H _ (inv_still I ⟨rfl, rfl, allBare_setGen I.bare hb⟩) hb')))
    · rintro s₁ ⟨H, I, w1⟩ h' hk'
      exact wpAny_bind (wpAny_rule (wpAny_pure (hT H _ ((inv_still (s' := s₁.setGen j .finished) I ⟨rfl, rfl, allBare_setGen I.bare rfl⟩).kept (t' := s₁.toks) hk') w1)))
  | succ n ih =>
    rintro s ⟨ig, nl, gs, hgs, hgo⟩
    have hgl : j < s.gens.size := (Array.getElem?_eq_some_iff.mp hgs).1
    refine codeAny_builtin F.entry_all_loop ?_
    rw [Around.under_plainId F.plain_all_loop _]
    change wpAny _ A.in1 (pyNext (.ref a) >>= _) _ _ s
    refine wpAny_bind (GenW.wpAny_gsz (n := j + 1) hgl (wpAny_pyNext_genexpQ (P := fun _ _ s₁ => gEnd Y σ0 L W s₁) hh nl hd ig hgs hgo ?_ ?_))
    · rintro v s₁ gs' hb ⟨i, y, H, _, ry, I, o, kap⟩ hsz
      obtain ⟨b, rfl, hb'⟩ := hout i y H o
      obtain rfl : v = .bool b := ry
      refine wpAny_bind (wpAny_holding (wpAny_truthy_bool (wpAny_bind (wpAny_letGo ?_))))
      cases b with
      | true =>
        have hj : j < s₁.gens.size := by
          have q1 : (s₁.setGen j gs').gens.size = s₁.gens.size := GenW.setGen_size _ _ _
          have q2 : j + 1 ≤ (s₁.setGen j gs').gens.size := hsz
          omega
        have I1 : Inv Y [] σ0 H (s₁.setGen j gs') := inv_still I ⟨rfl, rfl, allBare_setGen I.bare hb⟩
        exact wpAny_pure ⟨plainId_quiet F.plain_all_loop _, ih _ ⟨hk H _ I1, I1.nolimit, gs', setGen_at hj, kap _ ⟨rfl, rfl, allBare_setGen I1.bare rfl⟩ hb'⟩⟩
      | false => exact wpAny_bind (wpAny_rule (wpAny_pure (hF H _ (inv_still I ⟨rfl, rfl, allBare_setGen I.bare hb⟩) hb')))
    · rintro s₁ ⟨H, I, w1⟩ h' hk' _
      exact wpAny_bind (wpAny_rule (wpAny_pure (hT H _ ((inv_still (s' := s₁.setGen j .finished) I ⟨rfl, rfl, allBare_setGen I.bare rfl⟩).kept (t' := s₁.toks) hk') w1)))
def tGAll (P : Addr) (wi : TI) (g : TG) (te : TE) (vs : List Nat) : TE := fun σ H Q =>
  tGen P wi g te vs (fun L W Out => (∀ H, W L H → Q (.bl true) H) ∧ ∀ i y H, Out i y H → ∃ b, y = .bl b ∧ if b = true then W (i + 1) H else Q (.bl false) H) σ H
theorem pe_gAll {c P : Addr} {elt tg iter : Expr} {p pos gpos : Pos} {scope : Scope} {own : List (Str × Nat)} {wi : TI} {g : TG} {te : TE} {k : Nat}
    (hr : Room (k + 1) X.A) (hgl : Gl X "all") (hm : X.mg "all" = none) (hb : bootBuiltins "all" = some (.builtin "all")) (TB : GxR.TabB X.base X.mg c P) (hcode : X.env.code = .ref c) (S : GenB X.N X.env.scope scope own) (hN : X.N.Nodup) (hi : PI X tg iter wi)
    (hg : ∀ (A : Around) (s : Shared) (H : Hp) (C : Addr) (cl : List (Str × Addr)) (code : Value) (fp : List Addr) (pn : List (Addr × Obj)), PG (gCx X A s H (genEnv scope cl C code builtinsNs X.env) fp pn) tg g)
    (he : ∀ (A : Around) (s : Shared) (H : Hp) (C : Addr) (cl : List (Str × Addr)) (code : Value) (fp : List Addr) (pn : List (Addr × Obj)), Room k (A.deeper (genEnv scope cl C code builtinsNs X.env)) → PE (gCx X A s H (genEnv scope cl C code builtinsNs X.env) fp pn) elt te)
    (hs : ∀ v, genFold iter X.env v = pure v := by intro _; rfl)
    (hst : starEach [.GeneratorExp elt [⟨tg, iter, [], 0⟩] scope gpos] X.env = (false, eval (.GeneratorExp elt [⟨tg, iter, [], 0⟩] scope gpos) X.env) :: starEach [] X.env := by rfl) :
    PE X (.Call (.Name "all" p) [.GeneratorExp elt [⟨tg, iter, [], 0⟩] scope gpos] [] pos) (tGAll P wi g te (own.map (·.2))) := by
  refine ⟨fun pins s σ H Q I h => wpAny_Call_Name_kw (ld_blt I hgl hm hb (PyProof.Rows.callWith_builtin1 ?_ hst (by rfl)))⟩
  rw [hst]
  change wpAny _ _ (spliced ((false, eval (.GeneratorExp elt [⟨tg, iter, [], 0⟩] scope gpos) X.env) :: backTo pos (starEach [] X.env))) _ _ s
  refine Calls.spliced_cons (g_made hr TB hcode S hN I hi hg he hs h ?_)
  rintro Y L W Out a j s5 ⟨hend, hout⟩ leave run
  refine Calls.spliced_nil (call_function_tree F.kind_all F.plain_all F.entry_all (F.args_all1 _) ?_)
  unfold Builtin.«all»
  refine wpAny_bind (m := oneArg "all" _) (wpAny_pure (wpAny_bind (wpAny_pyIter_gen run.1 (wpAny_pure ⟨plainId_quiet F.plain_all_loop _, ?_⟩))))
  refine g_all hr.hd (by have := hr.dp; omega) (fun H' s' I' => (leave H' s' I').2) hout (fun H' s' I' w' => ?_) (fun H' s' I' q' => ?_) L s5 run
  · exact ⟨.bl true, H', (leave H' s' I').1, rfl, hend H' w'⟩
  · exact ⟨.bl false, H', (leave H' s' I').1, rfl, q'⟩
end
/-! ### texts of contents -/
/-- the text of a number -/
abbrev numS (n : Nat) : Str := Str.ofString (toString ((n : Nat) : Int))
theorem tl_numS (n : Nat) : TL.tl (numS n) = TL.numL n := TL.tl_num n
theorem numS_len (n : Nat) : (numS n).length = (TL.numL n).length := by rw [TL.len_tl, tl_numS]
theorem str_nil_app (x : Str) : Str.empty ++ x = x := TL.ext_tl (by rw [TL.tl_append]; rfl)
theorem str_len_app (x y : Str) : (x ++ y).length = x.length + y.length := by rw [TL.len_tl, TL.len_tl, TL.len_tl, TL.tl_append, List.length_append]
/-- «3 ham» -/
def partS (n : Nat) (x : Str) : Str := numS n ++ (" " : Str) ++ x
theorem tl_blank : TL.tl (" " : Str) = [32] := by decide +kernel
theorem tl_comma : TL.tl (", " : Str) = [44, 32] := by decide +kernel
theorem tl_part (n : Nat) (x : Str) : TL.tl (partS n x) = TL.numL n ++ 32 :: TL.tl x := by
  unfold partS
  rw [TL.tl_append, TL.tl_append, tl_numS, tl_blank, List.append_assoc]
  rfl
structure GoodN (xs : List Str) : Prop where
  few : xs.length ≤ 4
  nd : xs.Nodup
  small : ∀ x ∈ xs, ∀ c ∈ TL.tl x, 97 ≤ c ∧ c ≤ 122
  short : ∀ x ∈ xs, x.length ≤ 8
  some : ∀ x ∈ xs, 1 ≤ x.length
/-- the places of the things that are there -/
def idxs (cs : List Int) (m : Nat) : List Nat := (List.range m).filter fun i => decide (0 < cs.getD i 0)
theorem idxs_succ (cs : List Int) (m : Nat) : idxs cs (m + 1) = idxs cs m ++ if 0 < cs.getD m 0 then [m] else [] := by
  unfold idxs
  rw [List.range_succ, List.filter_append]
  by_cases h : 0 < cs.getD m 0
  · rw [if_pos h, List.filter_cons_of_pos (by rw [decide_eq_true h])]
    rfl
  · rw [if_neg h, List.filter_cons_of_neg (by rw [decide_eq_false h]; decide)]
    rfl
theorem idxs_mem {cs : List Int} {m i : Nat} : i ∈ idxs cs m ↔ i < m ∧ 0 < cs.getD i 0 := by
  unfold idxs
  rw [List.mem_filter, List.mem_range, decide_eq_true_eq]
theorem idxs_len (cs : List Int) (m : Nat) : (idxs cs m).length ≤ m := by
  have := List.length_filter_le (fun i => decide (0 < cs.getD i 0)) (List.range m)
  rw [List.length_range] at this
  exact this
theorem idxs_nodup (cs : List Int) (m : Nat) : (idxs cs m).Nodup := List.Nodup.sublist (List.filter_sublist) List.nodup_range
def partAt (xs : List Str) (cs : List Int) (i : Nat) : Str := partS (cs.getD i 0).toNat (xs.getD i Str.empty)
def partsM (xs : List Str) (cs : List Int) (m : Nat) : List Str := (idxs cs m).map (partAt xs cs)
theorem partsM_succ (xs : List Str) (cs : List Int) (m : Nat) : partsM xs cs (m + 1) = partsM xs cs m ++ if 0 < cs.getD m 0 then [partAt xs cs m] else [] := by
  unfold partsM
  rw [idxs_succ, List.map_append]
  by_cases h : 0 < cs.getD m 0
  · rw [if_pos h, if_pos h]
    rfl
  · rw [if_neg h, if_neg h]
    rfl
theorem partsM_len (xs : List Str) (cs : List Int) (m : Nat) : (partsM xs cs m).length ≤ m := by
  unfold partsM
  rw [List.length_map]
  exact idxs_len cs m
def showM (xs : List Str) (cs : List Int) : Str := if partsM xs cs xs.length = [] then ("nothing" : Str) else Str.join (", " : Str) (partsM xs cs xs.length)
/-- contents as wanted: as many as names, numbers to nine -/
structure FitC (xs : List Str) (cs : List Int) : Prop where
  len : cs.length = xs.length
  small : ∀ c ∈ cs, 0 ≤ c ∧ c ≤ 9
theorem FitC.at {xs : List Str} {cs : List Int} (h : FitC xs cs) {i : Nat} (hi : i < xs.length) : cs[i]? = some (cs.getD i 0) ∧ 0 ≤ cs.getD i 0 ∧ cs.getD i 0 ≤ 9 := by
  have hl : i < cs.length := by rw [h.len]; exact hi
  have e : cs.getD i 0 = cs[i] := by rw [List.getD_eq_getElem?_getD, List.getElem?_eq_getElem hl]; rfl
  have := h.small cs[i] (List.getElem_mem hl)
  exact ⟨by rw [e]; exact List.getElem?_eq_getElem hl, by omega, by omega⟩
theorem name_at {xs : List Str} {i : Nat} (hi : i < xs.length) : xs[i]? = some (xs.getD i Str.empty) ∧ xs.getD i Str.empty ∈ xs := by
  have e : xs.getD i Str.empty = xs[i] := by rw [List.getD_eq_getElem?_getD, List.getElem?_eq_getElem hi]; rfl
  rw [e]
  exact ⟨List.getElem?_eq_getElem hi, List.getElem_mem hi⟩
theorem partAt_len {xs : List Str} {cs : List Int} (g : GoodN xs) (h : FitC xs cs) {i : Nat} (hi : i < xs.length) : (partAt xs cs i).length ≤ 10 := by
  obtain ⟨_, h1, h2⟩ := h.at hi
  obtain ⟨_, m⟩ := name_at hi
  have s := g.short _ m
  have e : (TL.numL (cs.getD i 0).toNat).length ≤ 1 := TL.numL_len (by decide) (by omega)
  have b : (" " : Str).length = 1 := by decide +kernel
  unfold partAt partS
  rw [str_len_app, str_len_app, numS_len, b]
  omega
theorem partAt_comma {xs : List Str} {cs : List Int} (g : GoodN xs) {i : Nat} (hi : i < xs.length) : 44 ∉ TL.tl (partAt xs cs i) := fun z => by
  unfold partAt at z
  rw [tl_part] at z
  rcases List.mem_append.mp z with z | z
  · exact TL.numL_free (by decide) z
  · rcases List.mem_cons.mp z with z | z
    · omega
    · have := g.small _ (name_at hi).2 _ z
      omega
theorem parts_all {xs : List Str} {cs : List Int} {p : Str} (h : p ∈ partsM xs cs xs.length) : ∃ i, i < xs.length ∧ 0 < cs.getD i 0 ∧ p = partAt xs cs i := by
  obtain ⟨i, hi, rfl⟩ := List.mem_map.mp h
  have := idxs_mem.mp hi
  exact ⟨i, this.1, this.2, rfl⟩
theorem join_split {xs : List Str} {cs : List Int} (g : GoodN xs) (h : partsM xs cs xs.length ≠ []) : Txt.split (Str.join (", " : Str) (partsM xs cs xs.length)) (", " : Str) = partsM xs cs xs.length := by
  rw [← TL.join_eq]
  refine TL.split_join tl_comma (by decide +kernel) h fun p hp => ?_
  obtain ⟨i, hi, _, rfl⟩ := parts_all hp
  exact partAt_comma g hi
theorem joinL_head (S p : List Nat) (r : List (List Nat)) {c : Nat} (h : c ∈ p) : c ∈ TL.joinL S (p :: r) := by
  cases r with
  | nil => exact h
  | cons q r => exact List.mem_append.mpr (.inl h)
theorem joined_blank {xs : List Str} {cs : List Int} (h : partsM xs cs xs.length ≠ []) : 32 ∈ TL.tl (Str.join (", " : Str) (partsM xs cs xs.length)) := by
  cases e : partsM xs cs xs.length with
  | nil => exact absurd e h
  | cons p r =>
    obtain ⟨i, _, _, rfl⟩ := parts_all (xs := xs) (cs := cs) (p := p) (by rw [e]; exact List.mem_cons_self)
    rw [TL.tl_join, List.map_cons]
    refine joinL_head _ _ _ ?_
    unfold partAt
    rw [tl_part]
    exact List.mem_append.mpr (.inr List.mem_cons_self)
theorem joined_other {xs : List Str} {cs : List Int} (h : partsM xs cs xs.length ≠ []) : Str.join (", " : Str) (partsM xs cs xs.length) ≠ ("nothing" : Str) := fun z => by
  have := joined_blank h
  rw [z] at this
  revert this
  decide +kernel
theorem join_len (y : Str) : ∀ ps : List Str, (∀ p ∈ ps, p.length ≤ 10) → (Str.join y ps).length ≤ ps.length * (10 + y.length)
  | [], _ => Nat.zero_le _
  | [p], h => by
    have := h p List.mem_cons_self
    show p.length ≤ (0 + 1) * (10 + y.length)
    omega
  | p :: q :: r, h => by
    have h1 := h p List.mem_cons_self
    have h2 := join_len y (q :: r) fun z hz => h z (List.mem_cons_of_mem _ hz)
    show (p ++ y ++ Str.join y (q :: r)).length ≤ ((q :: r).length + 1) * (10 + y.length)
    rw [str_len_app, str_len_app, Nat.add_mul]
    omega
theorem joined_len {xs : List Str} {cs : List Int} (g : GoodN xs) (h : FitC xs cs) : (Str.join (", " : Str) (partsM xs cs xs.length)).length ≤ 48 := by
  have h1 := join_len (", " : Str) (partsM xs cs xs.length) fun p hp => by
    obtain ⟨i, hi, _, rfl⟩ := parts_all hp
    exact partAt_len g h hi
  have h2 := partsM_len xs cs xs.length
  have h3 := g.few
  have b : (", " : Str).length = 2 := by decide +kernel
  rw [b] at h1
  omega
theorem parts_sum {ps : List Str} (h : ∀ p ∈ ps, p.length ≤ 10) : (ps.map (·.length)).sum ≤ ps.length * 10 := by
  induction ps with
  | nil => exact Nat.le_refl _
  | cons p r ih =>
    have h1 := h p List.mem_cons_self
    have h2 := ih fun z hz => h z (List.mem_cons_of_mem _ hz)
    rw [List.map_cons, List.sum_cons, List.length_cons]
    omega
/-- the first figure of a number above nought is no nought -/
theorem numL_head : ∀ n : Nat, 0 < n → ∃ c r, TL.numL n = c :: r ∧ c ≠ 48 := by
  intro n
  induction n using Nat.strongRecOn with
  | _ n ih =>
    intro h
    by_cases hn : n < 10
    · exact ⟨48 + n, [], TL.numL_lt hn, by omega⟩
    · obtain ⟨c, r, e, hc⟩ := ih (n / 10) (by omega) (by omega)
      refine ⟨c, r ++ [48 + n % 10], ?_, hc⟩
      rw [TL.numL_step (by omega), e]
      rfl
theorem numL_figs (n : Nat) : (TL.numL n).all (fun c => decide (c ∈ ("0123456789" : Str).cps.toList)) = true := by
  rw [List.all_eq_true]
  intro c hc
  have hd : 48 ≤ c ∧ c ≤ 57 := by
    have h1 : ¬ (c < 48 ∨ 57 < c) := fun z => TL.numL_free z hc
    omega
  obtain ⟨k, hk, rfl⟩ : ∃ k, k < 10 ∧ c = 48 + k := ⟨c - 48, by omega, by omega⟩
  have : ∀ k, k < 10 → decide ((48 + k) ∈ ("0123456789" : Str).cps.toList) = true := by decide +kernel
  exact this k hk
theorem numL_pos (n : Nat) : 1 ≤ (TL.numL n).length := by
  cases e : TL.numL n with
  | nil => exact absurd e (TL.numL_ne n)
  | cons c r => rw [List.length_cons]; omega
theorem numL_zero : TL.numL 0 = [48] := TL.numL_lt (by decide)
theorem part_cut (n : Nat) (x : Str) : Txt.partition (partS n x) (" " : Str) = (numS n, (" " : Str), x) :=
  TL.partition_app tl_blank (by rw [tl_numS]; exact TL.numL_free (by decide))
/-- an f-string's reading under a name of its own -/
def tJoined (ts : List TE) : TE := fun σ H Q => tJs ts Str.empty σ H fun out H1 => Q (.str out) H1
theorem pe_joinedD {X : Cx} {v1 v2 : Expr} {rest : List Expr} {ts : List TE} {pos : Pos} (h : PJ X (v1 :: v2 :: rest) ts) : PE X (.JoinedStr (v1 :: v2 :: rest) pos) (tJoined ts) := pe_joined h
/-! ### show_content -/
abbrev s_show_content : Stmt := topS 54
abbrev N_show_content : List Str := ["names", "content", "parts", "number", "name"]
theorem sc_show_content : FnScope N_show_content ["names", "content"] (defScope s_show_content) := ⟨rfl, rfl, rfl, by decide +kernel, rfl, by decide +kernel, by decide +kernel⟩

/-- a list of texts -/
abbrev LS (xs : List Str) : HO := .lst (xs.map V.str)
theorem ls_app (ls : List Str) (x : Str) : HO.lst (ls.map V.str ++ [.str x]) = LS (ls ++ [x]) := by
  show _ = HO.lst ((ls ++ [x]).map V.str)
  rw [List.map_append]
  rfl
theorem get_strs {xs : List Str} {i : Nat} {x : Str} (h : xs[i]? = some x) : (xs.map V.str)[i]? = some (.str x) := by
  rw [List.getElem?_map, h]
  rfl
theorem of_get_strs {xs : List Str} {i : Nat} {v : V} (h : (xs.map V.str)[i]? = some v) : ∃ x, xs[i]? = some x ∧ v = .str x := by
  rw [List.getElem?_map] at h
  cases e : xs[i]? with
  | none => rw [e] at h; cases h
  | some n => rw [e] at h; exact ⟨n, rfl, (Option.some.inj h).symm⟩
theorem fpart {c : Int} (h : 0 ≤ c) (x : Str) : ((Str.empty ++ Str.ofString (toString c)) ++ (" " : Str)) ++ x = partS c.toNat x := by
  obtain ⟨n, rfl⟩ := Int.eq_ofNat_of_zero_le h
  rw [str_nil_app]
  rfl
theorem small_log {c : Int} (h : 0 ≤ c) (h9 : c ≤ 9) : c.natAbs.log2 < 1920 := by
  have h1 : c.natAbs < 2 ^ 4 := by
    have : (2 : Nat) ^ 4 = 16 := rfl
    omega
  have := Nat.log2_lt (n := c.natAbs) (k := 4)
  by_cases hz : c.natAbs = 0
  · rw [hz]
    decide
  · have := (this hz).mpr h1
    omega
theorem num1_len {c : Int} (h : 0 ≤ c) (h9 : c ≤ 9) : (Str.ofString (toString c)).length ≤ 1 := by
  obtain ⟨n, rfl⟩ := Int.eq_ofNat_of_zero_le h
  have := TL.numL_len (n := n) (k := 1) (by decide) (by omega)
  have e : (Str.ofString (toString ((n : Nat) : Int))).length = (TL.numL n).length := numS_len n
  exact e ▸ this
theorem blank_len : (" " : Str).length = 1 := by decide +kernel
def sp_show_content (K : PySem.W.Frag) : Sp := fun vs H Q _ => ∃ (a b : Addr) (xs : List Str) (cs : List Int), vs = [.ref a, .ref b] ∧ H a = some (LS xs) ∧ H b = some (LI cs) ∧ GoodN xs ∧ FitC xs cs ∧ ∀ H', Same H H' → Q (.str (showM xs cs)) H'
section
variable {P : Program} {w : World} {K : PySem.W.Frag} {mg : Str → Option Value} {base : Heap} {T : List Addr}
theorem ok_show_content {f : Addr} {fd : FuncData} {k : Nat} (M : Names mg) (D : Def K mg "show_content" s_show_content ["names", "content"] f fd) : FnOk P w K mg base CX0 (k + 1) f fd ["names", "content"] (sp_show_content K) := by
  refine D.F.ok sc_show_content (fun vs H Q E h => ?_) (fun cdv A outer s H vs Q E hr h => ?_)
  · obtain ⟨a, b, xs, cs, rfl, _⟩ := h
    rfl
  · obtain ⟨a, b, xs, cs, rfl, ha, hb, g, fc, q⟩ := h
    have few := g.few
    refine ⟨_, (pss_cons (ps_setLc (i := 2) (own := [("number", 3), ("name", 4)]) (by rfl) sc_show_content.nd rfl rfl (sw_true rfl rfl rfl (by decide +kernel)) (pi_zip (by rfl) M.zip (pa_cons (pv 1) (pa_cons (pv 0) pa_nil))) (blkOk_by (own := [("number", 3), ("name", 4)]) (N := N_show_content) (sc := defScope s_show_content) (by decide +kernel)) (fun _ _ _ _ _ => (pg_tupK (K := K) (n := 2) rfl rfl (pgs_cons (pg_name (i := 3) sc_show_content.nd rfl (Or.inl rfl)) (pgs_cons (pg_name (i := 4) sc_show_content.nd rfl (Or.inl rfl)) pgs_nil)))) (fun _ _ _ _ _ => (pts_one (pt_cmpR op_gt (pv 3) pe_int (nomark _)))) (fun _ _ _ _ _ => (pe_joinedD (.cons (pe_fmt (pv 3)) (.cons pe_str (.cons (pe_fmt (pv 4)) .nil))))))
  (pss_one (ps_ret (pe_orT (pe_join pe_str (pv 2)) (pe_one pe_str))))), ?_⟩
    refine ⟨_, rfl, _, rfl, b, a, _, _, rfl, SqL.of hb, SqL.of ha, fun B nB => lc_it (walk_zip (K := K) (xs := cs.map V.int) (ys := xs.map V.str) rfl) (fun i H' => Same H H' ∧ H' B = some (LS (partsM xs cs i))) ⟨same_upd nB, upd_same⟩ (fun i H' _ hp => ⟨SqL.of (hp.1 _ _ hb), SqL.of (hp.1 _ _ ha)⟩) (fun i x H1 H2 hi hp hy => ?_) (fun H1 hp => ?_)⟩
    · obtain ⟨s1, hB⟩ := hp
      obtain ⟨Tt, x1, x2, rfl, nT, rfl, e1, e2⟩ := hy
      rw [List.length_map, List.length_map] at hi
      have hix : i < xs.length := by omega
      obtain ⟨n, hn, rfl⟩ := of_get_ints e1
      obtain ⟨m, hm, rfl⟩ := of_get_strs e2
      obtain ⟨f1, f2, f3⟩ := fc.at hix
      obtain ⟨g1, g2⟩ := name_at hix
      cases Option.some.inj (f1.symm.trans hn)
      cases Option.some.inj (g1.symm.trans hm)
      have hB2 := (same_upd (o := .tup [.int (cs.getD i 0), .str (xs.getD i Str.empty)]) nT) _ _ hB
      have s2 := s1.trans (same_upd (o := .tup [.int (cs.getD i 0), .str (xs.getD i Str.empty)]) nT)
      have sh := g.short _ g2
      have l1 := num1_len f2 f3
      refine ⟨Tt, _, rfl, SqT.of upd_same, rfl, _, _, rfl, _, _, rfl, rfl, rfl, _, rfl, _, _, rfl, rfl, _, rfl, ite2 (fun c => ?_) (fun c => ?_)⟩
      · have c2 : cs.getD i 0 > 0 := of_decide_eq_true c
        refine ⟨_, rfl, .inr ⟨_, rfl, small_log f2 f3, _, rfl, szL (by rw [str_nil_app]; omega), _, rfl, szL (by rw [str_nil_app, str_len_app, blank_len]; omega), _, rfl, .inl ⟨_, rfl, szL (by omega), _, rfl, szL (by rw [str_nil_app, str_len_app, str_len_app, blank_len]; omega), ?_⟩⟩⟩
        refine ⟨_, hB2, szL' (by rw [List.length_map]; have := partsM_len xs cs i; omega), sm_new s2 nB, ?_⟩
        rw [upd_same, ls_app, partsM_succ, if_pos c2, fpart f2]
        rfl
      · have c2 : ¬ cs.getD i 0 > 0 := fun z => c (decide_eq_true z)
        refine ⟨s2, ?_⟩
        rw [partsM_succ, if_neg c2, List.append_nil]
        exact hB2
    · obtain ⟨s1, hB⟩ := hp
      rw [List.length_map, List.length_map, fc.len, Nat.min_self] at hB
      have hl := partsM_len xs cs xs.length
      have pl : ∀ p ∈ partsM xs cs xs.length, p.length ≤ 10 := fun p hp => by
        obtain ⟨i, hi, _, rfl⟩ := parts_all hp
        exact partAt_len g fc hi
      have ps := parts_sum pl
      have jl := joined_len g fc
      have cl : (", " : Str).length = 2 := by decide +kernel
      unfold showM at q
      by_cases z : partsM xs cs xs.length = []
      · rw [if_pos z] at q
        rw [z] at hB
        exact ⟨⟨_, rfl⟩, _, rfl, _, B, [], rfl, rfl, .inl (SqL.of hB), by decide, false, ⟨by decide +kernel, by decide +kernel⟩, q H1 s1⟩
      · rw [if_neg z] at q
        have := joined_blank z
        have l0 : (Str.join (", " : Str) (partsM xs cs xs.length)).length ≠ 0 := fun e => by
          rw [TL.len0_tl] at e
          rw [e] at this
          cases this
        refine ⟨⟨_, rfl⟩, _, rfl, _, B, _, rfl, rfl, .inl (SqL.of hB), by rw [cl]; omega, true, ⟨szL (by rw [TL.join_eq]; omega), ?_⟩, ?_⟩
        · rw [TL.join_eq]
          symm
          simp only [bne_iff_ne, ne_eq]
          omega
        · rw [TL.join_eq]
          exact q H1 s1
end
/-! ### made_of, read_number, within_bounds -/
abbrev s_made_of : Stmt := topS 57
abbrev N_made_of : List Str := ["signs", "text", "most", "sign"]
theorem sc_made_of : FnScope N_made_of ["signs", "text", "most"] (defScope s_made_of) := ⟨rfl, rfl, rfl, by decide +kernel, rfl, by decide +kernel, by decide +kernel⟩

abbrev s_read_number : Stmt := topS 58
abbrev N_read_number : List Str := ["text", "figures"]
theorem sc_read_number : FnScope N_read_number ["text", "figures"] (defScope s_read_number) := ⟨rfl, rfl, rfl, by decide +kernel, rfl, by decide +kernel, by decide +kernel⟩

abbrev s_within_bounds : Stmt := topS 60
abbrev N_within_bounds : List Str := ["content", "many", "number"]
theorem sc_within_bounds : FnScope N_within_bounds ["content"] (defScope s_within_bounds) := ⟨rfl, rfl, rfl, by decide +kernel, rfl, by decide +kernel, by decide +kernel⟩

def madeM (z a : Str) (most : Int) : Bool := if 1 ≤ a.length ∧ (a.length : Int) ≤ most then a.cps.toList.all (fun c => decide (c ∈ z.cps.toList)) else false
def sp_made_of (T : List Addr) : Sp := fun vs H Q _ => ∃ (z a : Str) (most : Int), vs = [.str z, .str a, .int most] ∧ a.length ≤ sizeLine ∧ Tb T H ∧ ∀ H', Ext T H H' → Q (.bl (madeM z a most)) H'
def sp_read_number (T : List Addr) : Sp := fun vs H Q _ => ∃ (n k : Nat), vs = [.str (numS n), .int k] ∧ n < 10 ^ k ∧ 0 < k ∧ k ≤ 12 ∧ Tb T H ∧ ∀ H', Ext T H H' → Q (.int (n : Int)) H'
def boundM (cs : List Int) : Int := cs.foldl (fun p c => p * (c + 1)) 1
def sp_within_bounds : Sp := fun vs H Q _ => ∃ (a : Addr) (cs : List Int), vs = [.ref a] ∧ H a = some (LI cs) ∧ (∀ c ∈ cs, 0 ≤ c ∧ c ≤ 9) ∧ cs.length ≤ 4 ∧ Q (.bl (decide (boundM cs ≤ 400))) H
section
variable {P : Program} {w : World} {K : PySem.W.Frag} {mg : Str → Option Value} {base : Heap} {T : List Addr}
theorem ok_made_of {f c t : Addr} {fd : FuncData} {k : Nat} (M : Names mg) (D : Def K mg "made_of" s_made_of ["signs", "text", "most"] f fd) (hc : fd.code = .ref c) (TB : GxR.TabB base mg c t) (ht : t ∈ T) : FnOk P w K mg base CX0 (k + 1) f fd ["signs", "text", "most"] (sp_made_of T) := by
  refine okc D.F hc sc_made_of (fun vs H Q E h => ?_) (fun cdv A outer s H vs Q E ec hr h => ?_)
  · obtain ⟨z, a, most, rfl, _⟩ := h
    rfl
  · obtain ⟨z, a, most, rfl, hl, hT, q⟩ := h
    refine ⟨_, (pss_one (ps_ret (pe_and (pe_chain op_le op_le pe_int (pe_callB call_len_str (by rfl) M.len (by decide +kernel) (pa_cons (pv 1) pa_nil)) (pv 2)) (pe_one (pe_allIn (i := 0) hr (by rfl) M.all (by decide +kernel) TB ec ⟨rfl, rfl, by decide +kernel, rfl, rfl, (by show ∀ y : Str × NameKind, y ∈ _ → y.2 = .free → (defScope s_made_of).names.lookup y.1 = some .cell; decide +kernel)⟩ (pv 1) rfl rfl rfl (fun cc h => by show some (((envOfC "made_of" (defScope s_made_of) s.heap.objs.size f cdv).cells.lookup ("signs" : Str)).getD 0) = some cc; rw [show (envOfC "made_of" (defScope s_made_of) s.heap.objs.size f cdv).cells.lookup ("signs" : Str) = some cc from h]; rfl) (by decide) (by decide) (by decide)))))), ?_⟩
    unfold madeM at q
    by_cases h1 : 1 ≤ a.length
    · by_cases h2 : (a.length : Int) ≤ most
      · rw [if_pos ⟨h1, h2⟩] at q
        refine ⟨_, rfl, _, rfl, hl, _, _, rfl, rfl, true, (by show V.bl _ = V.bl _; rw [decide_eq_true (by omega)]), _, rfl, _, _, rfl, rfl, true, (by show V.bl _ = V.bl _; rw [decide_eq_true h2]), ?_⟩
        exact ⟨_, rfl, a, z, rfl, rfl, hT t ht, fun H2 t2 => q H2 (.tabbed hT t2 ht)⟩
      · rw [if_neg (fun z => h2 z.2)] at q
        exact ⟨_, rfl, _, rfl, hl, _, _, rfl, rfl, true, (by show V.bl _ = V.bl _; rw [decide_eq_true (by omega)]), _, rfl, _, _, rfl, rfl, false, (by show V.bl _ = V.bl _; rw [decide_eq_false h2]), q H (.refl hT)⟩
    · rw [if_neg (fun z => h1 z.1)] at q
      exact ⟨_, rfl, _, rfl, hl, _, _, rfl, rfl, false, (by show V.bl _ = V.bl _; rw [decide_eq_false (by omega)]), false, rfl, q H (.refl hT)⟩
theorem made_num {n k : Nat} (hk : 0 < k) (h : n < 10 ^ k) : madeM ("0123456789" : Str) (numS n) k = true := by
  unfold madeM
  have l1 := numL_pos n
  have l2 := TL.numL_len hk h
  rw [if_pos (by rw [numS_len]; exact ⟨l1, by omega⟩)]
  have := numL_figs n
  rw [← tl_numS] at this
  exact this
theorem ok_read_number {f f1 c t : Addr} {fd fd1 : FuncData} {k : Nat} (M : Names mg) (D : Def K mg "read_number" s_read_number ["text", "figures"] f fd) (D_made_of : Def K mg "made_of" s_made_of ["signs", "text", "most"] f1 fd1) (hc : fd1.code = .ref c) (TB : GxR.TabB base mg c t) (ht : t ∈ T) : FnOk P w K mg base CX0 (k + 2) f fd ["text", "figures"] (sp_read_number T) := by
  have G_made_of : FnOk P w K mg base CX0 (k + 1) f1 fd1 ["signs", "text", "most"] (sp_made_of T) := ok_made_of M D_made_of hc TB ht
  obtain ⟨tF, m_FIGURES⟩ := M.c_FIGURES
  refine D.F.ok sc_read_number (fun vs H Q E h => ?_) (fun cdv A outer s H vs Q E hr h => ?_)
  · obtain ⟨n, k, rfl, _⟩ := h
    rfl
  · obtain ⟨n, k, rfl, hn, hk, hk2, hT, q⟩ := h
    have l1 := numL_pos n
    have l2 := TL.numL_len hk hn
    have ln := numS_len n
    refine ⟨_, (pss_cons (ps_if (PW.pt (pw_or (pt_not (pt_val (pe_call G_made_of hr (by rfl) D_made_of.g D_made_of.F.kp D_made_of.b .nil pass0 (pa_cons (pe_glob (v := .str "0123456789") (by rfl) m_FIGURES ⟨_, rfl⟩) (pa_cons (pv 0) (pa_cons (pv 1) pa_nil)))))) (pw_or1 (PW.pt (pw_and (pt_cmpR op_eq (pe_ix ix_str (pv 0) pe_int (fun _ _ => rfl)) pe_str (nomark _)) (pw_and1 (pt_cmpR op_ne (pv 0) pe_str (nomark _))))))))
   (pss_one ps_never)
   pss_nil)
  (pss_one (ps_ret (pe_callTy call_int_str (by rfl) M.int (by decide +kernel) (pa_cons (pv 0) pa_nil))))), ?_⟩
    refine ⟨_, rfl, _, rfl, _, _, _, rfl, szL (by omega), hT, fun H1 e1 => ?_⟩
    rw [made_num hk hn]
    have fin : intText? (numS n) = some (n : Int) := TL.int_num (by omega)
    have last : ∀ {Q' : V → Hp → Prop}, Q' (.int (n : Int)) H1 → ∃ a m, [V.str (numS n)] = [.str a] ∧ PySem.intText? a = some m ∧ a.length ≤ 640 ∧ Q' (.int m) H1 := fun h => ⟨_, _, rfl, fin, by omega, h⟩
    by_cases z : n = 0
    · subst z
      refine ⟨true, rfl, _, rfl, _, _, 48, rfl, rfl, szL (by omega), by decide +kernel, rfl, true, by decide +kernel, _, rfl, rfl, false, by decide +kernel, _, rfl, last (q H1 e1)⟩
    · obtain ⟨c0, r, e0, n0⟩ := numL_head n (by omega)
      have ht0 : (numS n).cps.toList = c0 :: r := (tl_numS n).trans e0
      refine ⟨true, rfl, _, rfl, _, _, c0, rfl, rfl, szL (by omega), by rw [ht0]; exact atI_nat (j := 0) rfl, rfl, false, ?_, _, rfl, last (q H1 e1)⟩
      refine congrArg V.bl (decide_eq_false fun z2 => n0 ?_)
      have z3 := V.str.inj z2
      have z4 : TL.tl (⟨#[c0]⟩ : Str) = TL.tl ("0" : Str) := congrArg TL.tl z3
      rw [show TL.tl ("0" : Str) = [48] by decide +kernel] at z4
      exact (List.cons.inj z4).1
theorem ok_within_bounds {f : Addr} {fd : FuncData} {k : Nat} (M : Names mg) (D : Def K mg "within_bounds" s_within_bounds ["content"] f fd) : FnOk P w K mg base CX0 (k + 1) f fd ["content"] sp_within_bounds := by
  obtain ⟨tF, m_MOST_LESSER⟩ := M.c_MOST_LESSER
  refine D.F.ok sc_within_bounds (fun vs H Q E h => ?_) (fun cdv A outer s H vs Q E hr h => ?_)
  · obtain ⟨a, cs, rfl, _⟩ := h
    rfl
  · obtain ⟨a, cs, rfl, ha, sm, hl, q⟩ := h
    refine ⟨_, (pss_cons (ps_set (i := 1) sc_within_bounds.nd rfl (Or.inl rfl) pe_int)
  (pss_cons (ps_for PassesOwn.never rfl (pi_list (pv 0)) (pg_name (i := 2) sc_within_bounds.nd rfl (Or.inl rfl))
   (pss_one (ps_aug (i := 1) sc_within_bounds.nd rfl (Or.inl rfl) (pe_op op_add (pv 2) pe_int) iop_mul)))
  (pss_one (ps_ret (pe_cmpR op_le (pv 1) (pe_glob (v := .int 400) (by rfl) m_MOST_LESSER ⟨_, rfl⟩) (nomark _)))))), ?_⟩
    refine ⟨_, rfl, a, rfl, ⟨_, SqL.of ha⟩, for_list (xs := cs.map V.int) (fun i σ H' => ∃ y2, σ = [some (.ref a), some (.int (boundM (cs.take i))), y2] ∧ H' = H) ⟨none, rfl, rfl⟩ (fun i σ H' _ hp => ?_) (fun i x σ H' hx hp => ?_) (fun σ H' hp => ?_)⟩
    · obtain ⟨_, _, rfl⟩ := hp
      exact SqL.of ha
    · obtain ⟨y2, rfl, rfl⟩ := hp
      obtain ⟨n, hn, rfl⟩ := of_get_ints hx
      have := sm n (List.mem_of_getElem? hn)
      refine ⟨_, rfl, _, rfl, _, _, rfl, rfl, _, _, rfl, rfl, (.inr ⟨by omega, by omega⟩), some (.int n), ?_, rfl⟩
      rw [take_succ_at hn]
      unfold boundM
      rw [List.foldl_append]
      rfl
    · obtain ⟨y2, rfl, rfl⟩ := hp
      rw [List.length_map, List.take_length]
      exact ⟨_, rfl, _, _, rfl, rfl, q⟩
end
/-! ### read_thing, read_content -/
abbrev s_read_thing : Stmt := topS 61
abbrev N_read_thing : List Str := ["names", "text", "figures", "blank", "name"]
theorem sc_read_thing : FnScope N_read_thing ["names", "text"] (defScope s_read_thing) := ⟨rfl, rfl, rfl, by decide +kernel, rfl, by decide +kernel, by decide +kernel⟩

abbrev s_read_content : Stmt := topS 62
abbrev N_read_content : List Str := ["names", "text", "content", "part", "number", "thing"]
theorem sc_read_content : FnScope N_read_content ["names", "text"] (defScope s_read_content) := ⟨rfl, rfl, rfl, by decide +kernel, rfl, by decide +kernel, by decide +kernel⟩

theorem inV_strs (x : Str) : ∀ xs : List Str, inV (.str x) (xs.map V.str) = decide (x ∈ xs)
  | [] => rfl
  | y :: r => by
    have ih := inV_strs x r
    unfold inV at ih ⊢
    rw [List.map_cons, List.any_cons, ih]
    show ((y == x) || decide (x ∈ r)) = decide (x ∈ y :: r)
    by_cases h : y = x
    · subst h
      simp
    · have h2 : ¬ x = y := fun z => h z.symm
      simp [h, h2]
theorem flat_strs (xs : List Str) : (xs.map V.str).all flatV = true := by
  rw [List.all_eq_true]
  intro v hv
  obtain ⟨x, _, rfl⟩ := List.mem_map.mp hv
  rfl
theorem nodup_at {xs : List Str} (nd : xs.Nodup) {i : Nat} {x : Str} (h : xs[i]? = some x) : ∀ (m : Nat) (z : V), m < i → (xs.map V.str)[m]? = some z → eqV z (.str x) = false := fun m z hm hz => by
  obtain ⟨y, hy, rfl⟩ := of_get_strs hz
  show (y == x) = false
  refine beq_eq_false_iff_ne.mpr fun e => ?_
  subst e
  have h1 := (List.getElem?_eq_some_iff.mp h)
  have h2 := (List.getElem?_eq_some_iff.mp hy)
  obtain ⟨l1, e1⟩ := h1
  obtain ⟨l2, e2⟩ := h2
  exact List.pairwise_iff_getElem.mp nd m i l2 l1 hm (e2.trans e1.symm)
theorem zeros_map (n : Nat) : (List.replicate n [V.int 0]).flatten = (List.replicate n (0 : Int)).map V.int := by
  induction n with
  | zero => rfl
  | succ n ih =>
    rw [List.replicate_succ, List.flatten_cons, ih, List.replicate_succ, List.map_cons]
    rfl
theorem parts_nil {xs : List Str} {cs : List Int} (fc : FitC xs cs) (h : partsM xs cs xs.length = []) : cs = List.replicate xs.length 0 := by
  unfold partsM at h
  have h0 := List.map_eq_nil_iff.mp h
  refine List.ext_getElem (by rw [fc.len, List.length_replicate]) fun i h1 h2 => ?_
  rw [List.getElem_replicate]
  have hi : i < xs.length := by rw [← fc.len]; exact h1
  obtain ⟨f1, f2, f3⟩ := fc.at hi
  have e := (List.getElem?_eq_some_iff.mp f1).2
  rw [e]
  by_cases z : 0 < cs.getD i 0
  · have := idxs_mem.mpr ⟨hi, z⟩
    rw [h0] at this
    cases this
  · omega
def sp_read_thing (T : List Addr) : Sp := fun vs H Q _ => ∃ (a : Addr) (xs : List Str) (i n : Nat) (x : Str), vs = [.ref a, .str (partS n x)] ∧ H a = some (LS xs) ∧ GoodN xs ∧ xs[i]? = some x ∧ n < 10 ∧ Tb T H ∧
  ∀ H' t, Ext T H H' → H t = none → H' t = some (.tup [.int (i : Nat), .int (n : Nat)]) → Q (.ref t) H'
def sp_read_content (T : List Addr) : Sp := fun vs H Q _ => ∃ (a : Addr) (xs : List Str) (cs : List Int), vs = [.ref a, .str (showM xs cs)] ∧ H a = some (LS xs) ∧ GoodN xs ∧ FitC xs cs ∧ boundM cs ≤ 400 ∧ Tb T H ∧
  ∀ H' p, Ext T H H' → H p = none → H' p = some (LI cs) → Q (.ref p) H'
section
variable {P : Program} {w : World} {K : PySem.W.Frag} {mg : Str → Option Value} {base : Heap} {T : List Addr}
theorem ok_read_thing {f f1 f2 c t : Addr} {fd fd1 fd2 : FuncData} {k : Nat} (M : Names mg) (D : Def K mg "read_thing" s_read_thing ["names", "text"] f fd) (D_read_number : Def K mg "read_number" s_read_number ["text", "figures"] f1 fd1) (D_made_of : Def K mg "made_of" s_made_of ["signs", "text", "most"] f2 fd2) (hc : fd2.code = .ref c) (TB : GxR.TabB base mg c t) (ht : t ∈ T) : FnOk P w K mg base CX0 (k + 3) f fd ["names", "text"] (sp_read_thing T) := by
  have G_read_number : FnOk P w K mg base CX0 (k + 2) f1 fd1 ["text", "figures"] (sp_read_number T) := ok_read_number M D_read_number D_made_of hc TB ht
  obtain ⟨tF, m_THING_FIGURES⟩ := M.c_THING_FIGURES
  refine D.F.ok sc_read_thing (fun vs H Q E h => ?_) (fun cdv A outer s H vs Q E hr h => ?_)
  · obtain ⟨a, xs, i, n, x, rfl, _⟩ := h
    rfl
  · obtain ⟨a, xs, i, n, x, rfl, ha, g, hx, hn, hT, q⟩ := h
    have mx := List.mem_of_getElem? hx
    have sh := g.short _ mx
    have l2 := TL.numL_len (n := n) (k := 1) (by decide) (by omega)
    have lp : (partS n x).length ≤ 10 := by
      unfold partS
      rw [str_len_app, str_len_app, numS_len, blank_len]
      omega
    refine ⟨_, (pss_cons (ps_asg (pe_partition (pv 1) pe_str) (pg_tup rfl (pgs_cons (pg_name (i := 2) sc_read_thing.nd rfl (Or.inl rfl)) (pgs_cons (pg_name (i := 3) sc_read_thing.nd rfl (Or.inl rfl)) (pgs_cons (pg_name (i := 4) sc_read_thing.nd rfl (Or.inl rfl)) pgs_nil)))))
  (pss_cons (ps_if (pt_cmpR op_notIn_seq (pv 4) (pv 0) (by rfl))
   (pss_one ps_never)
   pss_nil)
  (pss_one (ps_ret (pe_tup (pa_cons (pe_bm PySem.F.plainAttrs_list PySem.F.slot_list_index PySem.F.type_list_index mt_index (pv 0) (pa_cons (pv 4) pa_nil)) (pa_cons (pe_call G_read_number hr (by rfl) D_read_number.g D_read_number.F.kp D_read_number.b .nil pass0 (pa_cons (pv 2) (pa_cons (pe_glob (v := .int 1) (by rfl) m_THING_FIGURES ⟨_, rfl⟩) pa_nil))) pa_nil))))))), ?_⟩
    refine ⟨_, rfl, ⟨_, rfl⟩, _, _, rfl, rfl, by decide +kernel, szL (by omega), fun p np => ?_⟩
    rw [part_cut]
    have s1 := same_upd (o := .tup [.str (numS n), .str (" " : Str), .str x]) np
    have a1 := s1 _ _ ha
    refine ⟨p, _, rfl, SqT.of upd_same, rfl, _, _, rfl, _, _, rfl, _, _, rfl, rfl, ?_⟩
    have E1 : Ext T H _ := .same s1 hT
    generalize upd H p (.tup [.str (numS n), .str (" " : Str), .str x]) = H1 at s1 a1 E1 ⊢
    refine ⟨_, rfl, _, rfl, a, _, rfl, .inl (SqL.of a1), rfl, flat_strs xs, false, ?_, ?_⟩
    · show V.bl (!inV (.str x) (xs.map V.str)) = V.bl false
      rw [inV_strs, decide_eq_true mx]
      rfl
    refine ⟨_, rfl, .inl ⟨rfl, _, SqL.of a1⟩, _, rfl, a, _, _, i, _, rfl, rfl, SqL.of a1, rfl, flat_strs xs, get_strs hx, beq_self_eq_true x, nodup_at g.nd hx, ?_⟩
    refine ⟨_, rfl, n, 1, rfl, by omega, by decide, by decide, E1.t1, fun H2 e2 => ⟨by show 2 ≤ sizeLine; decide, fun t nt => ?_⟩⟩
    have E2 := E1.trans e2
    exact q _ t (E2.new (E2.free _ nt)) (E2.free _ nt) upd_same
theorem ok_read_content {f f1 f2 f3 f4 f5 c t : Addr} {fd fd1 fd2 fd3 fd4 fd5 : FuncData} {k : Nat} (M : Names mg) (D : Def K mg "read_content" s_read_content ["names", "text"] f fd) (D_read_thing : Def K mg "read_thing" s_read_thing ["names", "text"] f3 fd3) (D_show_content : Def K mg "show_content" s_show_content ["names", "content"] f4 fd4) (D_within_bounds : Def K mg "within_bounds" s_within_bounds ["content"] f5 fd5) (D_read_number : Def K mg "read_number" s_read_number ["text", "figures"] f1 fd1) (D_made_of : Def K mg "made_of" s_made_of ["signs", "text", "most"] f2 fd2) (hc : fd2.code = .ref c) (TB : GxR.TabB base mg c t) (ht : t ∈ T) : FnOk P w K mg base CX0 (k + 4) f fd ["names", "text"] (sp_read_content T) := by
  have G_read_thing : FnOk P w K mg base CX0 (k + 3) f3 fd3 ["names", "text"] (sp_read_thing T) := ok_read_thing M D_read_thing D_read_number D_made_of hc TB ht
  have G_show_content : FnOk P w K mg base CX0 (k + 3) f4 fd4 ["names", "content"] (sp_show_content K) := ok_show_content M D_show_content
  have G_within_bounds : FnOk P w K mg base CX0 (k + 3) f5 fd5 ["content"] sp_within_bounds := ok_within_bounds M D_within_bounds
  refine D.F.ok sc_read_content (fun vs H Q E h => ?_) (fun cdv A outer s H vs Q E hr h => ?_)
  · obtain ⟨a, xs, cs, rfl, _⟩ := h
    rfl
  · obtain ⟨a, xs, cs, rfl, ha, g, fc, hb, hT, q⟩ := h
    have few := g.few
    have jl := joined_len g fc
    refine ⟨_, (pss_cons (ps_set (i := 2) sc_read_content.nd rfl (Or.inl rfl) (pe_op op_rep (pe_lst (pa_cons pe_int pa_nil)) (pe_callB call_len_seq (by rfl) M.len (by decide +kernel) (pa_cons (pv 0) pa_nil))))
  (pss_cons (ps_if (pt_cmpR op_eq (pv 1) pe_str (nomark _))
   (pss_one (ps_ret (pv 2)))
   pss_nil)
  (pss_cons (ps_for PassesOwn.never rfl (pi_list (pe_split (pv 1) pe_str)) (pg_name (i := 3) sc_read_content.nd rfl (Or.inl rfl))
   (pss_cons (ps_asg (pe_call G_read_thing hr (by rfl) D_read_thing.g D_read_thing.F.kp D_read_thing.b .nil pass0 (pa_cons (pv 0) (pa_cons (pv 3) pa_nil))) (pg_tup rfl (pgs_cons (pg_name (i := 5) sc_read_content.nd rfl (Or.inl rfl)) (pgs_cons (pg_name (i := 4) sc_read_content.nd rfl (Or.inl rfl)) pgs_nil))))
  (pss_one (ps_asg (pv 4) (pg_sub (pv 2) (pv 5) set_list)))))
  (pss_cons (ps_if (PW.pt (pw_or (pt_cmpR op_ne (pe_call G_show_content hr (by rfl) D_show_content.g D_show_content.F.kp D_show_content.b .nil pass0 (pa_cons (pv 0) (pa_cons (pv 2) pa_nil))) (pv 1) (nomark _)) (pw_or1 (pt_not (pt_val (pe_call G_within_bounds hr (by rfl) D_within_bounds.g D_within_bounds.F.kp D_within_bounds.b .nil pass0 (pa_cons (pv 2) pa_nil)))))))
   (pss_one ps_never)
   pss_nil)
  (pss_one (ps_ret (pv 2))))))), ?_⟩
    refine ⟨by show 1 ≤ sizeLine; decide, fun l nl => ?_⟩
    have s1 := same_upd (o := .lst [V.int 0]) nl
    refine ⟨_, rfl, a, _, rfl, .inl (SqL.of (s1 _ _ ha)), l, _, _, rfl, rfl, upd_same, by omega, by rw [List.length_map]; omega, szL (by rw [List.length_map]; show 1 * ((xs.length : Nat) : Int).toNat ≤ _; omega), fun B nB => ?_⟩
    have s2 := s1.trans (same_upd (o := .lst (List.replicate ((((xs.map V.str).length : Nat) : Int)).toNat [V.int 0]).flatten) nB)
    have hB : upd (upd H l (.lst [V.int 0])) B (.lst (List.replicate ((((xs.map V.str).length : Nat) : Int)).toNat [V.int 0]).flatten) B = some (LI (List.replicate xs.length 0)) := by
      rw [upd_same, zeros_map, Int.toNat_natCast, List.length_map]
    have nB0 : H B = none := s1.free nB
    generalize upd (upd H l (.lst [V.int 0])) B (.lst (List.replicate ((((xs.map V.str).length : Nat) : Int)).toNat [V.int 0]).flatten) = H1 at s2 hB ⊢
    have E1 : Ext T H H1 := .same s2 hT
    by_cases z : partsM xs cs xs.length = []
    · have e0 : showM xs cs = ("nothing" : Str) := by unfold showM; rw [if_pos z]
      rw [e0]
      refine ⟨_, rfl, rfl, true, by decide +kernel, _, rfl, ?_⟩
      rw [← parts_nil fc z] at hB
      exact q H1 B E1 nB0 hB
    · have e0 : showM xs cs = Str.join (", " : Str) (partsM xs cs xs.length) := by unfold showM; rw [if_neg z]
      have ne0 := joined_other z
      refine ⟨_, rfl, rfl, false, congrArg V.bl (decide_eq_false fun z2 => ?_), ?_⟩
      · have z3 := V.str.inj z2
        rw [e0] at z3
        exact ne0 z3
      refine ⟨_, rfl, ⟨_, rfl⟩, _, _, rfl, rfl, by decide +kernel, szL (by rw [e0]; omega), fun L nL => ?_⟩
      have sp : Txt.split (showM xs cs) (", " : Str) = partsM xs cs xs.length := by rw [e0]; exact join_split g z
      rw [sp]
      have hL : upd H1 L (.lst ((partsM xs cs xs.length).map V.str)) L = some (LS (partsM xs cs xs.length)) := upd_same
      have hB1 := (same_upd (o := .lst ((partsM xs cs xs.length).map V.str)) nL) _ _ hB
      have nL0 : H L = none := E1.free _ nL
      have neLB : L ≠ B := fun e => by rw [e, hB] at nL; cases nL
      have E2 : Ext T H _ := E1.new (o := .lst ((partsM xs cs xs.length).map V.str)) nL0
      generalize upd H1 L (.lst ((partsM xs cs xs.length).map V.str)) = H2 at hL hB1 E2 ⊢
      refine ⟨L, rfl, ⟨_, SqL.of hL⟩, for_list (xs := (partsM xs cs xs.length).map V.str) (fun j σ H' => ∃ y3 y4 y5, σ = [some (.ref a), some (.str (showM xs cs)), some (.ref B), y3, y4, y5] ∧ Ext T H H' ∧ H' L = some (LS (partsM xs cs xs.length)) ∧ ∃ ls : List Int, H' B = some (LI ls) ∧ ls.length = xs.length ∧ ∀ i, i < xs.length → ls[i]? = some (if i ∈ (idxs cs xs.length).take j then cs.getD i 0 else 0)) ⟨none, none, none, rfl, E2, hL, _, hB1, List.length_replicate, fun i hi => ?_⟩ (fun i σ H' _ hp => ?_) (fun j x σ H' hx hp => ?_) (fun σ H' hp => ?_)⟩
      · rw [List.take_zero, if_neg (by simp), List.getElem?_replicate, if_pos hi]
      · obtain ⟨_, _, _, _, _, h, _⟩ := hp
        exact SqL.of h
      · obtain ⟨y3, y4, y5, rfl, E3, hL3, ls, hB3, hls, hat⟩ := hp
        obtain ⟨p, hp, rfl⟩ := of_get_strs hx
        have hpl : j < (partsM xs cs xs.length).length := (List.getElem?_eq_some_iff.mp hp).1
        obtain ⟨i, hi, ei⟩ : ∃ i, (idxs cs xs.length)[j]? = some i ∧ partAt xs cs i = p := by
          unfold partsM at hp
          rw [List.getElem?_map] at hp
          cases e : (idxs cs xs.length)[j]? with
          | none => rw [e] at hp; cases hp
          | some i => rw [e] at hp; exact ⟨i, rfl, Option.some.inj hp⟩
        obtain ⟨i1, i2⟩ := idxs_mem.mp (List.mem_of_getElem? hi)
        obtain ⟨f1, f2, f3⟩ := fc.at i1
        obtain ⟨g1, g2⟩ := name_at i1
        subst ei
        refine ⟨_, rfl, _, rfl, a, xs, i, (cs.getD i 0).toNat, xs.getD i Str.empty, rfl, E3.lst ha, g, g1, by omega, E3.t1, fun H4 tp e4 nt htp => ?_⟩
        refine ⟨tp, _, rfl, SqT.of htp, rfl, _, _, rfl, _, _, rfl, rfl, ?_⟩
        have hB4 := e4.lst hB3
        have hL4 := e4.lst hL3
        refine ⟨_, rfl, _, rfl, _, rfl, B, _, _, i, rfl, rfl, hB4, ixN_nat (by rw [List.length_map]; omega), ?_⟩
        refine ⟨_, _, _, rfl, (E3.trans e4).new nB0, ?_, ls.set i (cs.getD i 0), ?_, by rw [List.length_set]; exact hls, fun i' hi' => ?_⟩
        · rw [upd_ne neLB]
          exact hL4
        · have : (((cs.getD i 0).toNat : Nat) : Int) = cs.getD i 0 := by omega
          rw [this]
          exact at_set
        · rw [take_succ_at hi]
          by_cases e : i' = i
          · subst e
            rw [List.getElem?_set_self (by omega), if_pos (List.mem_append.mpr (.inr List.mem_cons_self))]
          · rw [List.getElem?_set_ne (fun z => e z.symm), hat i' hi']
            by_cases m : i' ∈ (idxs cs xs.length).take j
            · rw [if_pos m, if_pos (List.mem_append.mpr (.inl m))]
            · rw [if_neg m, if_neg fun z => ?_]
              rcases List.mem_append.mp z with z | z
              · exact m z
              · exact e (List.mem_singleton.mp z)
      · obtain ⟨y3, y4, y5, rfl, E3, hL3, ls, hB3, hls, hat⟩ := hp
        have els : ls = cs := by
          refine List.ext_getElem (by rw [hls, fc.len]) fun i h1 h2 => ?_
          have hi : i < xs.length := by omega
          have h3 := hat i hi
          obtain ⟨f1, f2, f3⟩ := fc.at hi
          rw [List.length_map, List.take_of_length_le (by unfold partsM; rw [List.length_map]; exact Nat.le_refl _)] at h3
          rw [List.getElem?_eq_getElem h1] at h3
          rw [List.getElem?_eq_getElem h2] at f1
          have e3 := Option.some.inj h3
          have e1 := Option.some.inj f1
          rw [e3]
          by_cases m : i ∈ idxs cs xs.length
          · rw [if_pos m, e1]
          · rw [if_neg m, e1]
            have : ¬ 0 < cs.getD i 0 := fun z => m (idxs_mem.mpr ⟨hi, z⟩)
            omega
        subst els
        refine ⟨_, rfl, _, rfl, a, B, xs, ls, rfl, E3.lst ha, hB3, g, fc, fun H4 s4 => ?_⟩
        have E4 : Ext T H H4 := E3.trans (.same s4 E3.t1)
        refine ⟨_, rfl, rfl, false, by simp, _, rfl, B, ls, rfl, s4 _ _ hB3, fc.small, by rw [hls]; exact few, true, by rw [decide_eq_true hb], ?_⟩
        exact ⟨_, rfl, q H4 B E4 nB0 (s4 _ _ hB3)⟩
end
/-! ### _law_cases -/
abbrev s_law_cases : Stmt := topS 85
abbrev N_law_cases : List Str := ["_law_want_here", "_law_found", "_law_number"]
theorem sc_law_cases : FnScope N_law_cases ["_law_want_here"] (defScope s_law_cases) := ⟨rfl, rfl, rfl, by decide +kernel, rfl, by decide +kernel, by decide +kernel⟩

def sp_cases (K : PySem.W.Frag) : Sp := fun vs H Q _ => ∃ (a : Addr) (ws : List Int), vs = [.ref a] ∧ SqL K H a (ws.map V.int) ∧ (∀ w ∈ ws, -1000000 ≤ w ∧ w ≤ 1000000) ∧ Q (.int (casesM ws)) H
section
variable {P : Program} {w : World} {K : PySem.W.Frag} {mg : Str → Option Value} {base : Heap}
theorem ok_cases {f : Addr} {fd : FuncData} {k : Nat} (D : Def K mg "_law_cases" s_law_cases ["_law_want_here"] f fd) : FnOk P w K mg base CX0 (k + 1) f fd ["_law_want_here"] (sp_cases K) := by
  refine D.F.ok sc_law_cases (fun vs H Q E h => ?_) (fun cdv A outer s H vs Q E hr h => ?_)
  · obtain ⟨a, ns, rfl, _⟩ := h
    rfl
  · obtain ⟨a, ws, rfl, ha, hw, q⟩ := h
    refine ⟨_, (pss_cons (ps_set (i := 1) sc_law_cases.nd rfl (Or.inl rfl) pe_int)
  (pss_cons (ps_for PassesOwn.never rfl (pi_list (pv 0)) (pg_name (i := 2) sc_law_cases.nd rfl (Or.inl rfl))
   (pss_one (ps_set (i := 1) sc_law_cases.nd rfl (Or.inl rfl) (pe_op op_mul (pv 1) (pe_op op_add (pv 2) pe_int)))))
  (pss_one (ps_ret (pv 1))))), ?_⟩
    refine ⟨.ref a, rfl, a, rfl, ⟨_, ha⟩, for_list (xs := ws.map V.int) (fun i σ H' => ∃ y, σ = [some (.ref a), some (.int (casesM (ws.take i))), y] ∧ H' = H) ⟨none, rfl, rfl⟩ (fun i σ H' _ hp => ?_) (fun i x σ H' hx hp => ?_) (fun σ H' hp => ?_)⟩
    · obtain ⟨y, _, rfl⟩ := hp
      exact ha
    · obtain ⟨y, rfl, rfl⟩ := hp
      obtain ⟨n, hn, rfl⟩ := of_get_ints hx
      have b := hw n (List.mem_of_getElem? hn)
      refine ⟨_, rfl, _, rfl, _, _, rfl, rfl, _, _, rfl, rfl, .inr ⟨by omega, by omega⟩, some (.int n), ?_, rfl⟩
      rw [casesM_take hn]
      rfl
    · obtain ⟨y, rfl, rfl⟩ := hp
      refine ⟨_, rfl, ?_⟩
      rw [List.length_map, List.take_length]
      exact q
end
/-! ### texts of offers -/
theorem tl_for : TL.tl (" for " : Str) = [32, 102, 111, 114, 32] := by decide +kernel
theorem tl_colon : TL.tl (": " : Str) = [58, 32] := by decide +kernel
theorem tl_manyW : TL.tl ("many " : Str) = [109, 97, 110, 121, 32] := by decide +kernel
theorem tl_withW : TL.tl ("with " : Str) = [119, 105, 116, 104, 32] := by decide +kernel
theorem for_len : (" for " : Str).length = 5 := by decide +kernel
theorem colon_len : (": " : Str).length = 2 := by decide +kernel
theorem comma_len : (", " : Str).length = 2 := by decide +kernel
theorem word5_len : ("many " : Str).length = 5 ∧ ("with " : Str).length = 5 := by decide +kernel
def tierS (t : Int × Int) : Str := numS t.1.toNat ++ (" for " : Str) ++ numS t.2.toNat
def tiersS (ts : List (Int × Int)) : Str := Str.join (", " : Str) (ts.map tierS)
def soldS (xs : List Str) (c : List Int) (p : Int) : Str := showM xs c ++ (" for " : Str) ++ numS p.toNat
def offerS (xs : List Str) : Ofr → Str
  | .pack c p => soldS xs c p
  | .many c ts => ("many " : Str) ++ (showM xs c ++ (": " : Str) ++ tiersS ts)
  | .add c p k => ("with " : Str) ++ (numS k.toNat ++ (": " : Str) ++ soldS xs c p)
theorem str_assoc (a b c : Str) : a ++ b ++ c = a ++ (b ++ c) := TL.ext_tl (by rw [TL.tl_append, TL.tl_append, TL.tl_append, TL.tl_append, List.append_assoc])
/-- the text's last « for » -/
theorem rpart_app (a : Str) (n : Nat) : Txt.rpartition (a ++ (" for " : Str) ++ numS n) (" for " : Str) = (a, (" for " : Str), numS n) := by
  have hy : TL.tl (" for " : Str) ≠ [] := by rw [tl_for]; exact fun z => nomatch z
  have et : TL.tl (a ++ (" for " : Str) ++ numS n) = TL.tl a ++ ([32, 102, 111, 114, 32] ++ TL.numL n) := by rw [TL.tl_append, TL.tl_append, tl_for, tl_numS, List.append_assoc]
  have la : a.length = (TL.tl a).length := TL.len_tl a
  have hit : StrLaws.At (a ++ (" for " : Str) ++ numS n) (" for " : Str) (a ++ (" for " : Str) ++ numS n).length a.length := by
    rw [TL.at_iff hy, et, la, List.drop_left, tl_for]
    exact TL.pre_self _ _
  have miss : ∀ k, a.length < k → ¬ StrLaws.At (a ++ (" for " : Str) ++ numS n) (" for " : Str) (a ++ (" for " : Str) ++ numS n).length k := fun k hk => by
    obtain ⟨j, rfl⟩ : ∃ j, k = (TL.tl a).length + (j + 1) := ⟨k - a.length - 1, by omega⟩
    have dr : ∀ c r, c ≠ 32 → TL.pre [32, 102, 111, 114, 32] (c :: r) = false := fun c r h => TL.pre_of_head _ _ h
    rw [TL.at_iff hy, et, tl_for, ← List.drop_drop, List.drop_left]
    have fg : ∀ c ∈ TL.numL n, c ≠ 32 ∧ c ≠ 102 := fun c hc => ⟨fun z => TL.numL_free (.inl (by decide)) (z ▸ hc), fun z => TL.numL_free (.inr (by decide)) (z ▸ hc)⟩
    match j with
    | 0 => rw [show (([32, 102, 111, 114, 32] : List Nat) ++ TL.numL n).drop (0 + 1) = 102 :: ([111, 114, 32] ++ TL.numL n) from rfl, dr _ _ (by decide)]; decide
    | 1 => rw [show (([32, 102, 111, 114, 32] : List Nat) ++ TL.numL n).drop (1 + 1) = 111 :: ([114, 32] ++ TL.numL n) from rfl, dr _ _ (by decide)]; decide
    | 2 => rw [show (([32, 102, 111, 114, 32] : List Nat) ++ TL.numL n).drop (2 + 1) = 114 :: ([32] ++ TL.numL n) from rfl, dr _ _ (by decide)]; decide
    | 3 =>
      rw [show (([32, 102, 111, 114, 32] : List Nat) ++ TL.numL n).drop (3 + 1) = 32 :: TL.numL n from rfl]
      intro z
      have e : (32 :: TL.numL n).take 5 = [32, 102, 111, 114, 32] := eq_of_beq z
      rw [List.take_succ_cons] at e
      have e2 := (List.cons.inj e).2
      have m : 102 ∈ (TL.numL n).take 4 := by rw [e2]; exact List.mem_cons_self
      exact (fg 102 (List.mem_of_mem_take m)).2 rfl
    | j + 4 =>
      rw [show (([32, 102, 111, 114, 32] : List Nat) ++ TL.numL n).drop (j + 4 + 1) = (TL.numL n).drop j from rfl]
      cases e : (TL.numL n).drop j with
      | nil => decide
      | cons c r =>
        have := (fg c (List.mem_of_mem_drop (by rw [e]; exact List.mem_cons_self))).1
        rw [dr _ _ this]
        decide
  have key : Builtin.Str.lastOccurrence (a ++ (" for " : Str) ++ numS n) (" for " : Str) 0 (a ++ (" for " : Str) ++ numS n).length = some a.length := by
    rcases StrLaws.last_spec (a ++ (" for " : Str) ++ numS n) (" for " : Str) with ⟨_, h⟩ | ⟨i, e, h1, h2⟩
    · exact absurd hit (h _)
    · rcases Nat.lt_trichotomy i a.length with z | z | z
      · exact absurd hit (h2 _ z)
      · rw [e, z]
      · exact absurd h1 (miss _ z)
  unfold Txt.rpartition
  rw [key]
  show (_, _, _) = _
  have e1 : Builtin.Str.strSub (a ++ (" for " : Str) ++ numS n) 0 a.length = a := TL.ext_tl (by
    rw [TL.tl_strSub, et, List.drop_zero, Nat.sub_zero, la]
    exact List.take_left)
  have e2 : Builtin.Str.strSub (a ++ (" for " : Str) ++ numS n) (a.length + (" for " : Str).length) (a ++ (" for " : Str) ++ numS n).length = numS n := TL.ext_tl (by
    rw [TL.tl_strSub_end, et, la, for_len, ← List.drop_drop, List.drop_left, tl_numS]
    rfl)
  rw [e1, e2]
/-- the signs of contents' text -/
theorem show_signs {xs : List Str} {cs : List Int} (g : GoodN xs) : ∀ c ∈ TL.tl (showM xs cs), c = 32 ∨ c = 44 ∨ (48 ≤ c ∧ c ≤ 57) ∨ (97 ≤ c ∧ c ≤ 122) := by
  unfold showM
  by_cases z : partsM xs cs xs.length = []
  · rw [if_pos z]
    decide +kernel
  · rw [if_neg z, TL.tl_join]
    have key : ∀ ps : List (List Nat), (∀ p ∈ ps, ∀ c ∈ p, c = 32 ∨ c = 44 ∨ (48 ≤ c ∧ c ≤ 57) ∨ (97 ≤ c ∧ c ≤ 122)) → ∀ c ∈ TL.joinL (TL.tl (", " : Str)) ps, c = 32 ∨ c = 44 ∨ (48 ≤ c ∧ c ≤ 57) ∨ (97 ≤ c ∧ c ≤ 122) := by
      intro ps
      induction ps with
      | nil => intro _ c hc; cases hc
      | cons p r ih =>
        intro h c hc
        cases r with
        | nil => exact h p List.mem_cons_self c hc
        | cons q r =>
          have hc' : c ∈ p ++ (TL.tl (", " : Str) ++ TL.joinL (TL.tl (", " : Str)) (q :: r)) := hc
          rcases List.mem_append.mp hc' with w | w
          · exact h p List.mem_cons_self c w
          · rcases List.mem_append.mp w with w | w
            · rw [tl_comma] at w
              simp only [List.mem_cons, List.not_mem_nil, or_false] at w
              omega
            · exact ih (fun p hp => h p (List.mem_cons_of_mem _ hp)) c w
    refine key _ fun p hp c hc => ?_
    obtain ⟨p', hp', rfl⟩ := List.mem_map.mp hp
    obtain ⟨i, hi, _, rfl⟩ := parts_all hp'
    unfold partAt at hc
    rw [tl_part] at hc
    rcases List.mem_append.mp hc with w | w
    · have : ¬ (c < 48 ∨ 57 < c) := fun q => TL.numL_free q w
      omega
    · rcases List.mem_cons.mp w with w | w
      · omega
      · have := g.small _ (name_at hi).2 _ w
        omega
theorem show_colon {xs : List Str} {cs : List Int} (g : GoodN xs) : 58 ∉ TL.tl (showM xs cs) := fun z => by
  have := show_signs g _ z
  omega
theorem many_part {xs : List Str} (g : GoodN xs) (c : List Int) (b : Str) : Txt.partition (showM xs c ++ (": " : Str) ++ b) (": " : Str) = (showM xs c, (": " : Str), b) := TL.partition_app tl_colon (show_colon g)
theorem add_part (n : Nat) (b : Str) : Txt.partition (numS n ++ (": " : Str) ++ b) (": " : Str) = (numS n, (": " : Str), b) := TL.partition_app tl_colon (by rw [tl_numS]; exact TL.numL_free (by decide))
theorem tier_part (t : Int × Int) : Txt.partition (tierS t) (" for " : Str) = (numS t.1.toNat, (" for " : Str), numS t.2.toNat) := TL.partition_app tl_for (by rw [tl_numS]; exact TL.numL_free (by decide))
theorem tier_comma (t : Int × Int) : 44 ∉ TL.tl (tierS t) := fun z => by
  unfold tierS at z
  rw [TL.tl_append, TL.tl_append, tl_numS, tl_numS, tl_for] at z
  rcases List.mem_append.mp z with z | z
  · rcases List.mem_append.mp z with z | z
    · exact TL.numL_free (by decide) z
    · revert z
      decide
  · exact TL.numL_free (by decide) z
theorem tiers_split {ts : List (Int × Int)} (h : ts ≠ []) : Txt.split (tiersS ts) (", " : Str) = ts.map tierS := by
  unfold tiersS
  rw [← TL.join_eq]
  refine TL.split_join tl_comma (by decide +kernel) (fun e => h (List.map_eq_nil_iff.mp e)) fun p hp => ?_
  obtain ⟨t, _, rfl⟩ := List.mem_map.mp hp
  exact tier_comma t
/-- startswith, removeprefix -/
theorem starts_iff (x y : Str) (hy : TL.tl y ≠ []) : Txt.startswith x y = TL.pre (TL.tl y) (TL.tl x) := by
  have h := TL.at_iff (x := x) hy 0
  rw [List.drop_zero] at h
  have e : Txt.startswith x y = true ↔ StrLaws.At x y x.length 0 := by
    unfold Txt.startswith StrLaws.At
    rw [Bool.and_eq_true, decide_eq_true_eq]
  rw [Bool.eq_iff_iff, e, h]
theorem starts_app (y b : Str) (hy : TL.tl y ≠ []) : Txt.startswith (y ++ b) y = true := by
  rw [starts_iff _ _ hy, TL.tl_append]
  exact TL.pre_self _ _
theorem starts_other {x y : Str} {c d : Nat} {r q : List Nat} (hx : TL.tl x = c :: r) (hy : TL.tl y = d :: q) (h : c ≠ d) : Txt.startswith x y = false := by
  rw [starts_iff _ _ (by rw [hy]; exact fun z => nomatch z), hx, hy]
  exact TL.pre_of_head _ _ h
theorem remove_app (y b : Str) (hy : TL.tl y ≠ []) : Txt.removeprefix (y ++ b) y = b := by
  have h : Txt.startswith (y ++ b) y = true := starts_app y b hy
  unfold Txt.startswith at h
  rw [Bool.and_eq_true] at h
  unfold Txt.removeprefix
  rw [if_pos h.2]
  show (if ((y ++ b).length - y.length == (y ++ b).length) = true then y ++ b else Builtin.Str.strSub (y ++ b) y.length (y ++ b).length) = b
  have l1 : 0 < y.length := by rw [TL.len_tl]; exact List.length_pos_iff.mpr hy
  rw [if_neg (by rw [str_len_app, beq_iff_eq]; omega)]
  refine TL.ext_tl ?_
  rw [TL.tl_strSub_end, TL.tl_append, TL.len_tl]
  exact List.drop_left
/-! ### show_offer, show_shop -/
abbrev s_show_offer : Stmt := topS 55
abbrev N_show_offer : List Str := ["names", "offer", "content", "tiers", "begin", "price"]
theorem sc_show_offer : FnScope N_show_offer ["names", "offer"] (defScope s_show_offer) := ⟨rfl, rfl, rfl, by decide +kernel, rfl, by decide +kernel, by decide +kernel⟩

abbrev s_show_shop : Stmt := topS 56
abbrev N_show_shop : List Str := ["names", "shop", "offer"]
theorem sc_show_shop : FnScope N_show_shop ["names", "shop"] (defScope s_show_shop) := ⟨rfl, rfl, rfl, by decide +kernel, rfl, by decide +kernel, by decide +kernel⟩

theorem log12 {n : Nat} (h : n < 1000000000000) : ((n : Nat) : Int).natAbs.log2 < 1920 := by
  have h1 : n < 2 ^ 40 := Nat.lt_trans h (by decide)
  rw [Int.natAbs_natCast]
  by_cases z : n = 0
  · rw [z]
    decide
  · have := (Nat.log2_lt z).mpr h1
    omega
theorem num12 {n : Nat} (h : n < 1000000000000) : (numS n).length ≤ 12 := by
  rw [numS_len]
  exact TL.numL_len (by decide) (by omega)
theorem show_len {xs : List Str} {cs : List Int} (g : GoodN xs) (h : FitC xs cs) : (showM xs cs).length ≤ 48 := by
  unfold showM
  by_cases z : partsM xs cs xs.length = []
  · rw [if_pos z]
    decide +kernel
  · rw [if_neg z]
    exact joined_len g h
theorem FitO.fit {xs : List Str} {o : Ofr} (h : FitO xs.length o) : FitC xs o.cont := ⟨h.cont.1, h.cont.2⟩
theorem tier_len {t : Int × Int} (h1 : 0 ≤ t.1) (h2 : t.1 ≤ 99) (h3 : 0 ≤ t.2) (h4 : t.2 < 1000000000000) : (tierS t).length ≤ 20 := by
  have a : (numS t.1.toNat).length ≤ 2 := by
    rw [numS_len]
    exact TL.numL_len (by decide) (by omega)
  have b := num12 (n := t.2.toNat) (by omega)
  unfold tierS
  rw [str_len_app, str_len_app, for_len]
  omega
theorem join_len20 (y : Str) : ∀ ps : List Str, (∀ p ∈ ps, p.length ≤ 20) → (Str.join y ps).length ≤ ps.length * (20 + y.length)
  | [], _ => Nat.zero_le _
  | [p], h => by
    have := h p List.mem_cons_self
    show p.length ≤ (0 + 1) * (20 + y.length)
    omega
  | p :: q :: r, h => by
    have h1 := h p List.mem_cons_self
    have h2 := join_len20 y (q :: r) fun z hz => h z (List.mem_cons_of_mem _ hz)
    show (p ++ y ++ Str.join y (q :: r)).length ≤ ((q :: r).length + 1) * (20 + y.length)
    rw [str_len_app, str_len_app, Nat.add_mul]
    omega
theorem sum20 {ps : List Str} (h : ∀ p ∈ ps, p.length ≤ 20) : (ps.map (·.length)).sum ≤ ps.length * 20 := by
  induction ps with
  | nil => exact Nat.le_refl _
  | cons p r ih =>
    have h1 := h p List.mem_cons_self
    have h2 := ih fun z hz => h z (List.mem_cons_of_mem _ hz)
    rw [List.map_cons, List.sum_cons, List.length_cons]
    omega
/-- what is told of tiers -/
structure FitT (ts : List (Int × Int)) : Prop where
  pos : 1 ≤ ts.length
  few : ts.length ≤ 4
  each : ∀ t ∈ ts, 0 ≤ t.1 ∧ t.1 ≤ 99 ∧ 0 ≤ t.2 ∧ t.2 < 1000000000000
theorem FitT.of {ts : List (Int × Int)} (g : GoodT ts) (p : PriceT ts) : FitT ts := ⟨g.pos, g.few, fun t ht => ⟨by have := g.ge1 t ht; omega, by have := g.most t ht; omega, (p t ht).1, (p t ht).2⟩⟩
theorem FitT.lens {ts : List (Int × Int)} (h : FitT ts) : ∀ p ∈ ts.map tierS, p.length ≤ 20 := fun p hp => by
  obtain ⟨t, ht, rfl⟩ := List.mem_map.mp hp
  obtain ⟨h1, h2, h3, h4⟩ := h.each t ht
  exact tier_len h1 h2 h3 h4
theorem FitT.len {ts : List (Int × Int)} (h : FitT ts) : (tiersS ts).length ≤ 88 := by
  have h1 := join_len20 (", " : Str) _ h.lens
  have := h.few
  rw [List.length_map, comma_len] at h1
  unfold tiersS
  omega
/-- an offer that can be written -/
def TellO (xs : List Str) : Ofr → Prop
  | .pack c p => FitC xs c ∧ 0 ≤ p ∧ p < 1000000000000
  | .many c ts => FitC xs c ∧ FitT ts
  | .add c p k => FitC xs c ∧ 0 ≤ p ∧ p < 1000000000000 ∧ 0 ≤ k ∧ k < 100
theorem tell_of {xs : List Str} {os : List Ofr} {i : Nat} : ∀ {o : Ofr}, i < 100 → GoodO os i o → FitO xs.length o → TellO xs o
  | .pack c p, _, _, f => ⟨f.fit, f.2.2.1, f.2.2.2⟩
  | .many c ts, _, g, f => ⟨f.fit, FitT.of g f.2.2⟩
  | .add c p k, hi, ⟨j, e, hj, _⟩, f => ⟨f.fit, f.2.2.1, f.2.2.2, by omega, by omega⟩
theorem TellO.cont {xs : List Str} : ∀ {o : Ofr}, TellO xs o → FitC xs o.cont
  | .pack _ _, h => h.1
  | .many _ _, h => h.1
  | .add _ _ _, h => h.1
theorem TellO.len {xs : List Str} (g : GoodN xs) : ∀ {o : Ofr}, TellO xs o → (offerS xs o).length ≤ 200
  | .pack c p, h => by
    have a := show_len g h.1
    have b := num12 (n := p.toNat) (by have := h.2.1; have := h.2.2; omega)
    show (soldS xs c p).length ≤ 200
    unfold soldS
    rw [str_len_app, str_len_app, for_len]
    omega
  | .many c ts, h => by
    have a := show_len g h.1
    have b := h.2.len
    show (("many " : Str) ++ (showM xs c ++ (": " : Str) ++ tiersS ts)).length ≤ 200
    rw [str_len_app, str_len_app, str_len_app, colon_len, word5_len.1]
    omega
  | .add c p k, h => by
    have a := show_len g h.1
    have b := num12 (n := p.toNat) (by have := h.2.1; have := h.2.2.1; omega)
    have d := num12 (n := k.toNat) (by have := h.2.2.2.2; omega)
    show (("with " : Str) ++ (numS k.toNat ++ (": " : Str) ++ soldS xs c p)).length ≤ 200
    unfold soldS
    rw [str_len_app, str_len_app, str_len_app, str_len_app, str_len_app, colon_len, word5_len.2, for_len]
    omega
def sp_show_offer : Sp := fun vs H Q _ => ∃ (a v : Addr) (xs : List Str) (o : Ofr), vs = [.ref a, .ref v] ∧ H a = some (LS xs) ∧ OfrAt H v o ∧ GoodN xs ∧ TellO xs o ∧ ∀ H', Same H H' → Q (.str (offerS xs o)) H'
def sp_show_shop (T : List Addr) : Sp := fun vs H Q _ => ∃ (a s : Addr) (xs : List Str) (os : List Ofr), vs = [.ref a, .ref s] ∧ H a = some (LS xs) ∧ ShopAt H s os ∧ Good os ∧ GoodN xs ∧ (∀ o ∈ os, TellO xs o) ∧ Tb T H ∧
  ∀ H' p, Ext T H H' → H p = none → H' p = some (LS (os.map (offerS xs))) → Q (.ref p) H'
section
variable {P : Program} {w : World} {K : PySem.W.Frag} {mg : Str → Option Value} {base : Heap} {T : List Addr}
theorem ok_show_offer {f f1 : Addr} {fd fd1 : FuncData} {k : Nat} (M : Names mg) (D : Def K mg "show_offer" s_show_offer ["names", "offer"] f fd) (D_show_content : Def K mg "show_content" s_show_content ["names", "content"] f1 fd1) : FnOk P w K mg base CX0 (k + 2) f fd ["names", "offer"] sp_show_offer := by
  have G_show_content : FnOk P w K mg base CX0 (k + 1) f1 fd1 ["names", "content"] (sp_show_content K) := ok_show_content M D_show_content
  refine D.F.ok sc_show_offer (fun vs H Q E h => ?_) (fun cdv A outer s H vs Q E hr h => ?_)
  · obtain ⟨a, v, xs, o, rfl, _⟩ := h
    rfl
  · obtain ⟨a, v, xs, o, rfl, ha, ho, g, tl, q⟩ := h
    have sl := show_len g tl.cont
    refine ⟨_, (pss_cons (ps_set (i := 2) sc_show_offer.nd rfl (Or.inl rfl) (pe_call G_show_content hr (by rfl) D_show_content.g D_show_content.F.kp D_show_content.b .nil pass0 (pa_cons (pv 0) (pa_cons (pe_ix ix_tup (pv 1) pe_int (fun _ _ => rfl)) pa_nil))))
  (pss_cons (ps_if (pt_cmpR op_eq (pe_ix ix_tup (pv 1) pe_int (fun _ _ => rfl)) pe_str (nomark _))
   (pss_cons (ps_set (i := 3) sc_show_offer.nd rfl (Or.inl rfl) (pe_join pe_str (pe_lc (own := [("begin", 4), ("price", 5)]) (by rfl) sc_show_offer.nd (pi_list (pe_ix ix_tup (pv 1) pe_int (fun _ _ => rfl))) (blkOk_by (own := [("begin", 4), ("price", 5)]) (N := N_show_offer) (sc := defScope s_show_offer) (by decide +kernel)) (fun _ _ _ _ _ => (pg_tupK (K := K) (n := 2) rfl rfl (pgs_cons (pg_name (i := 4) sc_show_offer.nd rfl (Or.inl rfl)) (pgs_cons (pg_name (i := 5) sc_show_offer.nd rfl (Or.inl rfl)) pgs_nil)))) (fun _ _ _ _ _ => pts_nil) (fun _ _ _ _ _ => (pe_joinedD (.cons (pe_fmt (pv 4)) (.cons pe_str (.cons (pe_fmt (pv 5)) .nil))))))))
  (pss_one (ps_ret (pe_joinedD (.cons pe_str (.cons (pe_fmt (pv 2)) (.cons pe_str (.cons (pe_fmt (pv 3)) .nil))))))))
   pss_nil)
  (pss_cons (ps_if (pt_cmpR op_eq (pe_ix ix_tup (pv 1) pe_int (fun _ _ => rfl)) pe_str (nomark _))
   (pss_one (ps_ret (pe_joinedD (.cons pe_str (.cons (pe_fmt (pe_ix ix_tup (pv 1) pe_int (fun _ _ => rfl))) (.cons pe_str (.cons (pe_fmt (pv 2)) (.cons pe_str (.cons (pe_fmt (pe_ix ix_tup (pv 1) pe_int (fun _ _ => rfl))) .nil)))))))))
   pss_nil)
  (pss_one (ps_ret (pe_joinedD (.cons (pe_fmt (pv 2)) (.cons pe_str (.cons (pe_fmt (pe_ix ix_tup (pv 1) pe_int (fun _ _ => rfl))) .nil))))))))), ?_⟩
    cases o with
    | pack c p =>
      obtain ⟨b, hv, hb⟩ := ho
      obtain ⟨fc, p0, p1⟩ := tl
      obtain ⟨n, rfl⟩ := Int.eq_ofNat_of_zero_le p0
      have hn : n < 1000000000000 := by omega
      have nl := num12 hn
      refine ⟨_, rfl, _, rfl, v, _, _, _, rfl, rfl, SqT.of hv, atI_nat (j := 1) rfl, a, b, xs, c, rfl, ha, hb, g, fc, fun H1 s1 => ?_⟩
      have hv1 := s1 _ _ hv
      refine ⟨_, rfl, v, _, _, _, rfl, rfl, SqT.of hv1, atI_nat (j := 0) rfl, rfl, false, rfl, ?_⟩
      refine ⟨_, rfl, v, _, _, _, rfl, rfl, SqT.of hv1, atI_nat (j := 0) rfl, rfl, false, rfl, ?_⟩
      have sl' : (showM xs c).length ≤ 48 := sl
      have e : offerS xs (.pack c (n : Int)) = Str.empty ++ showM xs c ++ (" for " : Str) ++ numS n := by rw [str_nil_app]; rfl
      rw [e] at q
      exact ⟨_, rfl, .inl ⟨_, rfl, szL (by omega), _, rfl, szL (by rw [str_nil_app]; omega), _, rfl, szL (by rw [str_nil_app, str_len_app, for_len]; omega), _, rfl, v, _, _, _, rfl, rfl, SqT.of hv1, atI_nat (j := 2) rfl, .inr ⟨_, rfl, log12 hn, _, rfl, szL (by rw [str_nil_app, str_len_app, str_len_app, for_len]; show _ + _ + (numS n).length ≤ _; omega), q H1 s1⟩⟩⟩
    | add c p k =>
      obtain ⟨b, hv, hb⟩ := ho
      obtain ⟨fc, p0, p1, k0, k1⟩ := tl
      obtain ⟨n, rfl⟩ := Int.eq_ofNat_of_zero_le p0
      obtain ⟨j, rfl⟩ := Int.eq_ofNat_of_zero_le k0
      have hn : n < 1000000000000 := by omega
      have hj : j < 1000000000000 := by omega
      have nl := num12 hn
      have jl := num12 hj
      refine ⟨_, rfl, _, rfl, v, _, _, _, rfl, rfl, SqT.of hv, atI_nat (j := 1) rfl, a, b, xs, c, rfl, ha, hb, g, fc, fun H1 s1 => ?_⟩
      have hv1 := s1 _ _ hv
      refine ⟨_, rfl, v, _, _, _, rfl, rfl, SqT.of hv1, atI_nat (j := 0) rfl, rfl, false, rfl, ?_⟩
      refine ⟨_, rfl, v, _, _, _, rfl, rfl, SqT.of hv1, atI_nat (j := 0) rfl, rfl, true, rfl, ?_⟩
      have sl' : (showM xs c).length ≤ 48 := sl
      have e : offerS xs (.add c (n : Int) (j : Int)) = Str.empty ++ ("with " : Str) ++ numS j ++ (": " : Str) ++ showM xs c ++ (" for " : Str) ++ numS n := by
        rw [str_nil_app]
        refine TL.ext_tl ?_
        show TL.tl (("with " : Str) ++ (numS j ++ (": " : Str) ++ (showM xs c ++ (" for " : Str) ++ numS n))) = _
        simp only [TL.tl_append, List.append_assoc]
      rw [e] at q
      have w5 := word5_len.2
      refine ⟨_, rfl, szL (by rw [str_nil_app]; omega), _, rfl, v, _, _, _, rfl, rfl, SqT.of hv1, atI_nat (j := 3) rfl, .inr ⟨_, rfl, log12 hj, _, rfl, szL (by rw [str_nil_app, str_len_app]; show _ + (numS j).length ≤ _; omega), _, rfl, szL (by rw [str_nil_app, str_len_app, str_len_app, colon_len]; show _ + (numS j).length + _ ≤ _; omega), _, rfl, .inl ⟨_, rfl, szL (by omega), _, rfl, szL (by rw [str_nil_app, str_len_app, str_len_app, str_len_app, colon_len]; show _ + (numS j).length + _ + _ ≤ _; omega), _, rfl, szL (by rw [str_nil_app, str_len_app, str_len_app, str_len_app, str_len_app, colon_len, for_len]; show _ + (numS j).length + _ + _ + _ ≤ _; omega), _, rfl, v, _, _, _, rfl, rfl, SqT.of hv1, atI_nat (j := 2) rfl, .inr ⟨_, rfl, log12 hn, _, rfl, szL (by rw [str_nil_app, str_len_app, str_len_app, str_len_app, str_len_app, str_len_app, colon_len, for_len]; show _ + (numS j).length + _ + _ + _ + (numS n).length ≤ _; omega), q H1 s1⟩⟩⟩⟩
    | many c ts =>
      obtain ⟨b, t, hv, hb, us, u1, u2, u3⟩ := ho
      obtain ⟨fc, ft⟩ := tl
      have few := ft.few
      refine ⟨_, rfl, _, rfl, v, _, _, _, rfl, rfl, SqT.of hv, atI_nat (j := 1) rfl, a, b, xs, c, rfl, ha, hb, g, fc, fun H1 s1 => ?_⟩
      have hv1 := s1 _ _ hv
      have u1' := s1 _ _ u1
      refine ⟨_, rfl, v, _, _, _, rfl, rfl, SqT.of hv1, atI_nat (j := 0) rfl, rfl, true, rfl, ?_⟩
      have sl' : (showM xs c).length ≤ 48 := sl
      refine ⟨⟨_, rfl⟩, _, rfl, v, _, _, _, rfl, rfl, SqT.of hv1, atI_nat (j := 2) rfl, t, rfl, ⟨_, SqL.of u1'⟩, fun B nB => lc_list (xs := us.map V.ref) (fun i H' => Same H1 H' ∧ H' B = some (LS ((ts.take i).map tierS))) ⟨same_upd nB, upd_same⟩ (fun i H' _ hp => SqL.of (hp.1 _ _ u1')) (fun i x H2 hx hp => ?_) (fun H2 hp => ?_)⟩
      · obtain ⟨s2, hB⟩ := hp
        rw [List.getElem?_map] at hx
        cases hu : us[i]? with
        | none => rw [hu] at hx; cases hx
        | some u =>
          rw [hu] at hx
          cases Option.some.inj hx
          have hi : i < ts.length := by
            have := (List.getElem?_eq_some_iff.mp hu).1
            omega
          have gt := List.getElem?_eq_getElem hi
          obtain ⟨t1, t2, t3, t4⟩ := ft.each _ (List.getElem_mem hi)
          have tlen := tier_len t1 t2 t3 t4
          have hu2 := s2 _ _ (s1 _ _ (u3 i u _ hu gt))
          generalize ts[i] = tt at gt t1 t2 t3 t4 tlen hu2
          obtain ⟨b1, p1⟩ := tt
          obtain ⟨b0, rfl⟩ := Int.eq_ofNat_of_zero_le t1
          obtain ⟨p0, rfl⟩ := Int.eq_ofNat_of_zero_le t3
          have l1 : b0 < 1000000000000 := by have : ((b0 : Nat) : Int) ≤ 99 := t2; omega
          have l2 : p0 < 1000000000000 := by have : ((p0 : Nat) : Int) < 1000000000000 := t4; omega
          have n1 := num12 l1
          have n2 := num12 l2
          refine ⟨u, _, rfl, SqT.of hu2, rfl, _, _, rfl, _, _, rfl, rfl, rfl, _, rfl, .inr ⟨_, rfl, log12 l1, _, rfl, szL (by rw [str_nil_app]; show (numS b0).length ≤ _; omega), _, rfl, szL (by rw [str_nil_app, str_len_app, for_len]; show (numS b0).length + _ ≤ _; omega), _, rfl, .inr ⟨_, rfl, log12 l2, _, rfl, szL (by rw [str_nil_app, str_len_app, str_len_app, for_len]; show (numS b0).length + _ + (numS p0).length ≤ _; omega), _, hB, szL' (by rw [List.length_map, List.length_map, List.length_take]; omega), sm_new s2 nB, ?_⟩⟩⟩
          rw [upd_same, ls_app, take_succ_at gt, List.map_append, str_nil_app]
          rfl
      · obtain ⟨s2, hB⟩ := hp
        rw [List.length_map, u2, List.take_length] at hB
        have sm := sum20 ft.lens
        have tln := ft.len
        rw [List.length_map] at sm
        refine ⟨_, B, _, rfl, rfl, .inl (SqL.of hB), by rw [comma_len, List.length_map]; omega, ?_⟩
        rw [TL.join_eq]
        have e : offerS xs (.many c ts) = Str.empty ++ ("many " : Str) ++ showM xs c ++ (": " : Str) ++ tiersS ts := by
          rw [str_nil_app]
          refine TL.ext_tl ?_
          show TL.tl (("many " : Str) ++ (showM xs c ++ (": " : Str) ++ tiersS ts)) = _
          simp only [TL.tl_append, List.append_assoc]
        rw [e] at q
        have w5 := word5_len.1
        have tln' : (Str.join (", " : Str) (ts.map tierS)).length ≤ 88 := tln
        exact ⟨_, rfl, szL (by rw [str_nil_app]; omega), _, rfl, .inl ⟨_, rfl, szL (by omega), _, rfl, szL (by rw [str_nil_app, str_len_app]; omega), _, rfl, szL (by rw [str_nil_app, str_len_app, str_len_app, colon_len]; omega), _, rfl, .inl ⟨_, rfl, szL (by omega), _, rfl, szL (by rw [str_nil_app, str_len_app, str_len_app, str_len_app, colon_len]; omega), q H2 (s1.trans s2)⟩⟩⟩
theorem ok_show_shop {f f1 f2 f3 f4 f5 f6 c t : Addr} {fd fd1 fd2 fd3 fd4 fd5 fd6 : FuncData} {k : Nat} (M : Names mg) (D : Def K mg "show_shop" s_show_shop ["names", "shop"] f fd) (D_show_offer : Def K mg "show_offer" s_show_offer ["names", "offer"] f1 fd1) (D_show_content : Def K mg "show_content" s_show_content ["names", "content"] f2 fd2)
    (D_look : Def K mg "look" s_look ["shop"] f3 fd3) (D_can_stand : Def K mg "can_stand" s_can_stand ["shop", "at"] f4 fd4) (D_names_pack : Def K mg "names_pack" s_names_pack ["shop", "at"] f5 fd5) (D_good_tiers : Def K mg "good_tiers" s_good_tiers ["tiers"] f6 fd6) (hc : fd6.code = .ref c) (TB : GxR.TabB base mg c t) (ht : t ∈ T) : FnOk P w K mg base CX0 (k + 4) f fd ["names", "shop"] (sp_show_shop T) := by
  have G_look : FnOk P w K mg base CX0 (k + 3) f3 fd3 ["shop"] (sp_look T) := ok_look M D_look D_can_stand D_names_pack D_good_tiers hc TB ht
  have G_show_offer : FnOk P w K mg base CX0 (k + 3) f1 fd1 ["names", "offer"] sp_show_offer := ok_show_offer M D_show_offer D_show_content
  refine D.F.ok sc_show_shop (fun vs H Q E h => ?_) (fun cdv A outer s H vs Q E hr h => ?_)
  · obtain ⟨a, s, xs, os, rfl, _⟩ := h
    rfl
  · obtain ⟨a, s, xs, os, rfl, ha, hS, gd, g, tl, hT, q⟩ := h
    refine ⟨_, (pss_cons (ps_expr (pe_call G_look hr (by rfl) D_look.g D_look.F.kp D_look.b .nil pass0 (pa_cons (pv 1) pa_nil)))
  (pss_one (ps_ret (pe_lc (own := [("offer", 2)]) (by rfl) sc_show_shop.nd (pi_list (pv 1)) (blkOk_by (own := [("offer", 2)]) (N := N_show_shop) (sc := defScope s_show_shop) (by decide +kernel)) (fun _ _ _ _ _ => (pg_name (i := 2) sc_show_shop.nd rfl (Or.inl rfl))) (fun _ _ _ _ _ => pts_nil) (fun _ _ _ _ _ => (pe_call G_show_offer hr (by rfl) D_show_offer.g D_show_offer.F.kp D_show_offer.b .nil pass0 (pa_cons (pv 0) (pa_cons (pv 2) pa_nil)))))))), ?_⟩
    refine ⟨_, rfl, s, os, rfl, hS, gd, hT, fun H1 E1 => ?_⟩
    obtain ⟨vs, h1, h2, h3⟩ := hS.ext E1
    have h8 := gd.1
    refine ⟨_, rfl, s, rfl, ⟨_, SqL.of h1⟩, fun B nB => lc_list (xs := vs.map V.ref) (fun i H' => Same H1 H' ∧ H' B = some (LS ((os.take i).map (offerS xs)))) ⟨same_upd nB, upd_same⟩ (fun i H' _ hp => SqL.of (hp.1 _ _ h1)) (fun i x H2 hx hp => ?_) (fun H2 hp => ?_)⟩
    · obtain ⟨s2, hB⟩ := hp
      have hi : i < os.length := by
        have := (List.getElem?_eq_some_iff.mp hx).1
        rw [List.length_map] at this
        omega
      obtain ⟨v, o, g1, g2, g3⟩ := ShopAt.get (H := H1) (a := s) h2 hi
      have ex : x = .ref v := Option.some.inj (hx.symm.trans g3)
      subst ex
      refine ⟨rfl, _, rfl, _, rfl, a, v, xs, o, rfl, s2 _ _ (E1.lst ha), (h3 i v o g1 g2).same s2, g, tl o (List.mem_of_getElem? g2), fun H3 s3 => ?_⟩
      refine ⟨_, s3 _ _ hB, szL' (by rw [List.length_map, List.length_map, List.length_take]; omega), sm_new (s2.trans s3) nB, ?_⟩
      rw [upd_same, ls_app, take_succ_at g2, List.map_append]
      rfl
    · obtain ⟨s2, hB⟩ := hp
      rw [List.length_map, h2, List.take_length] at hB
      exact q H2 B (E1.trans (.same s2 E1.t1)) (E1.free _ nB) hB
end
/-! ### read_goods, read_sold, read_tier, read_many, read_add, read_offer, read_shop -/
abbrev s_read_goods : Stmt := topS 63
abbrev N_read_goods : List Str := ["names", "text", "content"]
theorem sc_read_goods : FnScope N_read_goods ["names", "text"] (defScope s_read_goods) := ⟨rfl, rfl, rfl, by decide +kernel, rfl, by decide +kernel, by decide +kernel⟩

abbrev s_read_sold : Stmt := topS 64
abbrev N_read_sold : List Str := ["names", "text", "goods", "word", "price"]
theorem sc_read_sold : FnScope N_read_sold ["names", "text"] (defScope s_read_sold) := ⟨rfl, rfl, rfl, by decide +kernel, rfl, by decide +kernel, by decide +kernel⟩

abbrev s_read_tier : Stmt := topS 65
abbrev N_read_tier : List Str := ["text", "begin", "word", "price"]
theorem sc_read_tier : FnScope N_read_tier ["text"] (defScope s_read_tier) := ⟨rfl, rfl, rfl, by decide +kernel, rfl, by decide +kernel, by decide +kernel⟩

abbrev s_read_many : Stmt := topS 66
abbrev N_read_many : List Str := ["names", "text", "parts", "goods", "colon", "tiers", "part"]
theorem sc_read_many : FnScope N_read_many ["names", "text"] (defScope s_read_many) := ⟨rfl, rfl, rfl, by decide +kernel, rfl, by decide +kernel, by decide +kernel⟩

abbrev s_read_add : Stmt := topS 67
abbrev N_read_add : List Str := ["names", "text", "place", "colon", "sold", "content", "price"]
theorem sc_read_add : FnScope N_read_add ["names", "text"] (defScope s_read_add) := ⟨rfl, rfl, rfl, by decide +kernel, rfl, by decide +kernel, by decide +kernel⟩

abbrev s_read_offer : Stmt := topS 68
abbrev N_read_offer : List Str := ["names", "text", "content", "price"]
theorem sc_read_offer : FnScope N_read_offer ["names", "text"] (defScope s_read_offer) := ⟨rfl, rfl, rfl, by decide +kernel, rfl, by decide +kernel, by decide +kernel⟩

section
variable {X : Cx}
/-- x.rpartition(sep) -/
theorem mt_rpartition : MtR X "str.rpartition" (fun x xs H Q => ∃ a b, x = .str a ∧ xs = [.str b] ∧ (b.length == 0) = false ∧ a.length ≤ sizeLine ∧
    ∀ p, H p = none → Q (.ref p) (upd H p (.tup [.str (Txt.rpartition a b).1, .str (Txt.rpartition a b).2.1, .str (Txt.rpartition a b).2.2]))) := by
  intro pins s σ H x xs v us Q I rx rs h
  obtain ⟨a, b, rfl, rfl, hb, hz, h⟩ := h
  obtain ⟨t, rfl⟩ := rx
  cases rs with
  | cons r1 rs =>
    cases rs
    obtain ⟨u, rfl⟩ := r1
    refine call_meets F.slot_str_rpartition (typeIs_str _ _ _) F.entry_str_rpartition (F.args_str_rpartition_2 _ _) (meets_str_rpartition a b t u hb hz) ?_
    unfold Txt.rpartition at h
    revert h
    cases Builtin.Str.lastOccurrence a b 0 a.length with
    | none => intro h; exact laid_parts I h
    | some i => intro h; exact laid_parts I h
end
/-- contents of an offer: not all noughts, with at most 400 lesser ones -/
def Goods (xs : List Str) (c : List Int) : Prop := FitC xs c ∧ boundM c ≤ 400 ∧ ∃ x ∈ c, 0 < x
theorem Goods.any {xs : List Str} {c : List Int} (h : Goods xs c) : anyI c = true := by
  obtain ⟨x, hx, hp⟩ := h.2.2
  unfold anyI
  rw [List.any_eq_true]
  exact ⟨x, hx, by simp only [bne_iff_ne, ne_eq]; omega⟩
theorem Goods.parts {xs : List Str} {c : List Int} (h : Goods xs c) : partsM xs c xs.length ≠ [] := fun z => by
  obtain ⟨x, hx, hp⟩ := h.2.2
  have := parts_nil h.1 z
  rw [this] at hx
  have := (List.mem_replicate.mp hx).2
  omega
/-- the text begins with a figure -/
theorem Goods.head {xs : List Str} {c : List Int} (h : Goods xs c) : ∃ d r, TL.tl (showM xs c) = d :: r ∧ 48 ≤ d ∧ d ≤ 57 := by
  unfold showM
  rw [if_neg h.parts, TL.tl_join]
  cases e : partsM xs c xs.length with
  | nil => exact absurd e h.parts
  | cons p q =>
    obtain ⟨i, _, _, rfl⟩ := parts_all (xs := xs) (cs := c) (p := p) (by rw [e]; exact List.mem_cons_self)
    have ep : TL.tl (partAt xs c i) = TL.numL (c.getD i 0).toNat ++ 32 :: TL.tl (xs.getD i Str.empty) := tl_part _ _
    cases en : TL.numL (c.getD i 0).toNat with
    | nil => exact absurd en (TL.numL_ne _)
    | cons d r =>
      have hd : ¬ (d < 48 ∨ 57 < d) := fun z => TL.numL_free z (n := (c.getD i 0).toNat) (by rw [en]; exact List.mem_cons_self)
      rw [en] at ep
      rw [List.map_cons, ep]
      cases q with
      | nil => exact ⟨d, _, rfl, by omega, by omega⟩
      | cons q1 q2 => exact ⟨d, _, rfl, by omega, by omega⟩
def sp_read_goods (T : List Addr) : Sp := fun vs H Q _ => ∃ (a : Addr) (xs : List Str) (c : List Int), vs = [.ref a, .str (showM xs c)] ∧ H a = some (LS xs) ∧ GoodN xs ∧ Goods xs c ∧ Tb T H ∧
  ∀ H' p, Ext T H H' → H p = none → H' p = some (LI c) → Q (.ref p) H'
def sp_read_sold (T : List Addr) : Sp := fun vs H Q _ => ∃ (a : Addr) (xs : List Str) (c : List Int) (p : Int), vs = [.ref a, .str (soldS xs c p)] ∧ H a = some (LS xs) ∧ GoodN xs ∧ Goods xs c ∧ 0 ≤ p ∧ p < 1000000000000 ∧ Tb T H ∧
  ∀ H' t b, Ext T H H' → H b = none → H' t = some (.tup [.ref b, .int p]) → H' b = some (LI c) → Q (.ref t) H'
def sp_read_tier (T : List Addr) : Sp := fun vs H Q _ => ∃ (t : Int × Int), vs = [.str (tierS t)] ∧ 0 ≤ t.1 ∧ t.1 ≤ 99 ∧ 0 ≤ t.2 ∧ t.2 < 1000000000000 ∧ Tb T H ∧
  ∀ H' u, Ext T H H' → H u = none → H' u = some (.tup [.int t.1, .int t.2]) → Q (.ref u) H'
/-- an offer whose lists are new: S are its lists -/
def OwnO (H : Hp) (v : Addr) : Ofr → List Addr → Prop
  | .pack c p, S => ∃ b, S = [b] ∧ H v = some (.tup [.str "pack", .ref b, .int p]) ∧ H b = some (LI c)
  | .many c ts, S => ∃ b t, S = [b, t] ∧ H v = some (.tup [.str "many", .ref b, .ref t]) ∧ H b = some (LI c) ∧ TiersAt H t ts
  | .add c p k, S => ∃ b, S = [b] ∧ H v = some (.tup [.str "add", .ref b, .int p, .int k]) ∧ H b = some (LI c)
theorem OwnO.at {H : Hp} {v : Addr} : ∀ {o : Ofr} {S : List Addr}, OwnO H v o S → OfrAt H v o
  | .pack _ _, _, ⟨b, _, h1, h2⟩ => ⟨b, h1, h2⟩
  | .many _ _, _, ⟨b, t, _, h1, h2, h3⟩ => ⟨b, t, h1, h2, h3⟩
  | .add _ _ _, _, ⟨b, _, h1, h2⟩ => ⟨b, h1, h2⟩
theorem OwnO.ext {T : List Addr} {H H1 : Hp} (e : Ext T H H1) {v : Addr} : ∀ {o : Ofr} {S : List Addr}, OwnO H v o S → OwnO H1 v o S
  | .pack _ _, _, ⟨b, h0, h1, h2⟩ => ⟨b, h0, e.tup h1, e.lst h2⟩
  | .many _ _, _, ⟨b, t, h0, h1, h2, h3⟩ => ⟨b, t, h0, e.tup h1, e.lst h2, h3.ext e⟩
  | .add _ _ _, _, ⟨b, h0, h1, h2⟩ => ⟨b, h0, e.tup h1, e.lst h2⟩
/-- its lists stand -/
theorem OwnO.lists {H : Hp} {v : Addr} : ∀ {o : Ofr} {S : List Addr}, OwnO H v o S → ∀ x ∈ S, ∃ ys, H x = some (.lst ys)
  | .pack _ _, _, ⟨b, h0, h1, h2⟩, x, hx => by
    rw [h0] at hx
    rw [List.mem_singleton.mp hx]
    exact ⟨_, h2⟩
  | .many _ _, _, ⟨b, t, h0, h1, h2, us, h3, _⟩, x, hx => by
    rw [h0] at hx
    simp only [List.mem_cons, List.not_mem_nil, or_false] at hx
    rcases hx with rfl | rfl
    · exact ⟨_, h2⟩
    · exact ⟨_, h3⟩
  | .add _ _ _, _, ⟨b, h0, h1, h2⟩, x, hx => by
    rw [h0] at hx
    rw [List.mem_singleton.mp hx]
    exact ⟨_, h2⟩
/-- another list changes -/
theorem OwnO.upd {H : Hp} {v x : Addr} {ys zs : List V} (hx : H x = some (.lst ys)) : ∀ {o : Ofr} {S : List Addr}, x ∉ S → OwnO H v o S → OwnO (L2.upd H x (.lst zs)) v o S
  | .pack _ _, _, n, ⟨b, h0, h1, h2⟩ => by
    subst h0
    refine ⟨b, rfl, ?_, ?_⟩
    · rw [upd_ne (ne_of h1 hx (fun z => nomatch z))]; exact h1
    · rw [upd_ne (fun e => n (by rw [e]; exact List.mem_cons_self))]; exact h2
  | .many _ _, _, n, ⟨b, t, h0, h1, h2, us, h3, h4, h5⟩ => by
    subst h0
    refine ⟨b, t, rfl, ?_, ?_, us, ?_, h4, fun i u tt a b => ?_⟩
    · rw [upd_ne (ne_of h1 hx (fun z => nomatch z))]; exact h1
    · rw [upd_ne (fun e => n (by rw [e]; exact List.mem_cons_self))]; exact h2
    · rw [upd_ne (fun e => n (by rw [e]; exact List.mem_cons_of_mem _ List.mem_cons_self))]; exact h3
    · rw [upd_ne (ne_of (h5 i u tt a b) hx (fun z => nomatch z))]; exact h5 i u tt a b
  | .add _ _ _, _, n, ⟨b, h0, h1, h2⟩ => by
    subst h0
    refine ⟨b, rfl, ?_, ?_⟩
    · rw [upd_ne (ne_of h1 hx (fun z => nomatch z))]; exact h1
    · rw [upd_ne (fun e => n (by rw [e]; exact List.mem_cons_self))]; exact h2
/-- what may be read of an offer -/
def ReadO (xs : List Str) (o : Ofr) : Prop := TellO xs o ∧ Goods xs o.cont
def sp_read_offer (T : List Addr) : Sp := fun vs H Q _ => ∃ (a : Addr) (xs : List Str) (o : Ofr), vs = [.ref a, .str (offerS xs o)] ∧ H a = some (LS xs) ∧ GoodN xs ∧ ReadO xs o ∧ Tb T H ∧
  ∀ H' v S, Ext T H H' → OwnO H' v o S → (∀ x ∈ S, H x = none) → S.Nodup → Q (.ref v) H'
def sp_read_many (T : List Addr) : Sp := fun vs H Q _ => ∃ (a : Addr) (xs : List Str) (c : List Int) (ts : List (Int × Int)), vs = [.ref a, .str (showM xs c ++ (": " : Str) ++ tiersS ts)] ∧ H a = some (LS xs) ∧ GoodN xs ∧ Goods xs c ∧ FitT ts ∧ Tb T H ∧
  ∀ H' v S, Ext T H H' → OwnO H' v (.many c ts) S → (∀ x ∈ S, H x = none) → S.Nodup → Q (.ref v) H'
def sp_read_add (T : List Addr) : Sp := fun vs H Q _ => ∃ (a : Addr) (xs : List Str) (c : List Int) (p k : Int), vs = [.ref a, .str (numS k.toNat ++ (": " : Str) ++ soldS xs c p)] ∧ H a = some (LS xs) ∧ GoodN xs ∧ Goods xs c ∧ 0 ≤ p ∧ p < 1000000000000 ∧ 0 ≤ k ∧ k < 100 ∧ Tb T H ∧
  ∀ H' v S, Ext T H H' → OwnO H' v (.add c p k) S → (∀ x ∈ S, H x = none) → S.Nodup → Q (.ref v) H'
section
variable {P : Program} {w : World} {K : PySem.W.Frag} {mg : Str → Option Value} {base : Heap} {T : List Addr}
theorem ok_read_goods {f f1 : Addr} {fd fd1 : FuncData} {k : Nat} (M : Names mg) (D : Def K mg "read_goods" s_read_goods ["names", "text"] f fd) (D_read_content : Def K mg "read_content" s_read_content ["names", "text"] f1 fd1) (G_read_content : FnOk P w K mg base CX0 k f1 fd1 ["names", "text"] (sp_read_content T)) : FnOk P w K mg base CX0 (k + 1) f fd ["names", "text"] (sp_read_goods T) := by
  refine D.F.ok sc_read_goods (fun vs H Q E h => ?_) (fun cdv A outer s H vs Q E hr h => ?_)
  · obtain ⟨a, xs, c, rfl, _⟩ := h
    rfl
  · obtain ⟨a, xs, c, rfl, ha, g, gs, hT, q⟩ := h
    refine ⟨_, (pss_cons (ps_set (i := 2) sc_read_goods.nd rfl (Or.inl rfl) (pe_call G_read_content hr (by rfl) D_read_content.g D_read_content.F.kp D_read_content.b .nil pass0 (pa_cons (pv 0) (pa_cons (pv 1) pa_nil))))
  (pss_cons (ps_if (pt_not (pt_val (pe_callB (cr_anyI rfl) (by rfl) M.any (by decide +kernel) (pa_cons (pv 2) pa_nil))))
   (pss_one ps_never)
   pss_nil)
  (pss_one (ps_ret (pv 2))))), ?_⟩
    refine ⟨_, rfl, _, rfl, a, xs, c, rfl, ha, g, gs.1, gs.2.1, hT, fun H1 p E1 np hp => ?_⟩
    refine ⟨_, rfl, p, c, rfl, SqL.of hp, true, by rw [gs.any], _, rfl, q H1 p E1 np hp⟩
theorem ok_read_sold {f f1 f2 : Addr} {fd fd1 fd2 : FuncData} {k : Nat} (M : Names mg) (D : Def K mg "read_sold" s_read_sold ["names", "text"] f fd) (D_read_goods : Def K mg "read_goods" s_read_goods ["names", "text"] f1 fd1) (G_read_goods : FnOk P w K mg base CX0 k f1 fd1 ["names", "text"] (sp_read_goods T)) (D_read_number : Def K mg "read_number" s_read_number ["text", "figures"] f2 fd2) (G_read_number : FnOk P w K mg base CX0 k f2 fd2 ["text", "figures"] (sp_read_number T)) : FnOk P w K mg base CX0 (k + 1) f fd ["names", "text"] (sp_read_sold T) := by
  obtain ⟨tF, m_PRICE_FIGURES⟩ := M.c_PRICE_FIGURES
  refine D.F.ok sc_read_sold (fun vs H Q E h => ?_) (fun cdv A outer s H vs Q E hr h => ?_)
  · obtain ⟨a, xs, c, p, rfl, _⟩ := h
    rfl
  · obtain ⟨a, xs, c, p, rfl, ha, g, gs, p0, p1, hT, q⟩ := h
    obtain ⟨n, rfl⟩ := Int.eq_ofNat_of_zero_le p0
    have hn : n < 1000000000000 := by omega
    have sl := show_len g gs.1
    have nl := num12 hn
    refine ⟨_, (pss_cons (ps_asg (pe_m1 PySem.F.slot_str_rpartition PySem.F.type_str_rpartition mt_rpartition (pv 1) pe_str) (pg_tup rfl (pgs_cons (pg_name (i := 2) sc_read_sold.nd rfl (Or.inl rfl)) (pgs_cons (pg_name (i := 3) sc_read_sold.nd rfl (Or.inl rfl)) (pgs_cons (pg_name (i := 4) sc_read_sold.nd rfl (Or.inl rfl)) pgs_nil)))))
  (pss_one (ps_ret (pe_tup (pa_cons (pe_call G_read_goods hr (by rfl) D_read_goods.g D_read_goods.F.kp D_read_goods.b .nil pass0 (pa_cons (pv 0) (pa_cons (pv 2) pa_nil))) (pa_cons (pe_call G_read_number hr (by rfl) D_read_number.g D_read_number.F.kp D_read_number.b .nil pass0 (pa_cons (pv 4) (pa_cons (pe_glob (v := .int 12) (by rfl) m_PRICE_FIGURES ⟨_, rfl⟩) pa_nil))) pa_nil)))))), ?_⟩
    refine ⟨_, rfl, ⟨_, rfl⟩, _, _, rfl, rfl, by decide +kernel, szL (by show (showM xs c ++ (" for " : Str) ++ numS n).length ≤ _; rw [str_len_app, str_len_app, for_len]; omega), fun t nt => ?_⟩
    have e : Txt.rpartition (soldS xs c (n : Int)) (" for " : Str) = (showM xs c, (" for " : Str), numS n) := rpart_app _ _
    rw [e]
    have s1 := same_upd (o := .tup [.str (showM xs c), .str (" for " : Str), .str (numS n)]) nt
    refine ⟨t, _, rfl, SqT.of upd_same, rfl, _, _, rfl, _, _, rfl, _, _, rfl, rfl, ?_⟩
    have E1 : Ext T H _ := .same s1 hT
    generalize upd H t (.tup [.str (showM xs c), .str (" for " : Str), .str (numS n)]) = H1 at s1 E1 ⊢
    refine ⟨_, rfl, _, rfl, a, xs, c, rfl, s1 _ _ ha, g, gs, E1.t1, fun H2 b E2 nb hb => ?_⟩
    refine ⟨_, rfl, n, 12, rfl, by omega, by decide, by decide, E2.t1, fun H3 E3 => ⟨by show 2 ≤ sizeLine; decide, fun u nu => ?_⟩⟩
    have E13 := (E1.trans E2).trans E3
    have nb0 := E1.free _ nb
    exact q _ u b (E13.new (E13.free _ nu)) nb0 upd_same ((same_upd nu) _ _ (E3.lst hb))
theorem ok_read_tier {f f2 : Addr} {fd fd2 : FuncData} {k : Nat} (M : Names mg) (D : Def K mg "read_tier" s_read_tier ["text"] f fd) (D_read_number : Def K mg "read_number" s_read_number ["text", "figures"] f2 fd2) (G_read_number : FnOk P w K mg base CX0 k f2 fd2 ["text", "figures"] (sp_read_number T)) : FnOk P w K mg base CX0 (k + 1) f fd ["text"] (sp_read_tier T) := by
  obtain ⟨tF, m_PRICE_FIGURES⟩ := M.c_PRICE_FIGURES
  obtain ⟨tG, m_PLACE_FIGURES⟩ := M.c_PLACE_FIGURES
  refine D.F.ok sc_read_tier (fun vs H Q E h => ?_) (fun cdv A outer s H vs Q E hr h => ?_)
  · obtain ⟨t, rfl, _⟩ := h
    rfl
  · obtain ⟨⟨b, p⟩, rfl, b0, b1, p0, p1, hT, q⟩ := h
    have tl := tier_len (t := (b, p)) b0 b1 p0 p1
    obtain ⟨m, rfl⟩ := Int.eq_ofNat_of_zero_le b0
    obtain ⟨n, rfl⟩ := Int.eq_ofNat_of_zero_le p0
    have hm : m < 10 ^ 2 := by have : ((m : Nat) : Int) ≤ 99 := b1; omega
    have hn : n < 10 ^ 12 := by have : ((n : Nat) : Int) < 1000000000000 := p1; omega
    refine ⟨_, (pss_cons (ps_asg (pe_partition (pv 0) pe_str) (pg_tup rfl (pgs_cons (pg_name (i := 1) sc_read_tier.nd rfl (Or.inl rfl)) (pgs_cons (pg_name (i := 2) sc_read_tier.nd rfl (Or.inl rfl)) (pgs_cons (pg_name (i := 3) sc_read_tier.nd rfl (Or.inl rfl)) pgs_nil)))))
  (pss_one (ps_ret (pe_tup (pa_cons (pe_call G_read_number hr (by rfl) D_read_number.g D_read_number.F.kp D_read_number.b .nil pass0 (pa_cons (pv 1) (pa_cons (pe_glob (v := .int 2) (by rfl) m_PLACE_FIGURES ⟨_, rfl⟩) pa_nil))) (pa_cons (pe_call G_read_number hr (by rfl) D_read_number.g D_read_number.F.kp D_read_number.b .nil pass0 (pa_cons (pv 3) (pa_cons (pe_glob (v := .int 12) (by rfl) m_PRICE_FIGURES ⟨_, rfl⟩) pa_nil))) pa_nil)))))), ?_⟩
    refine ⟨_, rfl, ⟨_, rfl⟩, _, _, rfl, rfl, by decide +kernel, szL (by omega), fun t nt => ?_⟩
    have e : Txt.partition (tierS ((m : Int), (n : Int))) (" for " : Str) = (numS m, (" for " : Str), numS n) := tier_part _
    rw [e]
    have s1 := same_upd (o := .tup [.str (numS m), .str (" for " : Str), .str (numS n)]) nt
    refine ⟨t, _, rfl, SqT.of upd_same, rfl, _, _, rfl, _, _, rfl, _, _, rfl, rfl, ?_⟩
    have E1 : Ext T H _ := .same s1 hT
    generalize upd H t (.tup [.str (numS m), .str (" for " : Str), .str (numS n)]) = H1 at s1 E1 ⊢
    refine ⟨_, rfl, m, 2, rfl, hm, by decide, by decide, E1.t1, fun H2 E2 => ?_⟩
    refine ⟨_, rfl, n, 12, rfl, hn, by decide, by decide, E2.t1, fun H3 E3 => ⟨by show 2 ≤ sizeLine; decide, fun u nu => ?_⟩⟩
    have E13 := (E1.trans E2).trans E3
    exact q _ u (E13.new (E13.free _ nu)) (E13.free _ nu) upd_same
theorem ok_read_many {f f1 f2 : Addr} {fd fd1 fd2 : FuncData} {k : Nat} (M : Names mg) (D : Def K mg "read_many" s_read_many ["names", "text"] f fd) (D_read_goods : Def K mg "read_goods" s_read_goods ["names", "text"] f1 fd1) (G_read_goods : FnOk P w K mg base CX0 k f1 fd1 ["names", "text"] (sp_read_goods T)) (D_read_tier : Def K mg "read_tier" s_read_tier ["text"] f2 fd2) (G_read_tier : FnOk P w K mg base CX0 k f2 fd2 ["text"] (sp_read_tier T)) : FnOk P w K mg base CX0 (k + 1) f fd ["names", "text"] (sp_read_many T) := by
  obtain ⟨tF, m_MOST_TIERS⟩ := M.c_MOST_TIERS
  refine D.F.ok sc_read_many (fun vs H Q E h => ?_) (fun cdv A outer s H vs Q E hr h => ?_)
  · obtain ⟨a, xs, c, ts, rfl, _⟩ := h
    rfl
  · obtain ⟨a, xs, c, ts, rfl, ha, g, gs, ft, hT, q⟩ := h
    have sl := show_len g gs.1
    have tl := ft.len
    have few := ft.few
    have pos := ft.pos
    have tne : ts ≠ [] := fun z => by rw [z] at pos; exact absurd pos (by decide)
    refine ⟨_, (pss_cons (ps_asg (pe_partition (pv 1) pe_str) (pg_tup rfl (pgs_cons (pg_name (i := 3) sc_read_many.nd rfl (Or.inl rfl)) (pgs_cons (pg_name (i := 4) sc_read_many.nd rfl (Or.inl rfl)) (pgs_cons (pg_name (i := 5) sc_read_many.nd rfl (Or.inl rfl)) pgs_nil)))))
  (pss_cons (ps_set (i := 2) sc_read_many.nd rfl (Or.inl rfl) (pe_split (pv 5) pe_str))
  (pss_cons (ps_if (pt_cmpR op_gt (pe_callB call_len_seq (by rfl) M.len (by decide +kernel) (pa_cons (pv 2) pa_nil)) (pe_glob (v := .int 4) (by rfl) m_MOST_TIERS ⟨_, rfl⟩) (nomark _))
   (pss_one ps_never)
   pss_nil)
  (pss_one (ps_ret (pe_tup (pa_cons pe_str (pa_cons (pe_call G_read_goods hr (by rfl) D_read_goods.g D_read_goods.F.kp D_read_goods.b .nil pass0 (pa_cons (pv 0) (pa_cons (pv 3) pa_nil))) (pa_cons (pe_lc (own := [("part", 6)]) (by rfl) sc_read_many.nd (pi_list (pv 2)) (blkOk_by (own := [("part", 6)]) (N := N_read_many) (sc := defScope s_read_many) (by decide +kernel)) (fun _ _ _ _ _ => (pg_name (i := 6) sc_read_many.nd rfl (Or.inl rfl))) (fun _ _ _ _ _ => pts_nil) (fun _ _ _ _ _ => (pe_call G_read_tier hr (by rfl) D_read_tier.g D_read_tier.F.kp D_read_tier.b .nil pass0 (pa_cons (pv 6) pa_nil)))) pa_nil))))))))), ?_⟩
    refine ⟨_, rfl, ⟨_, rfl⟩, _, _, rfl, rfl, by decide +kernel, szL (by rw [str_len_app, str_len_app, colon_len]; omega), fun t nt => ?_⟩
    rw [many_part g]
    have s1 := same_upd (o := .tup [.str (showM xs c), .str (": " : Str), .str (tiersS ts)]) nt
    refine ⟨t, _, rfl, SqT.of upd_same, rfl, _, _, rfl, _, _, rfl, _, _, rfl, rfl, ?_⟩
    have E1 : Ext T H _ := .same s1 hT
    generalize upd H t (.tup [.str (showM xs c), .str (": " : Str), .str (tiersS ts)]) = H1 at s1 E1 ⊢
    refine ⟨_, rfl, ⟨_, rfl⟩, _, _, rfl, rfl, by decide +kernel, szL (by show (tiersS ts).length + 2 ≤ _; omega), fun L nL => ?_⟩
    rw [tiers_split tne]
    have s2 := s1.trans (same_upd (o := .lst ((ts.map tierS).map V.str)) nL)
    have hL : upd H1 L (.lst ((ts.map tierS).map V.str)) L = some (LS (ts.map tierS)) := upd_same
    have E2 : Ext T H _ := .same s2 hT
    generalize upd H1 L (.lst ((ts.map tierS).map V.str)) = H2 at s2 E2 hL ⊢
    refine ⟨_, rfl, L, _, rfl, .inl (SqL.of hL), _, _, rfl, rfl, false, by rw [List.length_map, List.length_map]; exact congrArg V.bl (decide_eq_false (by omega)), ?_⟩
    refine ⟨_, rfl, _, rfl, a, xs, c, rfl, s2 _ _ ha, g, gs, E2.t1, fun H3 b E3 nb hb => ?_⟩
    have E03 := E2.trans E3
    have hL3 := E3.lst hL
    have nb0 := E2.free _ nb
    refine ⟨_, rfl, L, rfl, ⟨_, SqL.of hL3⟩, fun B nB => lc_list (xs := (ts.map tierS).map V.str) (fun i H' => Ext T H3 H' ∧ ∃ us : List Addr, H' B = some (.lst (us.map V.ref)) ∧ us.length = i ∧ ∀ (j : Nat) u (tt : Int × Int), us[j]? = some u → ts[j]? = some tt → H' u = some (.tup [.int tt.1, .int tt.2])) ⟨(Ext.refl E3.t1).new nB, [], upd_same, rfl, fun j u tt h => by simp at h⟩ (fun i H' _ hp => SqL.of (hp.1.lst hL3)) (fun i x H4 hx hp => ?_) (fun H4 hp => ?_)⟩
    · obtain ⟨E4, us, hB, hlu, hus⟩ := hp
      obtain ⟨x', hx', rfl⟩ := of_get_strs hx
      have hi : i < ts.length := by
        have := (List.getElem?_eq_some_iff.mp hx').1
        rw [List.length_map] at this
        exact this
      have gt := List.getElem?_eq_getElem hi
      obtain ⟨t1, t2, t3, t4⟩ := ft.each _ (List.getElem_mem hi)
      rw [List.getElem?_map, gt] at hx'
      cases Option.some.inj hx'
      refine ⟨rfl, _, rfl, ts[i], rfl, t1, t2, t3, t4, E4.t1, fun H5 u E5 nu hu => ?_⟩
      have hB5 := E5.lst hB
      have neuB : u ≠ B := fun e => by rw [e, hB] at nu; cases nu
      refine ⟨_, hB5, szL' (by rw [List.length_map]; omega), (E4.trans E5).new nB, us ++ [u], ?_, by rw [List.length_append, hlu]; rfl, fun j u' tt h1 h2 => ?_⟩
      · rw [upd_same, List.map_append]
        rfl
      · by_cases hj : j < us.length
        · rw [List.getElem?_append_left hj] at h1
          have h3 := E5.tup (hus j u' tt h1 h2)
          rw [upd_ne (ne_of h3 hB5 (fun z => nomatch z))]
          exact h3
        · have hj2 : j = us.length := by
            have := (List.getElem?_eq_some_iff.mp h1).1
            rw [List.length_append] at this
            have : j < us.length + 1 := this
            omega
          subst hj2
          rw [List.getElem?_append_right (Nat.le_refl _), Nat.sub_self] at h1
          cases Option.some.inj h1
          rw [hlu, gt] at h2
          cases Option.some.inj h2
          rw [upd_ne neuB]
          exact hu
    · obtain ⟨E4, us, hB, hlu, hus⟩ := hp
      rw [List.length_map, List.length_map] at hlu
      refine ⟨by show 3 ≤ sizeLine; decide, fun v nv => ?_⟩
      have E04 := E03.trans E4
      have hb4 := E4.lst hb
      have nBb : b ≠ B := fun e => by rw [e] at hb; rw [hb] at nB; cases nB
      refine q _ v [b, B] (E04.new (E04.free _ nv)) ⟨b, B, rfl, upd_same, (same_upd nv) _ _ hb4, us, (same_upd nv) _ _ hB, hlu, fun j u tt h1 h2 => (same_upd nv) _ _ (hus j u tt h1 h2)⟩ (fun x hx => ?_) (List.nodup_cons.mpr ⟨fun z => nBb (List.mem_singleton.mp z), List.nodup_cons.mpr ⟨by simp, List.nodup_nil⟩⟩)
      simp only [List.mem_cons, List.not_mem_nil, or_false] at hx
      rcases hx with rfl | rfl
      · exact nb0
      · exact E03.free _ nB
theorem ok_read_add {f f1 f2 : Addr} {fd fd1 fd2 : FuncData} {k : Nat} (M : Names mg) (D : Def K mg "read_add" s_read_add ["names", "text"] f fd) (D_read_sold : Def K mg "read_sold" s_read_sold ["names", "text"] f1 fd1) (G_read_sold : FnOk P w K mg base CX0 k f1 fd1 ["names", "text"] (sp_read_sold T)) (D_read_number : Def K mg "read_number" s_read_number ["text", "figures"] f2 fd2) (G_read_number : FnOk P w K mg base CX0 k f2 fd2 ["text", "figures"] (sp_read_number T)) : FnOk P w K mg base CX0 (k + 1) f fd ["names", "text"] (sp_read_add T) := by
  obtain ⟨tG, m_PLACE_FIGURES⟩ := M.c_PLACE_FIGURES
  refine D.F.ok sc_read_add (fun vs H Q E h => ?_) (fun cdv A outer s H vs Q E hr h => ?_)
  · obtain ⟨a, xs, c, p, k, rfl, _⟩ := h
    rfl
  · obtain ⟨a, xs, c, p, k, rfl, ha, g, gs, p0, p1, k0, k1, hT, q⟩ := h
    obtain ⟨m, rfl⟩ := Int.eq_ofNat_of_zero_le k0
    have hm : m < 10 ^ 2 := by omega
    have ml := num12 (n := m) (by omega)
    have sl := show_len g gs.1
    have nl := num12 (n := p.toNat) (by omega)
    refine ⟨_, (pss_cons (ps_asg (pe_partition (pv 1) pe_str) (pg_tup rfl (pgs_cons (pg_name (i := 2) sc_read_add.nd rfl (Or.inl rfl)) (pgs_cons (pg_name (i := 3) sc_read_add.nd rfl (Or.inl rfl)) (pgs_cons (pg_name (i := 4) sc_read_add.nd rfl (Or.inl rfl)) pgs_nil)))))
  (pss_cons (ps_asg (pe_call G_read_sold hr (by rfl) D_read_sold.g D_read_sold.F.kp D_read_sold.b .nil pass0 (pa_cons (pv 0) (pa_cons (pv 4) pa_nil))) (pg_tup rfl (pgs_cons (pg_name (i := 5) sc_read_add.nd rfl (Or.inl rfl)) (pgs_cons (pg_name (i := 6) sc_read_add.nd rfl (Or.inl rfl)) pgs_nil))))
  (pss_one (ps_ret (pe_tup (pa_cons pe_str (pa_cons (pv 5) (pa_cons (pv 6) (pa_cons (pe_call G_read_number hr (by rfl) D_read_number.g D_read_number.F.kp D_read_number.b .nil pass0 (pa_cons (pv 2) (pa_cons (pe_glob (v := .int 2) (by rfl) m_PLACE_FIGURES ⟨_, rfl⟩) pa_nil))) pa_nil))))))))), ?_⟩
    refine ⟨_, rfl, ⟨_, rfl⟩, _, _, rfl, rfl, by decide +kernel, szL (by show (numS m ++ (": " : Str) ++ (showM xs c ++ (" for " : Str) ++ numS p.toNat)).length ≤ _; rw [str_len_app, str_len_app, str_len_app, str_len_app, colon_len, for_len]; omega), fun t nt => ?_⟩
    have e : Txt.partition (numS (((m : Nat) : Int)).toNat ++ (": " : Str) ++ soldS xs c p) (": " : Str) = (numS m, (": " : Str), soldS xs c p) := add_part _ _
    rw [e]
    have s1 := same_upd (o := .tup [.str (numS m), .str (": " : Str), .str (soldS xs c p)]) nt
    refine ⟨t, _, rfl, SqT.of upd_same, rfl, _, _, rfl, _, _, rfl, _, _, rfl, rfl, ?_⟩
    have E1 : Ext T H _ := .same s1 hT
    generalize upd H t (.tup [.str (numS m), .str (": " : Str), .str (soldS xs c p)]) = H1 at s1 E1 ⊢
    refine ⟨_, rfl, _, rfl, a, xs, c, p, rfl, s1 _ _ ha, g, gs, p0, p1, E1.t1, fun H2 u b E2 nb hu hb => ?_⟩
    refine ⟨u, _, rfl, SqT.of hu, rfl, _, _, rfl, _, _, rfl, rfl, ?_⟩
    refine ⟨_, rfl, _, rfl, _, rfl, m, 2, rfl, hm, by decide, by decide, E2.t1, fun H3 E3 => ⟨by show 4 ≤ sizeLine; decide, fun v nv => ?_⟩⟩
    have E13 := (E1.trans E2).trans E3
    exact q _ v [b] (E13.new (E13.free _ nv)) ⟨b, rfl, upd_same, (same_upd nv) _ _ (E3.lst hb)⟩ (fun x hx => by rw [List.mem_singleton.mp hx]; exact E1.free _ nb) (List.nodup_cons.mpr ⟨by simp, List.nodup_nil⟩)
theorem ok_read_offer {f f1 f2 f3 : Addr} {fd fd1 fd2 fd3 : FuncData} {k : Nat} (M : Names mg) (D : Def K mg "read_offer" s_read_offer ["names", "text"] f fd) (D_read_many : Def K mg "read_many" s_read_many ["names", "text"] f1 fd1) (G_read_many : FnOk P w K mg base CX0 k f1 fd1 ["names", "text"] (sp_read_many T)) (D_read_add : Def K mg "read_add" s_read_add ["names", "text"] f2 fd2) (G_read_add : FnOk P w K mg base CX0 k f2 fd2 ["names", "text"] (sp_read_add T)) (D_read_sold : Def K mg "read_sold" s_read_sold ["names", "text"] f3 fd3) (G_read_sold : FnOk P w K mg base CX0 k f3 fd3 ["names", "text"] (sp_read_sold T)) : FnOk P w K mg base CX0 (k + 1) f fd ["names", "text"] (sp_read_offer T) := by
  refine D.F.ok sc_read_offer (fun vs H Q E h => ?_) (fun cdv A outer s H vs Q E hr h => ?_)
  · obtain ⟨a, xs, o, rfl, _⟩ := h
    rfl
  · obtain ⟨a, xs, o, rfl, ha, g, ⟨tl, gs⟩, hT, q⟩ := h
    have ll := TellO.len g tl
    have nm : TL.tl ("many " : Str) ≠ [] := by rw [tl_manyW]; exact fun z => nomatch z
    have nw : TL.tl ("with " : Str) ≠ [] := by rw [tl_withW]; exact fun z => nomatch z
    refine ⟨_, (pss_cons (ps_if (pt_val (pe_m1 PySem.F.slot_str_startswith PySem.F.type_str_startswith mt_startswith (pv 1) pe_str))
   (pss_one (ps_ret (pe_call G_read_many hr (by rfl) D_read_many.g D_read_many.F.kp D_read_many.b .nil pass0 (pa_cons (pv 0) (pa_cons (pe_m1 PySem.F.slot_str_removeprefix PySem.F.type_str_removeprefix mt_removeprefix (pv 1) pe_str) pa_nil)))))
   pss_nil)
  (pss_cons (ps_if (pt_val (pe_m1 PySem.F.slot_str_startswith PySem.F.type_str_startswith mt_startswith (pv 1) pe_str))
   (pss_one (ps_ret (pe_call G_read_add hr (by rfl) D_read_add.g D_read_add.F.kp D_read_add.b .nil pass0 (pa_cons (pv 0) (pa_cons (pe_m1 PySem.F.slot_str_removeprefix PySem.F.type_str_removeprefix mt_removeprefix (pv 1) pe_str) pa_nil)))))
   pss_nil)
  (pss_cons (ps_asg (pe_call G_read_sold hr (by rfl) D_read_sold.g D_read_sold.F.kp D_read_sold.b .nil pass0 (pa_cons (pv 0) (pa_cons (pv 1) pa_nil))) (pg_tup rfl (pgs_cons (pg_name (i := 2) sc_read_offer.nd rfl (Or.inl rfl)) (pgs_cons (pg_name (i := 3) sc_read_offer.nd rfl (Or.inl rfl)) pgs_nil))))
  (pss_one (ps_ret (pe_tup (pa_cons pe_str (pa_cons (pv 2) (pa_cons (pv 3) pa_nil))))))))), ?_⟩
    cases o with
    | many c ts =>
      have e1 : Txt.startswith (offerS xs (.many c ts)) ("many " : Str) = true := starts_app _ _ nm
      have e2 : Txt.removeprefix (offerS xs (.many c ts)) ("many " : Str) = showM xs c ++ (": " : Str) ++ tiersS ts := remove_app _ _ nm
      refine ⟨_, rfl, ⟨_, rfl⟩, _, _, rfl, rfl, true, by rw [e1], ?_⟩
      refine ⟨_, rfl, _, rfl, ⟨_, rfl⟩, _, _, rfl, rfl, szL (by omega), a, xs, c, ts, by rw [e2]; rfl, ha, g, gs, tl.2, hT, q⟩
    | add c p k =>
      have e0 : Txt.startswith (offerS xs (.add c p k)) ("many " : Str) = false := starts_other (c := 119) (d := 109) (by show TL.tl (("with " : Str) ++ _) = _; rw [TL.tl_append, tl_withW]; rfl) tl_manyW (by decide)
      have e1 : Txt.startswith (offerS xs (.add c p k)) ("with " : Str) = true := starts_app _ _ nw
      have e2 : Txt.removeprefix (offerS xs (.add c p k)) ("with " : Str) = numS k.toNat ++ (": " : Str) ++ soldS xs c p := remove_app _ _ nw
      obtain ⟨fc, p0, p1, k0, k1⟩ := tl
      refine ⟨_, rfl, ⟨_, rfl⟩, _, _, rfl, rfl, false, by rw [e0], ?_⟩
      refine ⟨_, rfl, ⟨_, rfl⟩, _, _, rfl, rfl, true, by rw [e1], ?_⟩
      refine ⟨_, rfl, _, rfl, ⟨_, rfl⟩, _, _, rfl, rfl, szL (by omega), a, xs, c, p, k, by rw [e2]; rfl, ha, g, gs, p0, p1, k0, k1, hT, q⟩
    | pack c p =>
      obtain ⟨d, r, ed, d0, d1⟩ := Goods.head gs
      have et : ∃ r', TL.tl (offerS xs (.pack c p)) = d :: r' := ⟨r ++ TL.tl (" for " : Str) ++ TL.tl (numS p.toNat), by
        show TL.tl (showM xs c ++ (" for " : Str) ++ numS p.toNat) = _
        rw [TL.tl_append, TL.tl_append, show TL.tl (showM xs c) = d :: r from ed]
        rfl⟩
      obtain ⟨r', et⟩ := et
      have e0 : Txt.startswith (offerS xs (.pack c p)) ("many " : Str) = false := starts_other et tl_manyW (by omega)
      have e1 : Txt.startswith (offerS xs (.pack c p)) ("with " : Str) = false := starts_other et tl_withW (by omega)
      obtain ⟨fc, p0, p1⟩ := tl
      refine ⟨_, rfl, ⟨_, rfl⟩, _, _, rfl, rfl, false, by rw [e0], ?_⟩
      refine ⟨_, rfl, ⟨_, rfl⟩, _, _, rfl, rfl, false, by rw [e1], ?_⟩
      refine ⟨_, rfl, _, rfl, a, xs, c, p, rfl, ha, g, gs, p0, p1, hT, fun H1 u b E1 nb hu hb => ?_⟩
      refine ⟨u, _, rfl, SqT.of hu, rfl, _, _, rfl, _, _, rfl, rfl, ?_⟩
      refine ⟨_, rfl, _, rfl, by show 3 ≤ sizeLine; decide, fun v nv => ?_⟩
      exact q _ v [b] (E1.new (E1.free _ nv)) ⟨b, rfl, upd_same, (same_upd nv) _ _ hb⟩ (fun x hx => by rw [List.mem_singleton.mp hx]; exact nb) (List.nodup_cons.mpr ⟨by simp, List.nodup_nil⟩)
end
/-! ### len(set(xs)), xs a list of texts -/
def setHas (xs : List Str) (i : Nat) (k : Str) : Bool := (xs.take i).any (· == k)
theorem setHas_new {xs : List Str} (nd : xs.Nodup) {i : Nat} {x : Str} (h : xs[i]? = some x) : setHas xs i x = false := by
  unfold setHas
  rw [List.any_eq_false]
  intro y hy e
  have ey : y = x := by simpa using e
  subst ey
  obtain ⟨j, hj, ej⟩ := List.getElem_of_mem hy
  rw [List.length_take] at hj
  rw [List.getElem_take] at ej
  have : xs[j]? = xs[i]? := by rw [h, List.getElem?_eq_getElem (by omega), ej]
  have := (List.getElem?_inj (by omega) nd).mp this
  omega
theorem setHas_succ {xs : List Str} {i : Nat} {x : Str} (h : xs[i]? = some x) (k : Str) : (setHas xs i k || decide (k = x)) = setHas xs (i + 1) k := by
  unfold setHas
  rw [List.take_add_one, h, List.any_append]
  by_cases e : k = x
  · subst e
    simp
  · have : (x == k) = false := by simpa [beq_iff_eq] using fun z : x = k => e z.symm
    simp [this, e]
/-- how many unlike texts stand among the first i -/
def cntS (xs : List Str) : Nat → Nat
  | 0 => 0
  | i + 1 => cntS xs i + if setHas xs i (xs.getD i Str.empty) = true then 0 else 1
theorem cntS_le (xs : List Str) : ∀ i, cntS xs i ≤ i
  | 0 => Nat.le_refl _
  | i + 1 => by
    have := cntS_le xs i
    unfold cntS
    split <;> omega
theorem cntS_step {xs : List Str} {i : Nat} {x : Str} (h : xs[i]? = some x) : cntS xs (i + 1) = cntS xs i + if setHas xs i x = true then 0 else 1 := by
  have e : xs.getD i Str.empty = x := by rw [List.getD_eq_getElem?_getD, h]; rfl
  show cntS xs i + (if setHas xs i (xs.getD i Str.empty) = true then 0 else 1) = _
  rw [e]
theorem cntS_nd {xs : List Str} (nd : xs.Nodup) : ∀ i, i ≤ xs.length → cntS xs i = i
  | 0, _ => rfl
  | i + 1, hi => by
    have h : xs[i]? = some xs[i] := List.getElem?_eq_getElem (by omega)
    rw [cntS_step h, setHas_new nd h, cntS_nd nd i (by omega)]
    rfl
/-- as many unlike ones as there are: all are unlike -/
theorem cntS_all {xs : List Str} : ∀ i, i ≤ xs.length → cntS xs i = i → (xs.take i).Nodup
  | 0, _, _ => by simp
  | i + 1, hi, e => by
    have h : xs[i]? = some xs[i] := List.getElem?_eq_getElem (by omega)
    have le := cntS_le xs i
    rw [cntS_step h] at e
    cases z : setHas xs i xs[i] with
    | true =>
      rw [z, if_pos rfl] at e
      omega
    | false =>
      rw [z, if_neg Bool.false_ne_true] at e
      have ih := cntS_all (xs := xs) i (by omega) (by omega)
      rw [List.take_add_one, h]
      refine List.nodup_append.mpr ⟨ih, by simp, fun a ha b hb => ?_⟩
      have eb : b = xs[i] := by simpa using hb
      rw [eb]
      intro ea
      unfold setHas at z
      rw [List.any_eq_false] at z
      exact z a ha (by simp [ea])
theorem cntS_full {xs : List Str} (h : cntS xs xs.length = xs.length) : xs.Nodup := by
  have := cntS_all xs.length (Nat.le_refl _) h
  rwa [List.take_length] at this
section
variable {P : Program} {w : World} {A : Around} {R : Result → Shared → Prop} {It : Addr} {fp wr : List Addr} {G : Array GenState → Array GenState → Prop} {n : Nat} {Pv : Nat → Value → Prop} {St : Nat → Shared → Prop}
/-- a set that stands stays where only other objects move -/
theorem set_stays {h h' : Heap} {S : Addr} {has : Str → Bool} {m : Nat} (k : ∀ o, h.get? S = some o → h'.get? S = some o) (x : h.SetOf (PySem.strKind P w) S has m) : h'.SetOf (PySem.strKind P w) S has m :=
  x.elim fun o x => x.elim fun es x => x.elim fun ep x => x.elim fun t x => ⟨o, es, ep, t, k o x.1, x.2⟩
/-- the set grows text by text -/
theorem set_grows (W : WalksS P w A.in1 It fp wr G n Pv St) (S : Addr) (apart : S ∉ fp) {xs : List Str} (many : xs.length = n) (small : n + 1 < scanBound) (texts : ∀ i v, Pv i v → ∃ x t, xs[i]? = some x ∧ v = .str x t)
    (m : Nat) : ∀ (i : Nat) (s : Shared), i + m = n → St i s → s.heap.SetOf (PySem.strKind P w) S (setHas xs i) (cntS xs i) →
      (∀ s', Moved (S :: wr) G s s' → s'.heap.SetOf (PySem.strKind P w) S (setHas xs n) (cntS xs n) → R (.ok (.ret .none)) s') →
      codeAny (model P w) A (.builtin "set.update.loop" ⟨[.ref S, .ref It], []⟩) R s := by
  have own : S ∉ wr := fun z => apart (W.sub S z)
  have also : ∀ {s t}, Moved wr G s t → Moved (S :: wr) G s t := fun mv => mv.mono fun _ hb => .tail _ hb
  induction m with
  | zero =>
    intro i s at_ st set_ done_
    cases (show i = n from at_)
    refine codeAny_builtin F.entry_set_update_loop ?_
    rw [Around.under_plainId F.plain_set_update_loop _]
    exact wpAny_bind (W.done s _ _ st fun t mv => wpAny_pure (done_ t (also mv) (set_stays (fun o => mv.heap S o own) set_)))
  | succ m ih =>
    intro i s at_ st set_ done_
    refine codeAny_builtin F.entry_set_update_loop ?_
    rw [Around.under_plainId F.plain_set_update_loop _]
    refine wpAny_bind (W.item i s _ _ (by omega) st fun v t isV st1 mv => ?_)
    obtain ⟨x, tk, inXs, rfl⟩ := texts i v isV
    have few := cntS_le xs i
    refine wpAny_bind (wpAny_holding ?_)
    unfold setAdd
    refine wpAny_holding (wpAny_bind ((PySem.strKind P w).pyHash (k := x) (strKind_is _ _ _ _) ?_))
    refine wpAny_setAddHashed_of (knd := PySem.strKind P w) (s := { t with toks := t.toks + 1 }) (strKind_is _ _ _ _) rfl (set_stays (fun o => mv.heap S o own) set_) (by omega) fun h2 but longer => ?_
    have next_ : h2.SetOf (PySem.strKind P w) S (setHas xs (i + 1)) (cntS xs (i + 1)) := SetOf_congr longer (fun k => setHas_succ inXs k) (by rw [cntS_step inXs]; cases setHas xs i x <;> rfl)
    have stay : ∀ b ∈ fp, ∀ o, t.heap.get? b = some o → h2.get? b = some o := fun b hb o e => (but.2 b fun z => apart (z ▸ hb)).trans e
    refine wpAny_pure ⟨plainId_quiet F.plain_set_update_loop _, ih (i + 1) _ (by omega) (W.frame _ t _ _ st1 (Nat.le_succ _) stay) next_ fun u mv2 set2 => done_ u (Moved.trans W.gtrans ((also mv).then_heap (Nat.le_succ _) fun b o far e => ?_) mv2) set2⟩
    exact (but.2 b fun z => far (z ▸ List.mem_cons_self)).trans e
end
/-- an empty set -/
abbrev set0 (led : Bool) : Obj := { cls := .type "set", dict := none, data := .set #[] 0 (.fresh 0 0 led) }
section
variable {P : Program} {w : World} {A : Around} {E : Value → Shared → Prop} {s : Shared}
set_option maxHeartbeats 3200000 in
/-- set(v): what the new set's own __init__ makes of v is what comes -/
theorem call_set_init {v : Value} {Good : Shared → Prop} {Q : Value → Shared → Prop}
    (run : ∀ (A' : Around) (led : Bool), A'.handled = A.handled → codeAny (model P w) A' (.call (.builtin "set.__init__") ⟨[.ref s.heap.objs.size, v], []⟩) (wants (fun r t => r = .none ∧ Good t) E) { s with heap := s.heap.push (set0 led) })
    (h : ∀ t, Good t → Q (.ref s.heap.objs.size) t) : wpAny (model P w) A (call (.type "set") [v]) Q E s := by
  have kind := F.called_set
  obtain ⟨_, _, order⟩ := kind.mro
  have made := kind.made
  have under := kind.sub
  have noType := kind.notType
  have can := kind.canCreate
  have takes := F.typeCall_set_1 v
  have finds := kind.init.lookup
  have binds := kind.init.bind (.ref s.heap.objs.size)
  refine wpAny_call (codeAny_of_tree ?_)
  change wpAny _ _ (callAny (.type "set") ⟨[v], []⟩) _ _ _
  refine wpAny_pure ⟨Code.quiet_builtin _ (by decide +kernel), codeAny_builtin F.entry_type_call ?_⟩
  rw [Around.under_plain (weight_type_call_type "set" [v] []) rfl]
  repeat (any_goals (first | assumption | wp_step))
  refine codeAny_mono (code_set_new_1 v (E := E) (Q₁ := fun y t => ∃ led : Bool, y = .ref s.heap.objs.size ∧ t = { s with heap := s.heap.push (set0 led) }) fun led => ⟨led, rfl, rfl⟩) ?_
  rintro (er | fl) t isNew
  · exact isNew
  · cases fl
    case ret y =>
      obtain ⟨led, rfl, rfl⟩ := isNew
      have at_ : (s.heap.push (set0 led)).get? s.heap.objs.size = some (set0 led) := Heap.get?_push_size _ rfl
      have isSet : Shared.TypeIs { s with heap := s.heap.push (set0 led) } (.ref s.heap.objs.size) "set" := ⟨_, at_, rfl⟩
      repeat (any_goals (first | assumption | wp_step))
      refine codeAny_mono (run _ led (by simp)) ?_
      rintro (er | fl) t isDone
      · exact isDone
      · cases fl
        case ret y =>
          obtain ⟨rfl, good⟩ := isDone
          repeat (any_goals (first | assumption | wp_step))
          exact h t good
        all_goals exact isDone.elim
    all_goals exact isNew.elim
set_option maxHeartbeats 3200000 in
theorem call_set_strs {l : Addr} {items : Array Value} {xs : List Str} {Q : Value → Shared → Prop} (calm : A.handled = none) (isList : s.heap.IsList l items) (texts : StrsAre items.toList xs) (small : xs.length + 1 < scanBound)
    (h : ∀ (h' : Heap) (tk : Nat), h'.SetOf (PySem.strKind P w) s.heap.objs.size (setHas xs xs.length) (cntS xs xs.length) → (∀ b o, b < s.heap.objs.size → s.heap.get? b = some o → h'.get? b = some o) → Q (.ref s.heap.objs.size) { s with heap := h', toks := tk }) :
    wpAny (model P w) A (call (.type "set") [.ref l]) Q E s := by
  refine call_set_init (Good := fun t => ∃ h' tk, t = { s with heap := h', toks := tk } ∧ h'.SetOf (PySem.strKind P w) s.heap.objs.size (setHas xs xs.length) (cntS xs xs.length) ∧ ∀ b o, b < s.heap.objs.size → s.heap.get? b = some o → h'.get? b = some o)
    (fun A' led same => ?_) (by rintro _ ⟨h', tk, rfl, set_, more⟩; exact h h' tk set_ more)
  have at_ : (s.heap.push (set0 led)).get? s.heap.objs.size = some (set0 led) := Heap.get?_push_size _ rfl
  refine codeAny_call_builtin F.called_set.init.plain F.entry_set_init (check_set_init_1 ⟨_, at_, rfl⟩ ?_)
  have many : xs.length = items.size := by rw [← StrsAre.len_eq texts, Array.length_toList]
  have low : l < s.heap.objs.size := isList.elim fun _ x => Heap.lt_size x.1
  have isList1 : (s.heap.push (set0 led)).IsList l items := isList.push _
  obtain ⟨⟨kind, dict, data, slots⟩, there, isL, n, isSeq⟩ := id isList1
  dsimp only at isL isSeq
  subst isL isSeq
  have noSet := F.sub_list_set
  have noFrozen := F.sub_list_frozenset
  have noDict : (Value.type "list" == Value.type "dict") = false := by decide
  unfold Builtin.«set.__init__» noKeywords Builtin.Frozenset.updateFrom
  generalize iter_ : pyIter = PI
  wp_walk
  subst iter_
  refine wpAny_pyIter_list isList1 (wpAny_bind (wpAny_runValue ?_))
  have walks := (Walks.list (prog := P) (w := w) (show A'.in1.in1.handled = none by simpa [calm] using same) (s.heap.push (set0 led)).objs.size l (by rw [Heap.size_push]; exact Nat.ne_of_lt (Nat.lt_succ_of_lt low)) items).toS
  refine set_grows walks s.heap.objs.size ?_ many (by omega) (fun i v isV => ?_) items.size 0 _ (Nat.zero_add _) ?_ ?_ fun t mv set_ => ?_
  · rw [Heap.size_push]
    exact fun z => (List.mem_cons.mp z).elim (fun e => Nat.succ_ne_self _ e.symm) fun z => Nat.ne_of_gt low (List.mem_singleton.mp z)
  · have inList : items.toList[i]? = some v := (Array.getElem?_toList ..).trans isV
    obtain ⟨t, rfl⟩ := SS.strs_at texts i v inList
    have li : i < xs.length := many ▸ (Array.getElem?_eq_some_iff.mp isV).1
    exact ⟨xs[i], t, List.getElem?_eq_getElem li, congrArg (Value.str · t) (by rw [List.getD_eq_getElem?_getD, List.getElem?_eq_getElem li]; rfl)⟩
  · exact ⟨⟨_, Heap.get?_push_size _ rfl, rfl, rfl⟩, isList1.push _⟩
  · have old : ((s.heap.push (set0 led)).push { cls := .type "list_iterator", data := .fields #[.ref l, .int 0 0] }).get? s.heap.objs.size = some (set0 led) := Heap.get?_push_of_some _ at_
    exact SetOf_congr ((setObjOf_fresh (knd := PySem.strKind P w) led).setOf old (by unfold scanBound; omega)) (fun _ => rfl) rfl
  · obtain ⟨h3, g3, d3, t3, o3⟩ := t
    cases (show g3 = s.gens from mv.gens)
    cases (show d3 = s.drawn from mv.drawn)
    cases (show o3 = s.os from mv.os)
    refine wpAny_pure (wpAny_pure ⟨rfl, h3, t3, rfl, many ▸ set_, fun b o lb e => ?_⟩)
    refine mv.heap b o ?_ (Heap.get?_push_of_some _ (Heap.get?_push_of_some _ e))
    rw [Heap.size_push]
    exact fun z => (List.mem_cons.mp z).elim (Nat.ne_of_lt lb) fun z => Nat.ne_of_lt (Nat.lt_succ_of_lt lb) (List.mem_singleton.mp z)
end
def tLenSetN (K : PySem.W.Frag) (ta : TE) : TE := fun σ H Q => ta σ H fun x H1 => ∃ l, ∃ xs : List Str, x = .ref l ∧ SqL K H1 l (xs.map V.str) ∧ xs.Nodup ∧ xs.length ≤ 1000 ∧ Q (.int xs.length) H1
theorem pe_lenSetN {X : Cx} {a : Expr} {ta : TE} {p p2 q pos : Pos} (hc : X.calm = true) (hg : Gl X "len") (hm : X.mg "len" = none) (hg2 : Gl X "set") (hm2 : X.mg "set" = none) (ha : PE X a ta)
    (na : starEach [a] X.env = (false, eval a X.env) :: starEach [] X.env := by rfl) : PE X (.Call (.Name "len" p) [.Call (.Name "set" p2) [a] [] q] [] pos) (tLenSetN X.K ta) := by
  refine ⟨fun pins s σ H Q I h => Call_ (ld_blt I hg hm boot_len (callWith_builtin1 (args_cons (Call_ (ld_blt I hg2 hm2 boot_set (callWith_type1 (args_cons (thn (ha.run pins s σ H _ I h) fun v s1 ⟨x, H1, I1, r1, q1⟩ => args_nil ?_) na) na rfl))) rfl) rfl rfl))⟩
  obtain ⟨l, xs, rfl, hq, nd, hl, q1⟩ := q1
  cases r1
  obtain ⟨its, r, pl, hz⟩ := I1.list hq
  refine call_set_strs (I1.ok.hd hc) pl.isList (by simpa using strsAre_of r) (by unfold scanBound; omega) fun h' tk hS hk => args_nil ?_
  rw [cntS_nd nd _ (Nat.le_refl _)] at hS
  obtain ⟨o, es, ep, t, ho, hex, hd, _, _, _, hf, hn⟩ := hS
  have I2 : Inv X pins σ H1 { s1 with heap := h', toks := tk } := I1.kept fun b o e => hk b o (Heap.lt_size e) e
  exact call_len_set ho hex hd hf (by rw [hn] <;> omega) ⟨.int xs.length, H1, I2.tok _, ⟨_, by rw [hn]⟩, q1⟩
/-! ### class Desk: its data -/
def namesS (xs : List Str) : Str := Str.join (" " : Str) xs
theorem names_split {xs : List Str} (g : GoodN xs) (ne : xs ≠ []) : Txt.split (namesS xs) (" " : Str) = xs := by
  unfold namesS
  rw [← TL.join_eq]
  refine TL.split_join tl_blank (by decide +kernel) ne fun p hp z => ?_
  have := g.small p hp 32 z
  omega
theorem join_len8 (y : Str) : ∀ ps : List Str, (∀ p ∈ ps, p.length ≤ 8) → (Str.join y ps).length ≤ ps.length * (8 + y.length)
  | [], _ => by rw [TL.len_tl, TL.tl_join]; exact Nat.zero_le _
  | [p], h => by
    have h1 := h p List.mem_cons_self
    rw [TL.len_tl, TL.tl_join]
    show (TL.tl p).length ≤ 1 * _
    rw [← TL.len_tl]
    omega
  | p :: q :: r, h => by
    have h1 := h p List.mem_cons_self
    have h2 := join_len8 y (q :: r) fun x hx => h x (List.mem_cons_of_mem _ hx)
    rw [TL.len_tl, TL.tl_join] at h2 ⊢
    show (TL.tl p ++ (TL.tl y ++ TL.joinL (TL.tl y) ((q :: r).map TL.tl))).length ≤ _
    rw [List.length_append, List.length_append, ← TL.len_tl, ← TL.len_tl]
    rw [List.length_cons, Nat.succ_mul]
    omega
theorem names_len {xs : List Str} (g : GoodN xs) : (namesS xs).length ≤ 36 := by
  have h := join_len8 (" " : Str) xs g.short
  have f := g.few
  have b : (" " : Str).length = 1 := by decide +kernel
  rw [b] at h
  unfold namesS
  omega
theorem made_name {xs : List Str} (g : GoodN xs) {x : Str} (h : x ∈ xs) : madeM ("abcdefghijklmnopqrstuvwxyz" : Str) x 8 = true := by
  unfold madeM
  have h1 := g.short x h
  have h2 := g.some x h
  rw [if_pos ⟨h2, by omega⟩]
  refine List.all_eq_true.mpr fun c hc => decide_eq_true ?_
  have b := g.small x h c hc
  have e : ("abcdefghijklmnopqrstuvwxyz" : Str).cps.toList = (List.range 26).map (97 + ·) := by decide +kernel
  rw [e]
  exact List.mem_map.mpr ⟨c - 97, List.mem_range.mpr (by omega), by omega⟩
abbrev s_read_names : Stmt := topS 59
abbrev N_read_names : List Str := ["text", "names", "name"]
theorem sc_read_names : FnScope N_read_names ["text"] (defScope s_read_names) := ⟨rfl, rfl, rfl, by decide +kernel, rfl, by decide +kernel, by decide +kernel⟩

def sp_read_names (T : List Addr) : Sp := fun vs H Q _ => ∃ xs : List Str, vs = [.str (namesS xs)] ∧ GoodN xs ∧ xs ≠ [] ∧ Tb T H ∧ ∀ H' p, Ext T H H' → H p = none → H' p = some (LS xs) → Q (.ref p) H'
section
variable {P : Program} {w : World} {K : PySem.W.Frag} {mg : Str → Option Value} {base : Heap} {T : List Addr}
theorem ok_read_names {f f1 c t : Addr} {fd fd1 : FuncData} {k : Nat} (M : Names mg) (D : Def K mg "read_names" s_read_names ["text"] f fd) (D_made_of : Def K mg "made_of" s_made_of ["signs", "text", "most"] f1 fd1) (G_made_of : FnOk P w K mg base CX0 (k + 1) f1 fd1 ["signs", "text", "most"] (sp_made_of T)) (hc : fd.code = .ref c) (TB : GxR.TabB base mg c t) (ht : t ∈ T) : FnOk P w K mg base CX0 (k + 3) f fd ["text"] (sp_read_names T) := by
  refine okc D.F hc sc_read_names (fun vs H Q E h => ?_) (fun cdv A outer s H vs Q E ec hr h => ?_)
  · obtain ⟨xs, rfl, _⟩ := h
    rfl
  · obtain ⟨xs, rfl, g, ne, hT, q⟩ := h
    obtain ⟨_, m_MOST_THINGS⟩ := M.c_MOST_THINGS
    obtain ⟨_, m_MOST_LETTERS⟩ := M.c_MOST_LETTERS
    obtain ⟨_, m_SMALL_LETTERS⟩ := M.c_SMALL_LETTERS
    have nl := names_len g
    have few := g.few
    refine ⟨_, (pss_cons (ps_set (i := 1) sc_read_names.nd rfl (Or.inl rfl) (pe_split (pv 0) pe_str))
  (pss_cons (ps_if (PW.pt (pw_or (pt_cmpR op_gt (pe_callB call_len_seq (by rfl) M.len (by decide +kernel) (pa_cons (pv 1) pa_nil)) (pe_glob (v := .int 4) (by rfl) m_MOST_THINGS ⟨_, rfl⟩) (nomark _)) (pw_or1 (pt_cmpR op_lt (pe_lenSetN rfl (by rfl) M.len (by rfl) M.set (pv 1)) (pe_callB call_len_seq (by rfl) M.len (by decide +kernel) (pa_cons (pv 1) pa_nil)) (nomark _)))))
   (pss_one ps_never)
   pss_nil)
  (pss_cons (ps_if (pt_not (pt_val (pe_gAll (own := [("name", 2)]) hr (by rfl) M.all (by decide +kernel) TB ec ⟨(blkOk_by (own := [("name", 2)]) (N := N_read_names) (sc := defScope s_read_names) (by decide +kernel)), rfl, by decide +kernel, rfl⟩ sc_read_names.nd (pi_list (pv 1)) (fun _ _ _ _ _ _ _ _ => (pg_name (i := 2) sc_read_names.nd rfl (Or.inl rfl))) (fun _ _ _ _ _ _ _ _ hg => (pe_call G_made_of hg (by rfl) D_made_of.g D_made_of.F.kp D_made_of.b .nil pass0 (pa_cons (pe_glob (v := .str "abcdefghijklmnopqrstuvwxyz") (by rfl) m_SMALL_LETTERS ⟨_, rfl⟩) (pa_cons (pv 2) (pa_cons (pe_glob (v := .int 8) (by rfl) m_MOST_LETTERS ⟨_, rfl⟩) pa_nil))))))))
   (pss_one ps_never)
   pss_nil)
  (pss_one (ps_ret (pv 1)))))), ?_⟩
    refine ⟨_, rfl, ⟨_, rfl⟩, _, _, rfl, rfl, by decide +kernel, szL (by omega), fun L nL => ?_⟩
    rw [names_split g ne]
    have s1 := same_upd (o := LS xs) nL
    have e1 : Ext T H _ := .same s1 hT
    have hL : upd H L (LS xs) L = some (LS xs) := upd_same
    generalize upd H L (LS xs) = H1 at s1 e1 hL ⊢
    refine ⟨_, rfl, L, _, rfl, .inl (SqL.of hL), _, _, rfl, rfl, false, (by show V.bl (decide _) = V.bl false; rw [List.length_map, decide_eq_false (by omega)]), _, rfl, L, xs, rfl, SqL.of hL, g.nd, by omega, _, rfl, L, _, rfl, .inl (SqL.of hL), _, _, rfl, rfl, false, (by show V.bl (decide _) = V.bl false; rw [List.length_map, decide_eq_false (by omega)]), ?_⟩
    refine ⟨_, rfl, L, rfl, ⟨_, SqL.of hL⟩, e1.t1 t ht, fun H2 tb2 => ?_⟩
    have e12 : Ext T H1 H2 := .tabbed e1.t1 tb2 ht
    have hL2 := e12.lst hL
    refine ⟨xs.length, fun i H' => Ext T H2 H', fun i y H' => Ext T H2 H' ∧ y = .bl true, .refl e12.t1, fun H3 hp => ⟨_, SqL.of (hp.lst hL2), by rw [List.length_map]; exact Nat.le_refl _⟩, fun i H3 hi hp => ?_, fun H3 hp => ?_, fun i y H3 hp => ?_⟩
    · have hu : xs[i]? = some xs[i] := List.getElem?_eq_getElem hi
      have xm := List.mem_of_getElem? hu
      generalize xs[i] = x at hu xm
      refine ⟨⟨_, .str x, SqL.of (hp.lst hL2), by rw [List.getElem?_map, hu]; rfl⟩, fun v H4 hy => ?_⟩
      obtain ⟨e4, hy⟩ := hy
      subst e4
      have ev := hy _ (SqL.of (hp.lst hL2))
      rw [List.getElem?_map, hu] at ev
      cases Option.some.inj ev
      have sh := g.short x xm
      refine ⟨rfl, _, rfl, ("abcdefghijklmnopqrstuvwxyz" : Str), x, 8, rfl, szL (by omega), hp.t1, fun H5 e5 => ⟨hp.trans e5, ?_⟩⟩
      rw [made_name g xm]
    · exact ⟨true, rfl, _, rfl, q H3 L (e1.trans (e12.trans hp)) nL (hp.lst hL2)⟩
    · obtain ⟨e3, rfl⟩ := hp
      exact ⟨_, rfl, e3⟩
end
/-! ### fields looked up -/
theorem lk_here {k : Str} {x : V} {l : List (Str × V)} : ((k, x) :: l).lookup k = some x := by
  simp only [List.lookup, BEq.rfl]
theorem lk_cons {k x1 : Str} {x2 : V} {l : List (Str × V)} (h : (k == x1) = false) : ((x1, x2) :: l).lookup k = l.lookup k := by
  simp only [List.lookup]
  rw [h]
theorem pf_here {k : Str} {v w : V} {l : List (Str × V)} : putF k v ((k, w) :: l) = (k, v) :: l := by
  show (if k = k then _ else _) = _
  rw [if_pos rfl]
theorem pf_cons {k x1 : Str} {v x2 : V} {l : List (Str × V)} (h : ¬ x1 = k) : putF k v ((x1, x2) :: l) = (x1, x2) :: putF k v l := by
  show (if x1 = k then _ else _) = _
  rw [if_neg h]
theorem pa_starK {X : Cx} {K : PySem.W.Frag} {e : Expr} {es : List Expr} {te : TE} {t : TA} {p : Pos} (h : X.K = K) (he : PE X e te) (hr : PA X es t) (hs : starEach (.Starred e p :: es) X.env = (true, eval e X.env) :: starEach es X.env := by rfl) : PA X (.Starred e p :: es) (StX.tStar K te t) := by
  subst h
  exact StX.pa_star he hr hs
/-! ### class Desk: fields, where a desk stands, what changes -/
def deskF (nv : V) (S : Addr) : List (Str × V) := [("names", nv), ("shop", .ref S)]
section
variable {nv nv' : V} {S S' : Addr}
theorem df_names : (deskF nv S).lookup ("names" : Str) = some nv := lk_here
theorem df_shop : (deskF nv S).lookup ("shop" : Str) = some (.ref S) := (lk_cons (by decide +kernel)).trans lk_here
theorem df_no {m : Str} (h1 : (m == ("names" : Str)) = false) (h2 : (m == ("shop" : Str)) = false) : (deskF nv S).lookup m = none := by
  unfold deskF
  rw [lk_cons h1, lk_cons h2]
  rfl
theorem df_setn : putF "names" nv' (deskF nv S) = deskF nv' S := by
  unfold deskF
  rw [pf_here]
theorem df_sets : putF "shop" (.ref S') (deskF nv S) = deskF nv S' := by
  unfold deskF
  rw [pf_cons (by decide +kernel), pf_here]
theorem df_new : putF "shop" (.ref S) [("names", nv)] = deskF nv S := by
  rw [pf_cons (by decide +kernel)]
  rfl
end
structure DeskT (K : PySem.W.Frag) (mg : Str → Option Value) (C : Addr) : Prop where
  cl : Cls K C
  nn : NoAttr K C "names"
  ns : NoAttr K C "shop"
  mgC : mg "Desk" = some (.ref C)
/-- the words, and what is asked by which def -/
structure DeskW (K : PySem.W.Frag) (w : World) (mg : Str → Option Value) (aW aA aQ fc fb fv : Addr) : Prop where
  gW : mg "WORDS" = some (.ref aW)
  gA : mg "WORDS_ALONE" = some (.ref aA)
  gQ : mg "QUESTIONS" = some (.ref aQ)
  W : ∀ H, SqT K H aW [.str "things", .str "offer", .str "drop", .str "shop", .str "cost", .str "buy", .str "value", .str "spare"]
  A : ∀ H, SqT K H aA [.str "shop", .str "spare"]
  Qc : KDct K w aQ "cost" (.ref fc)
  Qb : KDct K w aQ "buy" (.ref fb)
  Qv : KDct K w aQ "value" (.ref fv)
/-- all but the desk stays -/
structure Chg (T : List Addr) (D : Addr) (H H' : Hp) : Prop where
  ke : ∀ b o, b ≠ D → H b = some o → (∀ ps, o ≠ .tbl ps) → H' b = some o
  t1 : Tb T H'
  free : ∀ b, H' b = none → H b = none
theorem Chg.trans {T : List Addr} {D : Addr} {H H1 H2 : Hp} (a : Chg T D H H1) (b : Chg T D H1 H2) : Chg T D H H2 := ⟨fun c o n e m => b.ke c o n (a.ke c o n e m) m, b.t1, fun c e => a.free c (b.free c e)⟩
theorem Chg.ext {T : List Addr} {D : Addr} {H H' : Hp} (e : Ext T H H') : Chg T D H H' := ⟨fun b o _ h n => e.ext b o h n, e.t1, e.free⟩
theorem Chg.upd {T : List Addr} {D C dx : Addr} {fs fs' : List (Str × V)} {H : Hp} (h : H D = some (.ins C dx fs)) (hT : Tb T H) : Chg T D H (upd H D (.ins C dx fs')) := by
  refine ⟨fun b o n e _ => by rw [upd_ne n]; exact e, fun t ht => ?_, fun b e => ?_⟩
  · obtain ⟨ps, h1, h2⟩ := hT t ht
    exact ⟨ps, by rw [upd_ne (fun z => by rw [z, h] at h1; cases h1)]; exact h1, h2⟩
  · by_cases z : b = D
    · rw [z, upd_same] at e
      cases e
    · rw [upd_ne z] at e
      exact e
theorem Chg.kec {T : List Addr} {D : Addr} {H H' : Hp} (c : Chg T D H H') : Ke (cutH D H) (cutH D H') := fun b o e n => by
  obtain ⟨h1, h2⟩ := cut_some e
  exact cut_put h1 (c.ke b o h1 h2 n)
theorem Chg.lst {T : List Addr} {D : Addr} {H H' : Hp} (c : Chg T D H H') {a : Addr} {xs : List V} (n : a ≠ D) (h : H a = some (.lst xs)) : H' a = some (.lst xs) := c.ke a _ n h fun _ z => nomatch z
/-- a desk: its names and its shop stand apart from it -/
def DeskAt (C : Addr) (H : Hp) (D : Addr) (xs : List Str) (os : List Ofr) : Prop := ∃ dx na S, H D = some (.ins C dx (deskF (.ref na) S)) ∧ H na = some (LS xs) ∧ ShopAt H S os
/-- a desk without names -/
def DeskNo (C : Addr) (H : Hp) (D : Addr) : Prop := ∃ dx S, H D = some (.ins C dx (deskF .non S)) ∧ H S = some (.lst [])
theorem DeskAt.ke {C : Addr} {H H' : Hp} {D : Addr} {xs : List Str} {os : List Ofr} (e : Ke H H') (h : DeskAt C H D xs os) : DeskAt C H' D xs os := by
  obtain ⟨dx, na, S, h1, h2, h3⟩ := h
  exact ⟨dx, na, S, e _ _ h1 (fun _ z => nomatch z), e.lst h2, h3.ke e⟩
theorem DeskAt.all {C d : Addr} {H : Hp} {D : Addr} {xs : List Str} {os : List Ofr} (h : DeskAt C (cutH d H) D xs os) : DeskAt C H D xs os := h.ke (.of cut_le)
theorem DeskAt.but {C d : Addr} {H H' : Hp} {D : Addr} {xs : List Str} {os : List Ofr} (s : SameBut d H H') (h : DeskAt C (cutH d H) D xs os) : DeskAt C (cutH d H') D xs os := h.ke (.of (cut_same s))
theorem OwnO.cut {H : Hp} {v d : Addr} {ds : List V} (hd : H d = some (.lst ds)) : ∀ {o : Ofr} {S : List Addr}, d ∉ S → OwnO H v o S → OfrAt (cutH d H) v o
  | .pack _ _, _, n, ⟨b, h0, h1, h2⟩ => by
    subst h0
    exact ⟨b, cut_put (ne_of h1 hd (fun z => nomatch z)) h1, cut_put (fun e => n (by rw [← e]; exact List.mem_cons_self)) h2⟩
  | .many _ _, _, n, ⟨b, t, h0, h1, h2, us, h3, h4, h5⟩ => by
    subst h0
    exact ⟨b, t, cut_put (ne_of h1 hd (fun z => nomatch z)) h1, cut_put (fun e => n (by rw [← e]; exact List.mem_cons_self)) h2, us, cut_put (fun e => n (by rw [← e]; exact List.mem_cons_of_mem _ List.mem_cons_self)) h3, h4, fun i u tt a b => cut_put (ne_of (h5 i u tt a b) hd (fun z => nomatch z)) (h5 i u tt a b)⟩
  | .add _ _ _, _, n, ⟨b, h0, h1, h2⟩ => by
    subst h0
    exact ⟨b, cut_put (ne_of h1 hd (fun z => nomatch z)) h1, cut_put (fun e => n (by rw [← e]; exact List.mem_cons_self)) h2⟩
theorem DeskNo.ke {C : Addr} {H H' : Hp} {D : Addr} (e : Ke H H') (h : DeskNo C H D) : DeskNo C H' D := by
  obtain ⟨dx, S, h1, h2⟩ := h
  exact ⟨dx, S, e _ _ h1 (fun _ z => nomatch z), e.lst h2⟩
theorem OfrAt.offI {H : Hp} {D C dx : Addr} {fs : List (Str × V)} (hD : H D = some (.ins C dx fs)) {v : Addr} : ∀ {o : Ofr}, OfrAt H v o → OfrAt (cutH D H) v o
  | .pack _ _, ⟨b, h1, h2⟩ => ⟨b, cut_put (ne_of h1 hD (fun z => nomatch z)) h1, cut_put (ne_of h2 hD (fun z => nomatch z)) h2⟩
  | .many _ _, ⟨b, t, h1, h2, us, h3, h4, h5⟩ => ⟨b, t, cut_put (ne_of h1 hD (fun z => nomatch z)) h1, cut_put (ne_of h2 hD (fun z => nomatch z)) h2, us, cut_put (ne_of h3 hD (fun z => nomatch z)) h3, h4, fun i u x a b => by
    have e := h5 i u x a b
    exact cut_put (ne_of e hD (fun z => nomatch z)) e⟩
  | .add _ _ _, ⟨b, h1, h2⟩ => ⟨b, cut_put (ne_of h1 hD (fun z => nomatch z)) h1, cut_put (ne_of h2 hD (fun z => nomatch z)) h2⟩
/-- no part of a shop is an instance -/
theorem ShopAt.offI {H : Hp} {D C dx : Addr} {fs : List (Str × V)} (hD : H D = some (.ins C dx fs)) {S : Addr} {os : List Ofr} (h : ShopAt H S os) : ShopAt (cutH D H) S os := by
  obtain ⟨vs, h1, h2, h3⟩ := h
  exact ⟨vs, cut_put (ne_of h1 hD (fun z => nomatch z)) h1, h2, fun i v o a b => (h3 i v o a b).offI hD⟩
/-! its methods -/
abbrev s_Desk_init : Stmt := inClass (topS 80) 0
abbrev N_Desk_init : List Str := ["self"]
theorem sc_Desk_init : FnScope N_Desk_init ["self"] (defScope s_Desk_init) := ⟨rfl, rfl, rfl, by decide +kernel, rfl, by decide +kernel, by decide +kernel⟩

abbrev s_Desk_take_names : Stmt := inClass (topS 80) 3
abbrev N_Desk_take_names : List Str := ["self", "names"]
theorem sc_Desk_take_names : FnScope N_Desk_take_names ["self", "names"] (defScope s_Desk_take_names) := ⟨rfl, rfl, rfl, by decide +kernel, rfl, by decide +kernel, by decide +kernel⟩

abbrev s_Desk_put_last : Stmt := inClass (topS 80) 4
abbrev N_Desk_put_last : List Str := ["self", "offer", "shop"]
theorem sc_Desk_put_last : FnScope N_Desk_put_last ["self", "offer"] (defScope s_Desk_put_last) := ⟨rfl, rfl, rfl, by decide +kernel, rfl, by decide +kernel, by decide +kernel⟩

def sp_dinit (C : Addr) : Sp := fun vs H Q _ => ∃ (x dx : Addr), vs = [.ref x] ∧ H x = some (.ins C dx []) ∧ ∀ H' S, SameBut x H H' → H S = none → H' x = some (.ins C dx (deskF .non S)) → H' S = some (.lst []) → Q .non H'
/-- d: a list that is no part of the desk -/
def sp_take_names (T : List Addr) (C : Addr) : Sp := fun vs H Q _ => ∃ (D na dx S d : Addr) (nv : V) (xs : List Str) (ds : List V), vs = [.ref D, .ref na] ∧ H D = some (.ins C dx (deskF nv S)) ∧ H d = some (.lst ds) ∧ cutH d H na = some (LS xs) ∧ Tb T H ∧ ∀ H', Chg T D H H' → DeskAt C (cutH d H') D xs [] → Q (.str "ok") H'
def sp_put_last (T : List Addr) (C : Addr) : Sp := fun vs H Q _ => ∃ (D v d : Addr) (xs : List Str) (os : List Ofr) (o : Ofr) (ds : List V), vs = [.ref D, .ref v] ∧ H d = some (.lst ds) ∧ DeskAt C (cutH d H) D xs os ∧ OfrAt (cutH d H) v o ∧ Good (os ++ [o]) ∧ Tb T H ∧ ∀ H', Chg T D H H' → DeskAt C (cutH d H') D xs (os ++ [o]) → Q (.str "ok") H'
section
variable {P : Program} {w : World} {K : PySem.W.Frag} {mg : Str → Option Value} {base : Heap} {T : List Addr}
theorem ok_dinit {f C : Addr} {fd : FuncData} {k : Nat} (M : Names mg) (F : Fun K "__init__" "Desk.__init__" s_Desk_init f fd) (T_Desk : DeskT K mg C) : FnOk P w K mg base CX0 (k + 1) f fd ["self"] (sp_dinit C) := by
  refine F.ok sc_Desk_init (fun vs H Q E h => ?_) (fun cdv A outer s H vs Q E hr h => ?_)
  · obtain ⟨x, dx, rfl, _⟩ := h
    rfl
  · obtain ⟨x, dx, rfl, hx, q⟩ := h
    refine ⟨_, (pss_cons (ps_fld (pv 0) pe_non rfl)
  (pss_one (ps_fld (pv 0) (pe_lst pa_nil) rfl))), ?_⟩
    refine ⟨_, rfl, x, C, dx, _, rfl, hx, T_Desk.cl, T_Desk.nn, (by show 0 < 1000; decide), ?_⟩
    have e1 : putF ("names" : Str) V.non [] = ([("names", V.non)] : List (Str × V)) := rfl
    rw [e1]
    have hx1 : upd H x (.ins C dx [("names", .non)]) x = some (.ins C dx [("names", .non)]) := upd_same
    have b1 : SameBut x H (upd H x (.ins C dx [("names", .non)])) := .upd
    generalize upd H x (.ins C dx [("names", .non)]) = H1 at hx1 b1 ⊢
    refine ⟨Nat.zero_le _, fun S nS => ?_⟩
    have s2 := same_upd (o := .lst []) nS
    have hS2 : upd H1 S (.lst []) S = some (.lst []) := upd_same
    have hx2 := s2 _ _ hx1
    generalize upd H1 S (.lst []) = H2 at s2 hS2 hx2 ⊢
    refine ⟨_, rfl, x, C, dx, _, rfl, hx2, T_Desk.cl, T_Desk.ns, (by show 1 < 1000; decide), ?_⟩
    rw [df_new]
    have nSx : S ≠ x := ne_of hS2 hx2 (fun z => nomatch z)
    refine q _ S ((b1.trans (.of s2)).trans .upd) (b1.free nS (by rw [hx1]; exact fun z => nomatch z)) upd_same ?_
    rw [upd_ne nSx]
    exact hS2
theorem ok_take_names {f C : Addr} {fd : FuncData} {k : Nat} (M : Names mg) (F : Fun K "take_names" "Desk.take_names" s_Desk_take_names f fd) (T_Desk : DeskT K mg C) : FnOk P w K mg base CX0 (k + 1) f fd ["self", "names"] (sp_take_names T C) := by
  refine F.ok sc_Desk_take_names (fun vs H Q E h => ?_) (fun cdv A outer s H vs Q E hr h => ?_)
  · obtain ⟨D, na, dx, S, d, nv, xs, ds, rfl, _⟩ := h
    rfl
  · obtain ⟨D, na, dx, S, d, nv, xs, ds, rfl, hD, hd, hnac, hT, q⟩ := h
    obtain ⟨nnd, hna⟩ := cut_some hnac
    have nDd : D ≠ d := ne_of hD hd (fun z => nomatch z)
    have nnD : na ≠ D := ne_of hna hD (fun z => nomatch z)
    refine ⟨_, (pss_cons (ps_fld (pv 0) (pv 1) rfl)
  (pss_cons (ps_fld (pv 0) (pe_lst pa_nil) rfl)
  (pss_one (ps_ret pe_str)))), ?_⟩
    refine ⟨_, rfl, _, rfl, D, C, dx, _, rfl, hD, T_Desk.cl, T_Desk.nn, (by show 2 < 1000; decide), ?_⟩
    rw [df_setn]
    have c1 : Chg T D H (upd H D (.ins C dx (deskF (.ref na) S))) := .upd hD hT
    have hD1 : upd H D (.ins C dx (deskF (.ref na) S)) D = some (.ins C dx (deskF (.ref na) S)) := upd_same
    have hna1 := c1.lst nnD hna
    have hd1 := c1.lst nDd.symm hd
    generalize upd H D (.ins C dx (deskF (.ref na) S)) = H1 at c1 hD1 hna1 hd1 ⊢
    refine ⟨Nat.zero_le _, fun S' nS => ?_⟩
    have nSd : S' ≠ d := (ne_of_none hd1 nS).symm
    have s2 := same_upd (o := .lst []) nS
    have hS2 : upd H1 S' (.lst []) S' = some (.lst []) := upd_same
    have hD2 := s2 _ _ hD1
    have hna2 := s2 _ _ hna1
    have e2 : Ext T H1 _ := .same s2 c1.t1
    generalize upd H1 S' (.lst []) = H2 at s2 hS2 hD2 hna2 e2 ⊢
    refine ⟨_, rfl, D, C, dx, _, rfl, hD2, T_Desk.cl, T_Desk.ns, (by show 2 < 1000; decide), ?_⟩
    rw [df_sets]
    have c3 : Chg T D H2 (upd H2 D (.ins C dx (deskF (.ref na) S'))) := .upd hD2 e2.t1
    refine q _ ((c1.trans (.ext e2)).trans c3) ⟨dx, na, S', cut_put nDd upd_same, cut_put nnd (c3.lst nnD hna2), [], cut_put nSd ?_, rfl, fun i v o h => by simp at h⟩
    exact c3.lst (ne_of hS2 hD2 (fun z => nomatch z)) hS2
theorem ok_put_last {f f1 C : Addr} {fd fd1 : FuncData} {k : Nat} (M : Names mg) (F : Fun K "put_last" "Desk.put_last" s_Desk_put_last f fd) (T_Desk : DeskT K mg C) (D_look : Def K mg "look" s_look ["shop"] f1 fd1) (G_look : FnOk P w K mg base CX0 k f1 fd1 ["shop"] (sp_look T)) : FnOk P w K mg base CX0 (k + 1) f fd ["self", "offer"] (sp_put_last T C) := by
  refine F.ok sc_Desk_put_last (fun vs H Q E h => ?_) (fun cdv A outer s H vs Q E hr h => ?_)
  · obtain ⟨D, v, d, xs, os, o, ds, rfl, _⟩ := h
    rfl
  · obtain ⟨D, v, d, xs, os, o, ds, rfl, hd, ⟨dx, na, S, hDc, hnac, hS⟩, ho, gd, hT, q⟩ := h
    obtain ⟨nDd, hD⟩ := cut_some hDc
    obtain ⟨nnd, hna⟩ := cut_some hnac
    obtain ⟨_, m_MOST_OFFERS⟩ := M.c_MOST_OFFERS
    obtain ⟨vs, k1c, alv⟩ := id hS.al
    have k1 := (cut_some k1c).2
    have lv := alv.len
    have h8 := gd.1
    rw [List.length_append, List.length_singleton] at h8
    have nnD : na ≠ D := ne_of hna hD (fun z => nomatch z)
    refine ⟨_, (pss_cons (ps_if (pt_cmpR op_ge (pe_callB call_len_seq (by rfl) M.len (by decide +kernel) (pa_cons (pe_fld (pv 0) rfl) pa_nil)) (pe_glob (v := .int 8) (by rfl) m_MOST_OFFERS ⟨_, rfl⟩) (nomark _))
   pss_never
   pss_nil)
  (pss_cons (ps_set (i := 2) sc_Desk_put_last.nd rfl (Or.inl rfl) (pe_lst (pa_starK (K := K) rfl (pe_fld (pv 0) rfl) (pa_cons (pv 1) pa_nil))))
  (pss_cons (ps_expr (pe_call G_look hr (by rfl) D_look.g D_look.F.kp D_look.b .nil pass0 (pa_cons (pv 2) pa_nil)))
  (pss_cons (ps_fld (pv 0) (pv 2) rfl)
  (pss_one (ps_ret pe_str)))))), ?_⟩
    refine ⟨_, rfl, D, C, dx, _, _, rfl, hD, T_Desk.cl, T_Desk.ns, df_shop, S, _, rfl, .inl (SqL.of k1), _, _, rfl, rfl, false, (by show V.bl (decide _) = V.bl false; rw [List.length_map, decide_eq_false (by omega)]), ?_⟩
    refine ⟨_, rfl, D, C, dx, _, _, rfl, hD, T_Desk.cl, T_Desk.ns, df_shop, S, _, rfl, .inr (SqL.of k1), _, rfl, szL (by rw [List.length_append, List.length_map]; show vs.length + 1 ≤ _; omega), fun N nN => ?_⟩
    have s1 := same_upd (o := .lst (vs.map V.ref ++ [.ref v])) nN
    have hN : upd H N (.lst (vs.map V.ref ++ [.ref v])) N = some (.lst ((vs ++ [v]).map V.ref)) := by rw [upd_same, List.map_append]; rfl
    have hD1 := s1 _ _ hD
    have hna1 := s1 _ _ hna
    have e1 : Ext T H _ := .same s1 hT
    have nNd : N ≠ d := (ne_of_none hd nN).symm
    have hN' : ShopAt (cutH d (upd H N (.lst (vs.map V.ref ++ [.ref v])))) N (os ++ [o]) := ShopAt.of_al (cut_put nNd hN) ((alv.imp fun _ _ h => h.same (cut_mono s1)).app (.one (ho.same (cut_mono s1))))
    change ∃ x, _
    generalize upd H N (.lst (vs.map V.ref ++ [.ref v])) = H1 at s1 hD1 hna1 e1 hN' ⊢
    refine ⟨_, rfl, N, os ++ [o], rfl, hN'.same cut_le, gd, e1.t1, fun H2 e2 => ?_⟩
    have hD2 := e2.ext _ _ hD1 (fun ps z => HO.noConfusion z)
    refine ⟨_, rfl, _, rfl, D, C, dx, _, rfl, hD2, T_Desk.cl, T_Desk.ns, (by show 2 < 1000; decide), ?_⟩
    rw [df_sets]
    have c3 : Chg T D H2 (upd H2 D (.ins C dx (deskF (.ref na) N))) := .upd hD2 e2.t1
    refine q _ ((Chg.ext (e1.trans e2)).trans c3) ⟨dx, na, N, cut_put nDd upd_same, cut_put nnd (c3.lst nnD (e2.lst hna1)), ((hN'.ke e2.ke.cut).offI (cut_put nDd hD2)).ke fun b o e n => ?_⟩
    obtain ⟨h1, h2⟩ := cut_some e
    obtain ⟨h3, h4⟩ := cut_some h2
    exact cut_put h3 (c3.ke b o h1 h4 n)
end
/-! ### methods that may raise -/
section
variable {X : Cx} {CX : CXT} {k : Nat} {f C : Addr} {fd : FuncData} {ps : List Str} {sp : Sp} {E : L2.St → XK} {m : Str} {pos apos : Pos} {e o : Expr} {es : List Expr} {ta : TE} {t : TA}
def tMethX (C : Addr) (m : Str) (sp : Sp) (E : L2.St → XK) (ta : TE) (t : TA) : TE := fun σ H Q => ta σ H fun x H1 => ∃ a dx fs, x = .ref a ∧ H1 a = some (.ins C dx fs) ∧ fs.lookup m = none ∧ t σ H1 fun vs H2 => sp (x :: vs) H2 Q (E σ)
theorem pe_methX {pl : Sem Bool} (he : PE X o ta) (c : Cls X.K C) (hm : Meth X.K C m f) (F : FnOk X.prog X.w X.K X.mg X.base CX k f fd ps sp) (hr : Room k X.A) (hb : Binds X.K fd ps []) (hx : ∀ σ, PassesAt CX X σ (E σ)) (ha : PA X (e :: es) t)
    (hst : starEach (e :: es) X.env = (false, eval e X.env) :: starEach es X.env := by rfl) (hpl : (backTo pos (starEach es X.env)).any (·.1) = false := by rfl)
    (ht : eval (.Call (.Attribute o m apos) (e :: es) [] pos) X.env = (do
      let ov ← eval o X.env
      standAt apos.atName
      let (f, first) ← holding [ov] (getMethod ov m pl)
      callWith pos f first (backTo pos (starEach (e :: es) X.env)) (backToKw pos (keywordEach [] X.env))) := by rfl) :
    PE X (.Call (.Attribute o m apos) (e :: es) [] pos) (tMethX C m sp E ta t) := by
  refine ⟨fun pins s σ H Q I h => ?_⟩
  refine PySem.W.methodCall_KW (pl := pl) (thn (he.run pins s σ H _ I h) fun u s1 ⟨x, H1, I1, rx, a, dx, fs, ex, ea, l, q⟩ => ?_) ht
  subst ex
  obtain rfl : u = Value.ref a := rx
  refine getmeth_ok I1 ea c hm l ?_
  refine PySem.W.callWith_K (first := [.ref a]) (h₀ := X.base) I.ok.mod.kin hm.kp (thn (ha.run pos pins s1 σ H1 _ I1 q) fun us s2 ⟨vs, H2, I2, r, q2⟩ => ⟨I2.kIn, ?_⟩) hst hpl
  exact run_fnS (us := .ref a :: us) (vs := .ref a :: vs) F hr hb (hx σ) I2 (.cons rfl r) q2
end
/-! ### Desk.put_last, Desk.drop_last: refusals too -/
abbrev s_Desk_drop_last : Stmt := inClass (topS 80) 5
abbrev N_Desk_drop_last : List Str := ["self", "place"]
theorem sc_Desk_drop_last : FnScope N_Desk_drop_last ["self", "place"] (defScope s_Desk_drop_last) := ⟨rfl, rfl, rfl, by decide +kernel, rfl, by decide +kernel, by decide +kernel⟩

/-- the desk's data, read once -/
theorem desk_same {C dx dx' na na' S S' : Addr} {H : Hp} {D : Addr} (h : H D = some (.ins C dx (deskF (.ref na) S))) (h' : H D = some (.ins C dx' (deskF (.ref na') S'))) : dx' = dx ∧ na' = na ∧ S' = S := by
  have e := h'.symm.trans h
  injection e with e
  injection e with _ e1 e2
  unfold deskF at e2
  injection e2 with e3 e4
  injection e3 with _ e3
  injection e3 with e3
  injection e4 with e4 _
  injection e4 with _ e4
  injection e4 with e4
  exact ⟨e1, e3, e4⟩
def spx_put (T : List Addr) (C CN : Addr) : Sp := fun vs H Q E => ∃ (D v : Addr) (xs : List Str) (os : List Ofr) (o : Ofr), vs = [.ref D, .ref v] ∧ DeskAt C H D xs os ∧ OfrAt H v o ∧ os.length ≤ 8 ∧ SizeO 1000 (os ++ [o]) ∧ Tb T H ∧
  (os.length < 8 → firstBad (os ++ [o]) = none → ∀ H', Chg T D H H' → (∀ d ds, H d = some (.lst ds) → DeskAt C (cutH d H) D xs os → OfrAt (cutH d H) v o → DeskAt C (cutH d H') D xs (os ++ [o])) → Q (.str "ok") H') ∧
  (os.length = 8 → ∀ H' e, Ext T H H' → H e = none → H' e = some (.xd [("place", .int ((8 : Nat) : Int))]) → E (.ref CN) (some e) H') ∧
  ∀ n, os.length < 8 → firstBad (os ++ [o]) = some n → ∀ H' e, Ext T H H' → H e = none → H' e = some (.xd [("place", .int (n : Nat))]) → E (.ref CN) (some e) H'
section
variable {P : Program} {w : World} {K : PySem.W.Frag} {mg : Str → Option Value} {base : Heap} {T : List Addr} {C CN CP fI : Addr} {fdI : FuncData}
theorem okx_put {f f1 : Addr} {fd fd1 : FuncData} {k : Nat} (M : Names mg) (XN : Exs K mg CN CP fI fdI) (F : Fun K "put_last" "Desk.put_last" s_Desk_put_last f fd) (T_Desk : DeskT K mg C) (D_look : Def K mg "look" s_look ["shop"] f1 fd1) (G_look : FnOk P w K mg base (L2.CX P w) (k + 2) f1 fd1 ["shop"] (spx_look CN T)) : FnOk P w K mg base (L2.CX P w) (k + 3) f fd ["self", "offer"] (spx_put T C CN) := by
  have GI : FnOk P w K mg base CX0 (k + 1) fI fdI ["self", "place"] (sp_ninit CN) := ok_ninit XN
  refine F.okX sc_Desk_put_last (fun vs H Q E h => ?_) (fun cdv A outer s H vs Q E hr h => ?_)
  · obtain ⟨D, v, xs, os, o, rfl, _⟩ := h
    rfl
  · obtain ⟨D, v, xs, os, o, rfl, ⟨dx, na, S, hD, hna, hS⟩, ho, h8, sz, hT, q1, q2, q3⟩ := h
    obtain ⟨_, m_MOST_OFFERS⟩ := M.c_MOST_OFFERS
    obtain ⟨vs, k1, alv⟩ := id hS.al
    have lv := alv.len
    have nnD : na ≠ D := ne_of hna hD (fun z => nomatch z)
    refine ⟨_, (pss_cons (ps_if (pt_cmpR op_ge (pe_callB call_len_seq (by rfl) M.len (by decide +kernel) (pa_cons (pe_fld (pv 0) rfl) pa_nil)) (pe_glob (v := .int 8) (by rfl) m_MOST_OFFERS ⟨_, rfl⟩) (nomark _))
   (pss_one (ps_raise rfl (takes_of rfl rfl rfl rfl) (pmk_oex XN.oex XN.iC XN.tI GI hr XN.b .nil pass0 (by rfl) XN.gN (pa_cons (pe_glob (v := .int 8) (by rfl) m_MOST_OFFERS ⟨_, rfl⟩) pa_nil))))
   pss_nil)
  (pss_cons (ps_set (i := 2) sc_Desk_put_last.nd rfl (Or.inl rfl) (pe_lst (pa_starK (K := K) rfl (pe_fld (pv 0) rfl) (pa_cons (pv 1) pa_nil))))
  (pss_cons (ps_expr (pe_callS G_look hr (by rfl) D_look.g D_look.F.kp D_look.b (fun σ => passAt (takes_of rfl rfl rfl rfl) σ) (pa_cons (pv 2) pa_nil)))
  (pss_cons (ps_fld (pv 0) (pv 2) rfl)
  (pss_one (ps_ret pe_str)))))), ?_⟩
    refine ⟨_, rfl, D, C, dx, _, _, rfl, hD, T_Desk.cl, T_Desk.ns, df_shop, S, _, rfl, .inl (SqL.of k1), _, _, rfl, rfl, ?_⟩
    have made : ∀ (H0 : Hp), Ext T H H0 → ∀ n : Nat, n < 100 → (∀ H' e, Ext T H H' → H e = none → H' e = some (.xd [("place", .int (n : Nat))]) → E (.ref CN) (some e) H') → ∀ x, H0 x = none → sp_ninit CN [.ref x, .int (n : Nat)] (upd H0 x (exo x CN none)) (fun v H2 => v = .non ∧ ∃ (d : Addr) (fs : List (Str × V)), H2 x = some (exo x CN (some d)) ∧ H2 d = some (exd d fs) ∧ H0 d = none ∧ E (.ref CN) (some d) (upd (del H2 x) d (.xd fs))) E0 := fun H0 e0 n hn qE x nx => by
      refine ⟨x, n, rfl, hn, upd_same, fun d2 nd ne => ⟨rfl, d2, [("place", .int (n : Nat))], upd_same, ?_, ?_, ?_⟩⟩
      · rw [upd_ne ne, upd_same]
      · rw [upd_ne ne] at nd
        exact nd
      · rw [upd_ne ne] at nd
        rw [made_heap nx nd ne]
        exact qE _ d2 (e0.new (e0.free _ nd)) (e0.free _ nd) upd_same
    by_cases z : os.length = 8
    · refine ⟨true, (by show V.bl (decide _) = V.bl true; rw [List.length_map, decide_eq_true (by omega)]), ?_⟩
      exact ⟨by show 1 ≤ 1000; decide, fun x nx => made H (.refl hT) 8 (by decide) (q2 z) x nx⟩
    · refine ⟨false, (by show V.bl (decide _) = V.bl false; rw [List.length_map, decide_eq_false (by omega)]), ?_⟩
      refine ⟨_, rfl, D, C, dx, _, _, rfl, hD, T_Desk.cl, T_Desk.ns, df_shop, S, _, rfl, .inr (SqL.of k1), _, rfl, szL (by rw [List.length_append, List.length_map]; show vs.length + 1 ≤ _; omega), fun N nN => ?_⟩
      have s1 := same_upd (o := .lst (vs.map V.ref ++ [.ref v])) nN
      have hN : upd H N (.lst (vs.map V.ref ++ [.ref v])) N = some (.lst ((vs ++ [v]).map V.ref)) := by rw [upd_same, List.map_append]; rfl
      have hD1 := s1 _ _ hD
      have hna1 := s1 _ _ hna
      have e1 : Ext T H _ := .same s1 hT
      have hN' : ShopAt (upd H N (.lst (vs.map V.ref ++ [.ref v]))) N (os ++ [o]) := ShopAt.of_al hN ((alv.imp fun _ _ h => h.same s1).app (.one (ho.same s1)))
      have apart : ∀ (d : Addr) (ds : List V), H d = some (.lst ds) → DeskAt C (cutH d H) D xs os → OfrAt (cutH d H) v o → D ≠ d ∧ na ≠ d ∧ ShopAt (cutH d (upd H N (.lst (vs.map V.ref ++ [.ref v])))) N (os ++ [o]) := fun d ds hd ⟨dx', na', S', g1, g2, g3⟩ hoc => by
        obtain ⟨nDd, hD'⟩ := cut_some g1
        obtain ⟨rfl, rfl, rfl⟩ := desk_same hD hD'
        obtain ⟨vs', k1c, alc⟩ := id g3.al
        have ev : vs' = vs := by
          have e := (cut_some k1c).2.symm.trans k1
          injection e with e
          injection e with e
          exact (List.map_inj_right fun a b e => V.ref.inj e).mp e
        subst ev
        have nNd : N ≠ d := (ne_of_none hd nN).symm
        exact ⟨nDd, (cut_some g2).1, ShopAt.of_al (cut_put nNd hN) ((alc.imp fun _ _ h => h.same (cut_mono s1)).app (.one (hoc.same (cut_mono s1))))⟩
      change ∃ x, _
      generalize upd H N (.lst (vs.map V.ref ++ [.ref v])) = H1 at s1 hD1 hna1 e1 hN' apart ⊢
      refine ⟨_, rfl, N, os ++ [o], rfl, hN', sz, by rw [List.length_append, List.length_singleton]; omega, e1.t1, fun fb H2 e2 => ?_, fun n fb H2 e e2 ne he => q3 n (by omega) fb H2 e (e1.trans e2) (e1.free _ ne) he⟩
      have hD2 := e2.ext _ _ hD1 (fun ps z => HO.noConfusion z)
      refine ⟨_, rfl, _, rfl, D, C, dx, _, rfl, hD2, T_Desk.cl, T_Desk.ns, (by show 2 < 1000; decide), ?_⟩
      rw [df_sets]
      have c3 : Chg T D H2 (upd H2 D (.ins C dx (deskF (.ref na) N))) := .upd hD2 e2.t1
      refine q1 (by omega) fb _ ((Chg.ext (e1.trans e2)).trans c3) fun d ds hd dkc hoc => ?_
      obtain ⟨nDd, nnd, hNc⟩ := apart d ds hd dkc hoc
      refine ⟨dx, na, N, cut_put nDd upd_same, cut_put nnd (c3.lst nnD (e2.lst hna1)), ((hNc.ke e2.ke.cut).offI (cut_put nDd hD2)).ke fun b o e n => ?_⟩
      obtain ⟨h1, h2⟩ := cut_some e
      obtain ⟨h3, h4⟩ := cut_some h2
      exact cut_put h3 (c3.ke b o h1 h4 n)
end
/-! ### Desk.drop_last with its refusal; say -/
/-- a refusal's class without an __init__ of its own, at c -/
structure PlainC (K : PySem.W.Frag) (mg : Str → Option Value) (x : Str) (c : Addr) : Prop where
  g : mg x = some (.ref c)
  q : PySem.W.excIn K c [.type "ValueError", .type "Exception", .type "BaseException", .type "object"] "ValueError.__new__" = true
  k : PySem.W.keepIn K (.ref c) = true
  s : PySem.W.subIn K (.ref c) (.type "BaseException") = some true
  t : PySem.W.typeIn K (.ref c) = some (.type "type")
theorem PlainC.r {X : Cx} {mg : Str → Option Value} {x : Str} {c : Addr} (h : PlainC X.K mg x c) : Raises X (.ref c) := raises_own h.s h.t
theorem Al.take {α : Type} {R : Addr → α → Prop} : ∀ {as : List Addr} {xs : List α} (n : Nat), Al R as xs → Al R (as.take n) (xs.take n)
  | _, _, 0, _ => True.intro
  | [], [], _ + 1, _ => True.intro
  | [], _ :: _, _, h => h.elim
  | _ :: _, [], _, h => h.elim
  | _ :: _, _ :: _, n + 1, h => ⟨h.1, Al.take n h.2⟩
/-- all but the last -/
theorem cut_but (l : List V) : cutV l none (some (-1)) = l.dropLast := by
  unfold cutV
  have e : HT.sIx l.length l.length (some (-1)) = l.length - 1 := by
    show (if (-1 : Int) < 0 then ((-1 : Int) + (l.length : Int)).toNat else min (-1 : Int).toNat l.length) = _
    rw [if_pos (by decide)]
    omega
  rw [e, HT.sIx_none, List.drop_zero, Nat.sub_zero, List.dropLast_eq_take]
def spx_drop (T : List Addr) (C CPl : Addr) : Sp := fun vs H Q E => ∃ (D : Addr) (xs : List Str) (os : List Ofr) (n : Nat), vs = [.ref D, .int n] ∧ n < 100 ∧ DeskAt C H D xs os ∧ os.length ≤ 8 ∧ Tb T H ∧
  ((n : Int) = (os.length : Int) - 1 → ∀ H', Chg T D H H' → (∀ d ds, H d = some (.lst ds) → DeskAt C (cutH d H) D xs os → DeskAt C (cutH d H') D xs os.dropLast) → Q (.str "ok") H') ∧ (¬ (n : Int) = (os.length : Int) - 1 → E (.ref CPl) none H)
section
variable {P : Program} {w : World} {K : PySem.W.Frag} {mg : Str → Option Value} {base : Heap} {T : List Addr} {C CPl : Addr}
theorem okx_drop {f : Addr} {fd : FuncData} {k : Nat} (M : Names mg) (XP : PlainC K mg "NoPlace" CPl) (F : Fun K "drop_last" "Desk.drop_last" s_Desk_drop_last f fd) (T_Desk : DeskT K mg C) : FnOk P w K mg base (L2.CX P w) (k + 2) f fd ["self", "place"] (spx_drop T C CPl) := by
  refine F.okX sc_Desk_drop_last (fun vs H Q E h => ?_) (fun cdv A outer s H vs Q E hr h => ?_)
  · obtain ⟨D, xs, os, n, rfl, _⟩ := h
    rfl
  · obtain ⟨D, xs, os, n, rfl, hn, ⟨dx, na, S, hD, hna, hS⟩, h8, hT, q1, q2⟩ := h
    obtain ⟨vs, k1, alv⟩ := id hS.al
    have lv := alv.len
    have nnD : na ≠ D := ne_of hna hD (fun z => nomatch z)
    refine ⟨_, (pss_cons (ps_if (pt_cmpR op_ne (pv 1) (pe_op op_sub (pe_callB call_len_seq (by rfl) M.len (by decide +kernel) (pa_cons (pe_fld (pv 0) rfl) pa_nil)) pe_int) (nomark _))
   (pss_one (ps_raise rfl (takes_of rfl rfl rfl rfl) (pmk_ownA PySem.F.excBase_ValueError XP.q XP.g XP.k (PlainC.r (mg := mg) XP) (by rfl) (pa_cons (pe_joinedE (.cons (pe_fmt (pv 1)) (.cons pe_str .nil))) pa_nil))))
   pss_nil)
  (pss_cons (ps_fld (pv 0) (pe_slice sl_list (pe_fld (pv 0) rfl) po_none (po_some (pe_un un_neg pe_int))) rfl)
  (pss_one (ps_ret pe_str)))), ?_⟩
    refine ⟨_, rfl, _, rfl, D, C, dx, _, _, rfl, hD, T_Desk.cl, T_Desk.ns, df_shop, S, _, rfl, .inl (SqL.of k1), _, _, rfl, rfl, rfl, ?_⟩
    by_cases z : (n : Int) = (os.length : Int) - 1
    · have ez : (n : Int) = ((vs.map V.ref).length : Int) - 1 := by rw [List.length_map, lv]; exact z
      refine ⟨false, by rw [decide_eq_true (congrArg V.int ez)]; rfl, ?_⟩
      refine ⟨_, rfl, D, C, dx, _, _, rfl, hD, T_Desk.cl, T_Desk.ns, df_shop, 1, rfl, -1, rfl, S, _, rfl, SqL.of k1, fun N nN => ?_⟩
      rw [cut_but, ← List.map_dropLast]
      have s1 := same_upd (o := .lst (vs.dropLast.map V.ref)) nN
      have hN : upd H N (.lst (vs.dropLast.map V.ref)) N = some (.lst (vs.dropLast.map V.ref)) := upd_same
      have apart : ∀ (d : Addr) (ds : List V), H d = some (.lst ds) → DeskAt C (cutH d H) D xs os → D ≠ d ∧ na ≠ d ∧ ShopAt (cutH d (upd H N (.lst (vs.dropLast.map V.ref)))) N os.dropLast := fun d ds hd ⟨dx', na', S', g1, g2, g3⟩ => by
        obtain ⟨nDd, hD'⟩ := cut_some g1
        obtain ⟨rfl, rfl, rfl⟩ := desk_same hD hD'
        obtain ⟨vs', k1c, alc⟩ := id g3.al
        have ev : vs' = vs := by
          have e := (cut_some k1c).2.symm.trans k1
          injection e with e
          injection e with e
          exact (List.map_inj_right fun a b e => V.ref.inj e).mp e
        subst ev
        have nNd : N ≠ d := (ne_of_none hd nN).symm
        have alT := (alc.imp fun _ _ h => h.same (cut_mono s1)).take (vs'.length - 1)
        rw [← List.dropLast_eq_take, show vs'.length - 1 = os.length - 1 by omega, ← List.dropLast_eq_take] at alT
        exact ⟨nDd, (cut_some g2).1, ShopAt.of_al (cut_put nNd hN) alT⟩
      have hD1 := s1 _ _ hD
      have hna1 := s1 _ _ hna
      change ∃ x, _
      generalize upd H N (.lst (vs.dropLast.map V.ref)) = H1 at s1 hD1 hna1 apart ⊢
      refine ⟨_, rfl, D, C, dx, _, rfl, hD1, T_Desk.cl, T_Desk.ns, (by show 2 < 1000; decide), ?_⟩
      rw [df_sets]
      have b3 : SameBut D H1 (upd H1 D (.ins C dx (deskF (.ref na) N))) := .upd
      refine q1 z _ ((Chg.ext (.same s1 hT)).trans (.upd hD1 (tb_same s1 hT))) fun d ds hd dkc => ?_
      obtain ⟨nDd, nnd, hNc⟩ := apart d ds hd dkc
      refine ⟨dx, na, N, cut_put nDd upd_same, cut_put nnd (b3 _ _ nnD hna1), (hNc.offI (cut_put nDd hD1)).ke fun b o e n => ?_⟩
      obtain ⟨h1, h2⟩ := cut_some e
      obtain ⟨h3, h4⟩ := cut_some h2
      exact cut_put h3 (b3 _ _ h1 h4)
    · have ez : ¬ (V.int (n : Int) = V.int (((vs.map V.ref).length : Int) - 1)) := fun y => z (by have := V.int.inj y; rw [List.length_map, lv] at this; exact this)
      refine ⟨true, by rw [decide_eq_false ez]; rfl, ?_⟩
      have ln := lt100_len hn
      refine ⟨_, rfl, .inr ⟨_, rfl, lt100_log hn, _, rfl, ?_, ?_⟩⟩
      · rw [strE_len]
        exact Nat.le_trans (Nat.add_le_add_left ln _) (by decide +kernel)
      · refine ⟨_, rfl, ?_, by show 1 ≤ sizeLine; decide, q2 z⟩
        rw [strE_len, strE_len]
        exact Nat.le_trans (Nat.add_le_add_right (Nat.add_le_add_left ln _) _) (by decide +kernel)
end
/-! ### tell_shop -/
abbrev s_tell_shop : Stmt := topS 76
abbrev N_tell_shop : List Str := ["names", "shop"]
theorem sc_tell_shop : FnScope N_tell_shop ["names", "shop"] (defScope s_tell_shop) := ⟨rfl, rfl, rfl, by decide +kernel, rfl, by decide +kernel, by decide +kernel⟩

def orNone (y : Str) (ps : List Str) : Str := if ps = [] then ("none" : Str) else Str.join y ps
def shopS (xs : List Str) (os : List Ofr) : Str := orNone (" | " : Str) (os.map (offerS xs))
theorem num_of {p : Int} (h : 0 ≤ p) : Str.ofString (toString p) = numS p.toNat := by
  obtain ⟨n, rfl⟩ := Int.eq_ofNat_of_zero_le h
  rfl
theorem log_of {p : Int} {k : Nat} (h : p.natAbs < 2 ^ k) (hk : k ≤ 1900) : p.natAbs.log2 < 1920 := by
  refine log2_small (Nat.lt_of_lt_of_le h ?_)
  exact Nat.pow_le_pow_right (by decide) (by omega)
def sp_tell_shop (T : List Addr) : Sp := fun vs H Q _ => ∃ (a S : Addr) (xs : List Str) (os : List Ofr), vs = [.ref a, .ref S] ∧ H a = some (LS xs) ∧ ShopAt H S os ∧ Good os ∧ GoodN xs ∧ (∀ o ∈ os, TellO xs o) ∧ Tb T H ∧ ∀ H', Ext T H H' → Q (.str (shopS xs os)) H'
theorem join_or {y : Str} {ps : List Str} (hp : ∀ p ∈ ps, p.length ≠ 0) (ne : ps ≠ []) : (Str.join y ps).length ≠ 0 := by
  cases ps with
  | nil => exact absurd rfl ne
  | cons p r =>
    have h1 := hp p List.mem_cons_self
    rw [TL.len_tl, TL.tl_join]
    rw [TL.len_tl] at h1
    cases r with
    | nil => exact h1
    | cons q s =>
      show (TL.tl p ++ (TL.tl y ++ TL.joinL (TL.tl y) ((q :: s).map TL.tl))).length ≠ 0
      rw [List.length_append]
      omega
theorem join_lenN (y : Str) (n : Nat) : ∀ ps : List Str, (∀ p ∈ ps, p.length ≤ n) → (Str.join y ps).length ≤ ps.length * (n + y.length)
  | [], _ => by rw [TL.len_tl, TL.tl_join]; exact Nat.zero_le _
  | [p], h => by
    have h1 := h p List.mem_cons_self
    rw [TL.len_tl, TL.tl_join]
    show (TL.tl p).length ≤ 1 * _
    rw [← TL.len_tl]
    omega
  | p :: q :: r, h => by
    have h1 := h p List.mem_cons_self
    have h2 := join_lenN y n (q :: r) fun x hx => h x (List.mem_cons_of_mem _ hx)
    rw [TL.len_tl, TL.tl_join] at h2 ⊢
    show (TL.tl p ++ (TL.tl y ++ TL.joinL (TL.tl y) ((q :: r).map TL.tl))).length ≤ _
    rw [List.length_append, List.length_append, ← TL.len_tl, ← TL.len_tl]
    rw [List.length_cons, Nat.succ_mul]
    omega
theorem sum_lenN {n : Nat} : ∀ {ps : List Str}, (∀ p ∈ ps, p.length ≤ n) → (ps.map (·.length)).sum ≤ ps.length * n
  | [], _ => by simp
  | p :: r, h => by
    have h1 := h p List.mem_cons_self
    have h2 := sum_lenN (ps := r) fun x hx => h x (List.mem_cons_of_mem _ hx)
    rw [List.map_cons, List.sum_cons, List.length_cons, Nat.succ_mul]
    omega
theorem numS_pos (n : Nat) : (numS n).length ≠ 0 := by
  rw [numS_len]
  intro z
  exact TL.numL_ne n (List.eq_nil_of_length_eq_zero z)
theorem offer_pos {xs : List Str} (o : Ofr) : (offerS xs o).length ≠ 0 := by
  cases o with
  | pack c p =>
    show (soldS xs c p).length ≠ 0
    unfold soldS
    simp only [str_len_app, for_len]
    omega
  | many c ts =>
    unfold offerS
    simp only [str_len_app, colon_len]
    omega
  | add c p k =>
    unfold offerS
    simp only [str_len_app, colon_len]
    omega
section
variable {P : Program} {w : World} {K : PySem.W.Frag} {mg : Str → Option Value} {base : Heap} {T : List Addr}
theorem ok_tell_shop {f f1 : Addr} {fd fd1 : FuncData} {k : Nat} (M : Names mg) (D : Def K mg "tell_shop" s_tell_shop ["names", "shop"] f fd) (D_show_shop : Def K mg "show_shop" s_show_shop ["names", "shop"] f1 fd1) (G_show_shop : FnOk P w K mg base CX0 k f1 fd1 ["names", "shop"] (sp_show_shop T)) : FnOk P w K mg base CX0 (k + 1) f fd ["names", "shop"] (sp_tell_shop T) := by
  refine D.F.ok sc_tell_shop (fun vs H Q E h => ?_) (fun cdv A outer s H vs Q E hr h => ?_)
  · obtain ⟨a, S, xs, os, rfl, _⟩ := h
    rfl
  · obtain ⟨a, S, xs, os, rfl, ha, hS, gd, g, tl, hT, q⟩ := h
    have h8 := gd.1
    refine ⟨_, (pss_one (ps_ret (pe_orT (pe_join pe_str (pe_call G_show_shop hr (by rfl) D_show_shop.g D_show_shop.F.kp D_show_shop.b .nil pass0 (pa_cons (pv 0) (pa_cons (pv 1) pa_nil)))) (pe_one pe_str)))), ?_⟩
    refine ⟨⟨_, rfl⟩, _, rfl, _, rfl, a, S, xs, os, rfl, ha, hS, gd, g, tl, hT, fun H2 B e12 nB hB => ?_⟩
    have pl : ∀ p ∈ os.map (offerS xs), p.length ≤ 200 ∧ p.length ≠ 0 := fun p hp => by
      obtain ⟨o, ho, rfl⟩ := List.mem_map.mp hp
      exact ⟨(tl o ho).len g, offer_pos o⟩
    have lps : (os.map (offerS xs)).length ≤ 8 := by rw [List.length_map]; exact h8
    unfold shopS orNone at q
    generalize os.map (offerS xs) = ps at hB pl lps q
    have bl : (" | " : Str).length = 3 := by decide +kernel
    have s10 := sum_lenN (n := 200) fun p hp => (pl p hp).1
    have j10 := join_lenN (" | " : Str) 200 ps fun p hp => (pl p hp).1
    rw [bl] at j10
    by_cases z : ps = []
    · rw [if_pos z] at q
      subst z
      exact ⟨_, B, [], rfl, rfl, .inl (SqL.of hB), by decide, false, ⟨by decide +kernel, by decide +kernel⟩, q H2 e12⟩
    · rw [if_neg z] at q
      have l0 := join_or (y := (" | " : Str)) (fun p hp => (pl p hp).2) z
      refine ⟨_, B, _, rfl, rfl, .inl (SqL.of hB), by rw [bl]; omega, true, ⟨szL (by rw [TL.join_eq]; omega), ?_⟩, ?_⟩
      · rw [TL.join_eq]
        symm
        simp only [bne_iff_ne, ne_eq]
        omega
      · rw [TL.join_eq]
        exact q H2 e12
end
/-! ### Desk.answer, Desk.say: with refusals -/
abbrev s_Desk_answer : Stmt := inClass (topS 80) 2
abbrev N_Desk_answer : List Str := ["self", "word", "text", "question"]
theorem sc_Desk_answer : FnScope N_Desk_answer ["self", "word", "text"] (defScope s_Desk_answer) := ⟨rfl, rfl, rfl, by decide +kernel, rfl, by decide +kernel, by decide +kernel⟩

abbrev s_Desk_say : Stmt := inClass (topS 80) 1
abbrev N_Desk_say : List Str := ["self", "line", "word", "blank", "text"]
theorem sc_Desk_say : FnScope N_Desk_say ["self", "line"] (defScope s_Desk_say) := ⟨rfl, rfl, rfl, by decide +kernel, rfl, by decide +kernel, by decide +kernel⟩

theorem FnOk.or {P : Program} {w : World} {K : PySem.W.Frag} {mg : Str → Option Value} {base : Heap} {CX : CXT} {k : Nat} {f : Addr} {fd : FuncData} {ps : List Str} {sp sp' : Sp} (F : FnOk P w K mg base CX k f fd ps sp) (F' : FnOk P w K mg base CX k f fd ps sp') :
    FnOk P w K mg base CX k f fd ps (fun vs H Q E => sp vs H Q E ∨ sp' vs H Q E) :=
  ⟨fun vs H Q E h => h.elim (F.len vs H Q E) (F'.len vs H Q E), fun A outer s H args us vs Q E hr he hb hv hs => hs.elim (F.run A outer s H args us vs Q E hr he hb hv) (F'.run A outer s H args us vs Q E hr he hb hv)⟩
def wordsL : List Str := ["things", "offer", "drop", "shop", "cost", "buy", "value", "spare"]
/-- of names and a shop that stand -/
structure DeskOk (xs : List Str) (os : List Ofr) : Prop where
  g : GoodN xs
  ne : xs ≠ []
  gd : Good os
  ft : FitS xs.length os
theorem DeskOk.tell {xs : List Str} {os : List Ofr} (h : DeskOk xs os) : ∀ o ∈ os, TellO xs o := fun o ho => by
  obtain ⟨i, hi, e⟩ := List.getElem_of_mem ho
  have g := List.getElem?_eq_getElem hi
  rw [e] at g
  have h8 := h.gd.1
  exact tell_of (i := i) (by omega) (h.gd.2 i o g) (h.ft o ho)
def sp_a_things (T : List Addr) (C : Addr) : Sp := fun vs H Q _ => ∃ (D dx S d : Addr) (nv : V) (xs : List Str) (ds : List V), vs = [.ref D, .str "things", .str (namesS xs)] ∧ H D = some (.ins C dx (deskF nv S)) ∧ H d = some (.lst ds) ∧ GoodN xs ∧ xs ≠ [] ∧ Tb T H ∧ ∀ H', Chg T D H H' → DeskAt C (cutH d H') D xs [] → Q (.str "ok") H'
def sp_a_shop (T : List Addr) (C : Addr) : Sp := fun vs H Q _ => ∃ (D : Addr) (xs : List Str) (os : List Ofr) (tx : Str), vs = [.ref D, .str "shop", .str tx] ∧ DeskAt C H D xs os ∧ DeskOk xs os ∧ Tb T H ∧ ∀ H', Ext T H H' → Q (.str (shopS xs os)) H'
section
variable {P : Program} {w : World} {K : PySem.W.Frag} {mg : Str → Option Value} {base : Heap} {T : List Addr} {C aW aA aQ fc fb fv : Addr}
theorem ok_a_things {f f1 f2 : Addr} {fd fd1 fd2 : FuncData} {k : Nat} (M : Names mg) (F : Fun K "answer" "Desk.answer" s_Desk_answer f fd) (T_Desk : DeskT K mg C) (D_read_names : Def K mg "read_names" s_read_names ["text"] f1 fd1) (G_read_names : FnOk P w K mg base CX0 k f1 fd1 ["text"] (sp_read_names T))
    (m_Desk_take_names : Meth K C "take_names" f2) (b_Desk_take_names : Binds K fd2 ["self", "names"] []) (G_Desk_take_names : FnOk P w K mg base CX0 k f2 fd2 ["self", "names"] (sp_take_names T C)) : FnOk P w K mg base CX0 (k + 1) f fd ["self", "word", "text"] (sp_a_things T C) := by
  refine F.ok sc_Desk_answer (fun vs H Q E h => ?_) (fun cdv A outer s H vs Q E hr h => ?_)
  · obtain ⟨D, dx, S, d, nv, xs, ds, rfl, _⟩ := h
    rfl
  · obtain ⟨D, dx, S, d, nv, xs, ds, rfl, hD, hd, g, ne, hT, q⟩ := h
    refine ⟨_, (pss_cons (ps_if (pt_cmpR op_eq (pv 1) pe_str (nomark _))
   (pss_one (ps_ret (pe_meth (pv 0) T_Desk.cl m_Desk_take_names G_Desk_take_names hr b_Desk_take_names .nil pass0 (pa_cons (pe_call G_read_names hr (by rfl) D_read_names.g D_read_names.F.kp D_read_names.b .nil pass0 (pa_cons (pv 2) pa_nil)) pa_nil))))
   pss_nil)
  pss_never), ?_⟩
    refine ⟨_, rfl, rfl, true, by decide +kernel, ?_⟩
    refine ⟨_, rfl, D, dx, _, rfl, hD, df_no (by decide +kernel) (by decide +kernel), _, rfl, xs, rfl, g, ne, hT, fun H1 na e1 nna hna => ?_⟩
    have hD1 := e1.ext _ _ hD (fun ps z => HO.noConfusion z)
    exact ⟨D, na, dx, S, d, nv, xs, ds, rfl, hD1, e1.lst hd, cut_put (fun z => by rw [z, hd] at nna; cases nna) hna, e1.t1, fun H2 c2 h2 => q H2 ((Chg.ext e1).trans c2) h2⟩
theorem ok_a_shop {f f1 : Addr} {fd fd1 : FuncData} {k : Nat} (M : Names mg) (F : Fun K "answer" "Desk.answer" s_Desk_answer f fd) (T_Desk : DeskT K mg C) (D_tell_shop : Def K mg "tell_shop" s_tell_shop ["names", "shop"] f1 fd1) (G_tell_shop : FnOk P w K mg base CX0 k f1 fd1 ["names", "shop"] (sp_tell_shop T)) : FnOk P w K mg base CX0 (k + 1) f fd ["self", "word", "text"] (sp_a_shop T C) := by
  refine F.ok sc_Desk_answer (fun vs H Q E h => ?_) (fun cdv A outer s H vs Q E hr h => ?_)
  · obtain ⟨D, xs, os, tx, rfl, _⟩ := h
    rfl
  · obtain ⟨D, xs, os, tx, rfl, ⟨dx, na, S, hD, hna, hS⟩, ok, hT, q⟩ := h
    refine ⟨_, (pss_cons (ps_if (pt_cmpR op_eq (pv 1) pe_str (nomark _))
   pss_never
   pss_nil)
  (pss_cons (ps_if (pt_cmpR op_eq (pv 1) pe_str (nomark _))
   pss_never
   pss_nil)
  (pss_cons (ps_if (pt_cmpR op_eq (pv 1) pe_str (nomark _))
   pss_never
   pss_nil)
  (pss_cons (ps_if (pt_cmpR op_eq (pv 1) pe_str (nomark _))
   (pss_one (ps_ret (pe_call G_tell_shop hr (by rfl) D_tell_shop.g D_tell_shop.F.kp D_tell_shop.b .nil pass0 (pa_cons (pe_fld (pv 0) rfl) (pa_cons (pe_fld (pv 0) rfl) pa_nil)))))
   pss_nil)
  pss_never)))), ?_⟩
    refine ⟨_, rfl, rfl, false, by decide +kernel, _, rfl, rfl, false, by decide +kernel, _, rfl, rfl, false, by decide +kernel, _, rfl, rfl, true, by decide +kernel, ?_⟩
    exact ⟨_, rfl, D, C, dx, _, _, rfl, hD, T_Desk.cl, T_Desk.nn, df_names, _, rfl, D, C, dx, _, _, rfl, hD, T_Desk.cl, T_Desk.ns, df_shop, na, S, xs, os, rfl, hna, hS, ok.gd, ok.g, ok.tell, hT, q⟩
end
/-! ### Desk.answer: offer and drop, with refusals -/
theorem FnOk.lift {P : Program} {w : World} {K : PySem.W.Frag} {mg : Str → Option Value} {base : Heap} {CX : CXT} {k : Nat} {f : Addr} {fd : FuncData} {ps : List Str} {sp : Sp} (F : FnOk P w K mg base CX0 k f fd ps sp) : FnOk P w K mg base CX k f fd ps sp :=
  ⟨F.len, fun A outer s H args us vs Q E hr he hb hv hs => codeAny_mono (F.run A outer s H args us vs Q E hr he hb hv hs) fun r s' h => by
    cases r with
    | error e => exact h.elim
    | ok fl => cases fl <;> exact h⟩
def spx_a_offer (T : List Addr) (C CN : Addr) : Sp := fun vs H Q E => ∃ (D : Addr) (xs : List Str) (os : List Ofr) (o : Ofr), vs = [.ref D, .str "offer", .str (offerS xs o)] ∧ DeskAt C H D xs os ∧ GoodN xs ∧ ReadO xs o ∧ os.length ≤ 8 ∧ SizeO 1000 (os ++ [o]) ∧ Tb T H ∧
  (os.length < 8 → firstBad (os ++ [o]) = none → ∀ H', Chg T D H H' → (∀ d ds, H d = some (.lst ds) → DeskAt C (cutH d H) D xs os → DeskAt C (cutH d H') D xs (os ++ [o])) → Q (.str "ok") H') ∧
  (os.length = 8 → ∀ H' e, Ext T H H' → H e = none → H' e = some (.xd [("place", .int ((8 : Nat) : Int))]) → E (.ref CN) (some e) H') ∧
  ∀ n, os.length < 8 → firstBad (os ++ [o]) = some n → ∀ H' e, Ext T H H' → H e = none → H' e = some (.xd [("place", .int (n : Nat))]) → E (.ref CN) (some e) H'
def spx_a_drop (T : List Addr) (C CPl : Addr) : Sp := fun vs H Q E => ∃ (D : Addr) (xs : List Str) (os : List Ofr) (n : Nat), vs = [.ref D, .str "drop", .str (numS n)] ∧ n < 100 ∧ DeskAt C H D xs os ∧ os.length ≤ 8 ∧ Tb T H ∧
  ((n : Int) = (os.length : Int) - 1 → ∀ H', Chg T D H H' → (∀ d ds, H d = some (.lst ds) → DeskAt C (cutH d H) D xs os → DeskAt C (cutH d H') D xs os.dropLast) → Q (.str "ok") H') ∧ (¬ (n : Int) = (os.length : Int) - 1 → ∀ H', Ext T H H' → E (.ref CPl) none H')
section
variable {P : Program} {w : World} {K : PySem.W.Frag} {mg : Str → Option Value} {base : Heap} {T : List Addr} {C CN CPl : Addr}
theorem okx_a_offer {f f1 f2 : Addr} {fd fd1 fd2 : FuncData} {k : Nat} (M : Names mg) (F : Fun K "answer" "Desk.answer" s_Desk_answer f fd) (T_Desk : DeskT K mg C) (D_read_offer : Def K mg "read_offer" s_read_offer ["names", "text"] f1 fd1) (G_read_offer : FnOk P w K mg base CX0 k f1 fd1 ["names", "text"] (sp_read_offer T))
    (m_Desk_put_last : Meth K C "put_last" f2) (b_Desk_put_last : Binds K fd2 ["self", "offer"] []) (G_Desk_put_last : FnOk P w K mg base (L2.CX P w) k f2 fd2 ["self", "offer"] (spx_put T C CN)) : FnOk P w K mg base (L2.CX P w) (k + 1) f fd ["self", "word", "text"] (spx_a_offer T C CN) := by
  refine F.okX sc_Desk_answer (fun vs H Q E h => ?_) (fun cdv A outer s H vs Q E hr h => ?_)
  · obtain ⟨D, xs, os, o, rfl, _⟩ := h
    rfl
  · obtain ⟨D, xs, os, o, rfl, dk, g, rd, h8, sz, hT, q1, q2, q3⟩ := h
    obtain ⟨dx, na, S, hD, hna, hS⟩ := id dk
    refine ⟨_, (pss_cons (ps_if (pt_cmpR op_eq (pv 1) pe_str (nomark _))
   pss_never
   pss_nil)
  (pss_cons (ps_if (pt_cmpR op_eq (pv 1) pe_str (nomark _))
   (pss_one (ps_ret (pe_methX (pv 0) T_Desk.cl m_Desk_put_last G_Desk_put_last hr b_Desk_put_last (fun σ => passAt (takes_of rfl rfl rfl rfl) σ) (pa_cons (pe_call G_read_offer hr (by rfl) D_read_offer.g D_read_offer.F.kp D_read_offer.b .nil pass0 (pa_cons (pe_fld (pv 0) rfl) (pa_cons (pv 2) pa_nil))) pa_nil))))
   pss_nil)
  pss_never)), ?_⟩
    refine ⟨_, rfl, rfl, false, by decide +kernel, _, rfl, rfl, true, by decide +kernel, ?_⟩
    refine ⟨_, rfl, D, dx, _, rfl, hD, df_no (by decide +kernel) (by decide +kernel), _, rfl, D, C, dx, _, _, rfl, hD, T_Desk.cl, T_Desk.nn, df_names, _, rfl, na, xs, o, rfl, hna, g, rd, hT, fun H1 v Sv e1 ow nS _ => ?_⟩
    refine ⟨D, v, xs, os, o, rfl, dk.ke e1.ke, ow.at, h8, sz, e1.t1, fun z fb H2 c2 h2 => q1 z fb H2 ((Chg.ext e1).trans c2) fun d ds hd dkc => ?_, fun z H2 e e2 ne he => q2 z H2 e (e1.trans e2) (e1.free _ ne) he, fun n z fb H2 e e2 ne he => q3 n z fb H2 e (e1.trans e2) (e1.free _ ne) he⟩
    exact h2 d ds (e1.lst hd) (dkc.ke e1.ke.cut) (ow.cut (e1.lst hd) (fun z => by rw [nS d z] at hd; cases hd))
theorem okx_a_drop {f f1 f2 : Addr} {fd fd1 fd2 : FuncData} {k : Nat} (M : Names mg) (F : Fun K "answer" "Desk.answer" s_Desk_answer f fd) (T_Desk : DeskT K mg C) (D_read_number : Def K mg "read_number" s_read_number ["text", "figures"] f1 fd1) (G_read_number : FnOk P w K mg base CX0 k f1 fd1 ["text", "figures"] (sp_read_number T))
    (m_Desk_drop_last : Meth K C "drop_last" f2) (b_Desk_drop_last : Binds K fd2 ["self", "place"] []) (G_Desk_drop_last : FnOk P w K mg base (L2.CX P w) k f2 fd2 ["self", "place"] (spx_drop T C CPl)) : FnOk P w K mg base (L2.CX P w) (k + 1) f fd ["self", "word", "text"] (spx_a_drop T C CPl) := by
  refine F.okX sc_Desk_answer (fun vs H Q E h => ?_) (fun cdv A outer s H vs Q E hr h => ?_)
  · obtain ⟨D, xs, os, n, rfl, _⟩ := h
    rfl
  · obtain ⟨D, xs, os, n, rfl, hn, dk, h8, hT, q1, q2⟩ := h
    obtain ⟨dx, na, S, hD, hna, hS⟩ := id dk
    obtain ⟨_, m_PLACE_FIGURES⟩ := M.c_PLACE_FIGURES
    refine ⟨_, (pss_cons (ps_if (pt_cmpR op_eq (pv 1) pe_str (nomark _))
   pss_never
   pss_nil)
  (pss_cons (ps_if (pt_cmpR op_eq (pv 1) pe_str (nomark _))
   pss_never
   pss_nil)
  (pss_cons (ps_if (pt_cmpR op_eq (pv 1) pe_str (nomark _))
   (pss_one (ps_ret (pe_methX (pv 0) T_Desk.cl m_Desk_drop_last G_Desk_drop_last hr b_Desk_drop_last (fun σ => passAt (takes_of rfl rfl rfl rfl) σ) (pa_cons (pe_call G_read_number hr (by rfl) D_read_number.g D_read_number.F.kp D_read_number.b .nil pass0 (pa_cons (pv 2) (pa_cons (pe_glob (v := .int 2) (by rfl) m_PLACE_FIGURES ⟨_, rfl⟩) pa_nil))) pa_nil))))
   pss_nil)
  pss_never))), ?_⟩
    refine ⟨_, rfl, rfl, false, by decide +kernel, _, rfl, rfl, false, by decide +kernel, _, rfl, rfl, true, by decide +kernel, ?_⟩
    refine ⟨_, rfl, D, dx, _, rfl, hD, df_no (by decide +kernel) (by decide +kernel), _, rfl, n, 2, rfl, ?_⟩
    refine ⟨(show n < 10 ^ 2 by omega), by decide, by decide, hT, fun H1 e1 => ?_⟩
    refine ⟨D, xs, os, n, rfl, hn, dk.ke e1.ke, h8, e1.t1, fun z H2 c2 h2 => q1 z H2 ((Chg.ext e1).trans c2) fun d ds hd dkc => h2 d ds (e1.lst hd) (dkc.ke e1.ke.cut), fun z => q2 z H1 e1⟩
end
/-! ### things: apart from any list -/
def spx_take (T : List Addr) (C : Addr) : Sp := fun vs H Q _ => ∃ (D na dx S : Addr) (nv : V) (xs : List Str), vs = [.ref D, .ref na] ∧ H D = some (.ins C dx (deskF nv S)) ∧ H na = some (LS xs) ∧ Tb T H ∧ ∀ H', Chg T D H H' → (∀ d ds, H d = some (.lst ds) → na ≠ d → DeskAt C (cutH d H') D xs []) → Q (.str "ok") H'
def spx_a_things (T : List Addr) (C : Addr) : Sp := fun vs H Q _ => ∃ (D dx S : Addr) (nv : V) (xs : List Str), vs = [.ref D, .str "things", .str (namesS xs)] ∧ H D = some (.ins C dx (deskF nv S)) ∧ GoodN xs ∧ xs ≠ [] ∧ Tb T H ∧ ∀ H', Chg T D H H' → (∀ d ds, H d = some (.lst ds) → DeskAt C (cutH d H') D xs []) → Q (.str "ok") H'
section
variable {P : Program} {w : World} {K : PySem.W.Frag} {mg : Str → Option Value} {base : Heap} {T : List Addr} {C : Addr}
theorem okx_take {f C : Addr} {fd : FuncData} {k : Nat} (M : Names mg) (F : Fun K "take_names" "Desk.take_names" s_Desk_take_names f fd) (T_Desk : DeskT K mg C) : FnOk P w K mg base CX0 (k + 1) f fd ["self", "names"] (spx_take T C) := by
  refine F.ok sc_Desk_take_names (fun vs H Q E h => ?_) (fun cdv A outer s H vs Q E hr h => ?_)
  · obtain ⟨D, na, dx, S, nv, xs, rfl, _⟩ := h
    rfl
  · obtain ⟨D, na, dx, S, nv, xs, rfl, hD, hna, hT, q⟩ := h
    have nnD : na ≠ D := ne_of hna hD (fun z => nomatch z)
    refine ⟨_, (pss_cons (ps_fld (pv 0) (pv 1) rfl)
  (pss_cons (ps_fld (pv 0) (pe_lst pa_nil) rfl)
  (pss_one (ps_ret pe_str)))), ?_⟩
    refine ⟨_, rfl, _, rfl, D, C, dx, _, rfl, hD, T_Desk.cl, T_Desk.nn, (by show 2 < 1000; decide), ?_⟩
    rw [df_setn]
    have c1 : Chg T D H (upd H D (.ins C dx (deskF (.ref na) S))) := .upd hD hT
    have hD1 : upd H D (.ins C dx (deskF (.ref na) S)) D = some (.ins C dx (deskF (.ref na) S)) := upd_same
    have hna1 := c1.lst nnD hna
    generalize upd H D (.ins C dx (deskF (.ref na) S)) = H1 at c1 hD1 hna1 ⊢
    refine ⟨Nat.zero_le _, fun S' nS => ?_⟩
    have s2 := same_upd (o := .lst []) nS
    have hS2 : upd H1 S' (.lst []) S' = some (.lst []) := upd_same
    have hD2 := s2 _ _ hD1
    have hna2 := s2 _ _ hna1
    have e2 : Ext T H1 _ := .same s2 c1.t1
    generalize upd H1 S' (.lst []) = H2 at s2 hS2 hD2 hna2 e2 ⊢
    refine ⟨_, rfl, D, C, dx, _, rfl, hD2, T_Desk.cl, T_Desk.ns, (by show 2 < 1000; decide), ?_⟩
    rw [df_sets]
    have c3 : Chg T D H2 (upd H2 D (.ins C dx (deskF (.ref na) S'))) := .upd hD2 e2.t1
    refine q _ ((c1.trans (.ext e2)).trans c3) fun d ds hd nnd => ?_
    have nDd : D ≠ d := ne_of hD hd (fun z => nomatch z)
    have nSd : S' ≠ d := (ne_of_none (c1.lst nDd.symm hd) nS).symm
    refine ⟨dx, na, S', cut_put nDd upd_same, cut_put nnd (c3.lst nnD hna2), [], cut_put nSd ?_, rfl, fun i v o h => by simp at h⟩
    exact c3.lst (ne_of hS2 hD2 (fun z => nomatch z)) hS2
theorem okx_a_things {f f1 f2 : Addr} {fd fd1 fd2 : FuncData} {k : Nat} (M : Names mg) (F : Fun K "answer" "Desk.answer" s_Desk_answer f fd) (T_Desk : DeskT K mg C) (D_read_names : Def K mg "read_names" s_read_names ["text"] f1 fd1) (G_read_names : FnOk P w K mg base CX0 k f1 fd1 ["text"] (sp_read_names T))
    (m_Desk_take_names : Meth K C "take_names" f2) (b_Desk_take_names : Binds K fd2 ["self", "names"] []) (G_Desk_take_names : FnOk P w K mg base CX0 k f2 fd2 ["self", "names"] (spx_take T C)) : FnOk P w K mg base CX0 (k + 1) f fd ["self", "word", "text"] (spx_a_things T C) := by
  refine F.ok sc_Desk_answer (fun vs H Q E h => ?_) (fun cdv A outer s H vs Q E hr h => ?_)
  · obtain ⟨D, dx, S, nv, xs, rfl, _⟩ := h
    rfl
  · obtain ⟨D, dx, S, nv, xs, rfl, hD, g, ne, hT, q⟩ := h
    refine ⟨_, (pss_cons (ps_if (pt_cmpR op_eq (pv 1) pe_str (nomark _))
   (pss_one (ps_ret (pe_meth (pv 0) T_Desk.cl m_Desk_take_names G_Desk_take_names hr b_Desk_take_names .nil pass0 (pa_cons (pe_call G_read_names hr (by rfl) D_read_names.g D_read_names.F.kp D_read_names.b .nil pass0 (pa_cons (pv 2) pa_nil)) pa_nil))))
   pss_nil)
  pss_never), ?_⟩
    refine ⟨_, rfl, rfl, true, by decide +kernel, ?_⟩
    refine ⟨_, rfl, D, dx, _, rfl, hD, df_no (by decide +kernel) (by decide +kernel), _, rfl, xs, rfl, g, ne, hT, fun H1 na e1 nna hna => ?_⟩
    have hD1 := e1.ext _ _ hD (fun ps z => HO.noConfusion z)
    exact ⟨D, na, dx, S, nv, xs, rfl, hD1, hna, e1.t1, fun H2 c2 h2 => q H2 ((Chg.ext e1).trans c2) fun d ds hd => h2 d ds (e1.lst hd) (fun z => by rw [z, hd] at nna; cases nna)⟩
end
/-! ### Desk.say, with refusals -/
def spx_say (K : PySem.W.Frag) (sa : Sp) (C CTh CT : Addr) : Sp := fun vs H Q E => ∃ (D dx S : Addr) (nv : V) (line word bl tx : Str), vs = [.ref D, .str line] ∧ H D = some (.ins C dx (deskF nv S)) ∧ Txt.partition line (" " : Str) = (word, bl, tx) ∧ line.length ≤ 100000 ∧ word ∈ wordsL ∧
  ((nv = .non ∧ word ≠ ("things" : Str) ∧ (reprText line).length ≤ 90000 ∧ ∀ H', Same H H' → E (.ref CTh) none H') ∨
   ((nv = .non → word = ("things" : Str)) ∧ (word = ("shop" : Str) ∨ word = ("spare" : Str) → bl = Str.empty) ∧ ∀ H', Same H H' → sa [.ref D, .str word, .str tx] H' Q (fun cls d H2 => PySem.W.exmOne K cls (.ref CT) = some false ∧ E cls d H2)))
section
variable {P : Program} {w : World} {K : PySem.W.Frag} {mg : Str → Option Value} {base : Heap} {T : List Addr} {C CTh CT aW aA aQ fc fb fv : Addr}
theorem okx_say {f f1 : Addr} {fd fd1 : FuncData} {k : Nat} {sa : Sp} (mono : ∀ vs H Q (E E' : XK), (∀ cls d H, E cls d H → E' cls d H) → sa vs H Q E → sa vs H Q E') (M : Names mg) (XT : PlainC K mg "NoThings" CTh) (gT : mg "NoText" = some (.ref CT)) (F : Fun K "say" "Desk.say" s_Desk_say f fd) (T_Desk : DeskT K mg C) (DW : DeskW K w mg aW aA aQ fc fb fv) (m_Desk_answer : Meth K C "answer" f1) (b_Desk_answer : Binds K fd1 ["self", "word", "text"] []) (G_Desk_answer : FnOk P w K mg base (L2.CX P w) k f1 fd1 ["self", "word", "text"] sa) : FnOk P w K mg base (L2.CX P w) (k + 1) f fd ["self", "line"] (spx_say K sa C CTh CT) := by
  refine F.okX sc_Desk_say (fun vs H Q E h => ?_) (fun cdv A outer s H vs Q E hr h => ?_)
  · obtain ⟨D, dx, S, nv, line, word, bl, tx, rfl, _⟩ := h
    rfl
  · obtain ⟨D, dx, S, nv, line, word, bl, tx, rfl, hD, hp, hl, hw, ways⟩ := h
    refine ⟨_, (pss_cons (ps_asg (pe_partition (pv 1) pe_str) (pg_tup rfl (pgs_cons (pg_name (i := 2) sc_Desk_say.nd rfl (Or.inl rfl)) (pgs_cons (pg_name (i := 3) sc_Desk_say.nd rfl (Or.inl rfl)) (pgs_cons (pg_name (i := 4) sc_Desk_say.nd rfl (Or.inl rfl)) pgs_nil)))))
  (pss_cutI (ps_if (pt_cmpR op_notIn_seq (pv 2) (pe_glob (v := .ref aW) (by rfl) DW.gW rfl) (by rfl))
   (pss_one ps_never)
   pss_nil)
  (pss_cutI (ps_if (PW.pt (pw_and (pt_cmpR op_isN (pe_fld (pv 0) rfl) pe_non (nomark _)) (pw_and1 (pt_cmpR op_ne (pv 2) pe_str (nomark _)))))
   (pss_one (ps_raise rfl (takes_of rfl rfl rfl rfl) (pmk_ownA PySem.F.excBase_ValueError XT.q XT.g XT.k (PlainC.r (mg := mg) XT) (by rfl) (pa_cons (pe_joinedE (.cons pe_str (.cons (pe_fmtR (pv 1)) .nil))) pa_nil))))
   pss_nil)
  (pss_cutI (ps_if (PW.pt (pw_and (pt_cmpR op_in_seq (pv 2) (pe_glob (v := .ref aA) (by rfl) DW.gA rfl) (by rfl)) (pw_and1 (pt_truth (pv 3) (by intro _; rfl)))))
   (pss_one ps_never)
   pss_nil)
  (pss_one (ps_try_only (tb := fun W => tRet (tMethX C "answer" sa (WE W) (tVar 0) (tCons (tVar 2) (tCons (tVar 4) tNil)))) (ts := fun _ _ _ => tNever) rfl rfl ⟨rfl, by decide, Or.inl gT⟩ (takes_of rfl rfl rfl rfl) (fun W pn xe tk _ => pss_one (ps_ret (by exact (pe_methX (pv 0) T_Desk.cl m_Desk_answer G_Desk_answer hr b_Desk_answer (fun σ => passAt tk σ) (by exact (pa_cons (pv 2) (pa_cons (pv 4) pa_nil))))))) (fun a oe cls d pn _ _ => pss_never))))))), ?_⟩
    refine ⟨_, rfl, ⟨_, rfl⟩, _, _, rfl, rfl, by decide +kernel, szL hl, fun p np => ?_⟩
    rw [hp]
    have s1 := same_upd (o := .tup [.str word, .str bl, .str tx]) np
    have hpt : upd H p (.tup [.str word, .str bl, .str tx]) p = some (.tup [.str word, .str bl, .str tx]) := upd_same
    have hD1 := s1 _ _ hD
    generalize upd H p (.tup [.str word, .str bl, .str tx]) = H1 at s1 hpt hD1 ⊢
    refine ⟨p, _, rfl, SqT.of hpt, rfl, _, _, rfl, _, _, rfl, _, _, rfl, rfl, ?_⟩
    refine ⟨fun σ' H' => σ' = [some (.ref D), some (.str line), some (.str word), some (.str bl), some (.str tx)] ∧ H' = H1, ?_, fun σ' H' hI => ?_⟩
    · refine ⟨_, rfl, aW, wordsL.map V.str, rfl, .inr (DW.W _), rfl, rfl, false, ?_, rfl, rfl⟩
      show V.bl (if true then !inV (.str word) (wordsL.map V.str) else inV (.str word) (wordsL.map V.str)) = V.bl false
      rw [inV_strs, decide_eq_true hw]
      rfl
    obtain ⟨rfl, rfl⟩ := hI
    rcases ways with ⟨rfl, hwt, hrp, qE⟩ | ⟨hn, ha, q⟩
    · refine ⟨fun σ' H2 => False, ?_, fun σ' H2 hI => hI.elim⟩
      refine ⟨_, rfl, D, C, dx, _, _, rfl, hD1, T_Desk.cl, T_Desk.nn, df_names, rfl, true, congrArg V.bl (decide_eq_true rfl), ?_⟩
      refine ⟨_, rfl, rfl, true, ?_, ?_⟩
      · show V.bl (!decide (V.str word = V.str ("things" : Str))) = V.bl true
        rw [decide_eq_false (fun z => hwt (V.str.inj z))]
        rfl
      · have le : (("no things are named ahead of " : Str)).length = 29 := by decide +kernel
        refine ⟨_, rfl, by decide +kernel, _, rfl, .inl ⟨line, rfl, szL (Nat.le_trans hrp (by decide)), _, rfl, ?_, by show 1 ≤ sizeLine; decide, qE _ s1⟩⟩
        rw [strE_len, strE_len]
        refine szL ?_
        have e0 : Str.empty.length = 0 := rfl
        omega
    · refine ⟨fun σ' H2 => σ' = [some (.ref D), some (.str line), some (.str word), some (.str bl), some (.str tx)] ∧ H2 = H', ?_, fun σ' H2 hI => ?_⟩
      · by_cases z : nv = .non
        · refine ⟨_, rfl, D, C, dx, _, _, rfl, hD1, T_Desk.cl, T_Desk.nn, df_names, rfl, true, congrArg V.bl (decide_eq_true z), ?_⟩
          refine ⟨_, rfl, rfl, false, ?_, rfl, rfl⟩
          rw [hn z]
          decide +kernel
        · exact ⟨_, rfl, D, C, dx, _, _, rfl, hD1, T_Desk.cl, T_Desk.nn, df_names, rfl, false, congrArg V.bl (decide_eq_false z), rfl, rfl⟩
      obtain ⟨rfl, rfl⟩ := hI
      refine ⟨fun σ' H3 => σ' = [some (.ref D), some (.str line), some (.str word), some (.str bl), some (.str tx)] ∧ H3 = H2, ?_, fun σ' H3 hI => ?_⟩
      · by_cases z : word ∈ ([("shop" : Str), "spare"] : List Str)
        · refine ⟨_, rfl, aA, ([("shop" : Str), "spare"] : List Str).map V.str, rfl, .inr (DW.A _), rfl, rfl, true, ?_, ?_⟩
          · show V.bl (if false then !inV (.str word) _ else inV (.str word) (([("shop" : Str), "spare"] : List Str).map V.str)) = V.bl true
            rw [inV_strs, decide_eq_true z]
            rfl
          · have eb : bl = Str.empty := ha (by simpa using z)
            refine ⟨_, rfl, false, ?_, rfl, rfl⟩
            rw [eb]
            exact ⟨by decide +kernel, by decide +kernel⟩
        · refine ⟨_, rfl, aA, ([("shop" : Str), "spare"] : List Str).map V.str, rfl, .inr (DW.A _), rfl, rfl, false, ?_, rfl, rfl⟩
          show V.bl (if false then !inV (.str word) _ else inV (.str word) (([("shop" : Str), "spare"] : List Str).map V.str)) = V.bl false
          rw [inV_strs, decide_eq_false z]
          rfl
      obtain ⟨rfl, rfl⟩ := hI
      refine ⟨_, rfl, D, dx, _, rfl, hD1, df_no (by decide +kernel) (by decide +kernel), _, rfl, _, rfl, ?_⟩
      refine mono _ _ _ _ _ (fun cls d H2 h => ?_) (q _ s1)
      exact ⟨false, h.1, fun z => Bool.noConfusion z, fun _ => h.2⟩
end
/-! ### refusals that are kept: which -/
abbrev s_law_which : Stmt := topS 95
abbrev N_law_which : List Str := ["_law_e", "_law_some"]
theorem sc_law_which : FnScope N_law_which ["_law_e"] (defScope s_law_which) := ⟨rfl, rfl, rfl, by decide +kernel, rfl, by decide +kernel, by decide +kernel⟩

/-- xs.count(True) of truths -/
def isT : Value → Bool
  | .bool b => b
  | _ => false
theorem bools_of : ∀ {bs : List Bool} {us : List Value}, Vals (bs.map V.bl) us → us = bs.map Value.bool
  | [], [], _ => rfl
  | b :: r, [], h => by cases h
  | [], u :: us, h => by cases h
  | b :: r, u :: us, h => by
    cases h with
    | cons h1 h2 =>
      cases h1
      rw [bools_of h2]
      rfl
theorem mt_countB {X : Cx} : MtR X "list.count" (fun x xs H Q => ∃ (p : Addr) (bs : List Bool), x = .ref p ∧ xs = [.bl true] ∧ SqL X.K H p (bs.map V.bl) ∧ Q (.int (bs.count true : Nat)) H) := by
  intro pins s σ H x xs v us Q I rx rxs h
  obtain ⟨p, bs, rfl, rfl, hs, q⟩ := h
  cases rx
  obtain ⟨u, rfl, ru⟩ := rxs.one
  cases ru
  obtain ⟨its, rv, ⟨⟨cls, dd, data, sl⟩, n, ho, hc, hdn, hd⟩, hlen⟩ := I.list hs
  simp only at hc hd
  subst hc hd
  have hi := bools_of rv
  refine call_meets PySem.F.slot_list_count ⟨_, ho, rfl⟩ PySem.F.entry_list_count (PySem.F.args_list_count_2 _ _)
    (SeqAt.list_countAt p its.toArray n dd sl (.bool true) isT) ⟨ho, fun y hy => ?_, ?_⟩
  · have hy' : y ∈ its := by simpa using hy
    rw [hi] at hy'
    obtain ⟨b, _, rfl⟩ := List.mem_map.mp hy'
    have e := eqAt_V (A := X.A.in1) (s := s) (y := .bl b) (x := .bl true) (u := .bool b) (v := .bool true) rfl rfl rfl rfl
    have e2 : eqV (.bl b) (.bl true) = isT (.bool b) := by cases b <;> rfl
    rw [e2] at e
    exact e
  · refine ⟨.int (bs.count true : Nat), H, I.tok _, ⟨s.toks, ?_⟩, q⟩
    have ec : its.toArray.toList.countP isT = bs.count true := by
      show its.countP isT = _
      rw [hi, List.countP_map, List.count]
      refine List.countP_congr fun b _ => ?_
      cases b <;> simp [isT]
    rw [ec]
def Kept (H : Hp) (a D : Addr) : Prop := (∃ d fs, H a = some (exk a (.ref D) (some d)) ∧ H d = some (.xd fs)) ∨ H a = some (exk a (.ref D) none)
theorem Kept.same {H H' : Hp} {a D : Addr} (s : Same H H') (h : Kept H a D) : Kept H' a D := by
  rcases h with ⟨d, fs, h1, h2⟩ | h1
  · exact .inl ⟨d, fs, s _ _ h1, s _ _ h2⟩
  · exact .inr (s _ _ h1)
def rIsE (K : PySem.W.Frag) : List V → Hp → VK → Prop := fun xs H Q => ∃ (a D : Addr) (c : V) (cv : Value) (b : Bool), xs = [.ref a, c] ∧ Kept H a D ∧ ExcC K D ∧ (∀ u, RelV c u → u = cv) ∧ PySem.W.kitOne K (.ref D) cv = some b ∧ Q (.bl b) H
theorem call_isE {X : Cx} : CallR X (.builtin "isinstance") (rIsE X.K) := by
  intro pins s σ H xs us Q I r h
  obtain ⟨a, D, c, cv, b, rfl, kp, C, hcv, e, q⟩ := h
  cases r with
  | cons rx rr =>
    cases rr with
    | cons rt rr =>
      cases rr
      cases rx
      have ec := hcv _ rt
      subst ec
      rcases kp with ⟨d, fs, ha, hd⟩ | ha
      · obtain ⟨oe, od, mA, J, _⟩ := inst_of I ha hd
        exact PySem.W.kia_one (exc_asked C) I.kIn J e (fun z => nomatch z) fun tk => ⟨.bl b, H, I.kept (t' := tk) fun _ _ z => z, rfl, q⟩
      · obtain ⟨oe, vs, he, hz, hv⟩ := exk_at I.hok ha
        have J : PySem.W.InstAt s.heap a oe D none := ⟨he, hz.1, by unfold PySem.W.notCls; rw [hv] <;> rfl, by rw [hz.2]; trivial⟩
        exact PySem.W.kia_one (exc_asked C) I.kIn J e (fun z => nomatch z) fun tk => ⟨.bl b, H, I.kept (t' := tk) fun _ _ z => z, rfl, q⟩
def kindW (j : Nat) : Str := (["line", "offer", "place", "text", "things"] : List Str).getD j "line"
/-- the five classes, and how the refusal of class D stands to them -/
structure Five (K : PySem.W.Frag) (mg : Str → Option Value) (cl CN cp ct ch CP : Addr) : Prop where
  l : mg "NoLine" = some (.ref cl)
  n : mg "NoOffer" = some (.ref CN)
  p : mg "NoPlace" = some (.ref cp)
  t : mg "NoText" = some (.ref ct)
  h : mg "NoThings" = some (.ref ch)
  g : mg "PackError" = some (.ref CP)
  v : mg "ValueError" = none
structure OneOf (K : PySem.W.Frag) (cl CN cp ct ch CP D : Addr) (j : Nat) : Prop where
  hj : j < 5
  exc : ExcC K D
  kl : PySem.W.kitOne K (.ref D) (.ref cl) = some (decide (0 = j))
  kn : PySem.W.kitOne K (.ref D) (.ref CN) = some (decide (1 = j))
  kpl : PySem.W.kitOne K (.ref D) (.ref cp) = some (decide (2 = j))
  kt : PySem.W.kitOne K (.ref D) (.ref ct) = some (decide (3 = j))
  kh : PySem.W.kitOne K (.ref D) (.ref ch) = some (decide (4 = j))
  kp : PySem.W.kitOne K (.ref D) (.ref CP) = some true
  kv : PySem.W.kitOne K (.ref D) (.type "ValueError") = some true
  ex : PySem.W.exmOne K (.ref D) (.ref CP) = some true
  nt : PySem.W.exmOne K (.ref D) (.ref ct) = some false
def sp_which (K : PySem.W.Frag) (cl CN cp ct ch CP : Addr) : Sp := fun vs H Q _ => ∃ (a D : Addr) (j : Nat), vs = [.ref a] ∧ Kept H a D ∧ OneOf K cl CN cp ct ch CP D j ∧ ∀ H', Same H H' → Q (.str (kindW j)) H'
theorem five_count {j : Nat} (h : j < 5) : ([decide (0 = j), decide (1 = j), decide (2 = j), decide (3 = j), decide (4 = j)].count true : Nat) = 1 := by
  match j, h with
  | 0, _ => rfl
  | 1, _ => rfl
  | 2, _ => rfl
  | 3, _ => rfl
  | 4, _ => rfl
theorem five_at {j : Nat} (h : j < 5) : [V.bl (decide (0 = j)), .bl (decide (1 = j)), .bl (decide (2 = j)), .bl (decide (3 = j)), .bl (decide (4 = j))][j]? = some (.bl true) ∧ ∀ m z, m < j → [V.bl (decide (0 = j)), .bl (decide (1 = j)), .bl (decide (2 = j)), .bl (decide (3 = j)), .bl (decide (4 = j))][m]? = some z → z = .bl false := by
  match j, h with
  | 0, _ => exact ⟨rfl, fun m z hm _ => by omega⟩
  | 1, _ => exact ⟨rfl, fun m z hm hz => by match m, hm with | 0, _ => exact (Option.some.inj hz).symm⟩
  | 2, _ => exact ⟨rfl, fun m z hm hz => by match m, hm with | 0, _ => exact (Option.some.inj hz).symm | 1, _ => exact (Option.some.inj hz).symm⟩
  | 3, _ => exact ⟨rfl, fun m z hm hz => by match m, hm with | 0, _ => exact (Option.some.inj hz).symm | 1, _ => exact (Option.some.inj hz).symm | 2, _ => exact (Option.some.inj hz).symm⟩
  | 4, _ => exact ⟨rfl, fun m z hm hz => by match m, hm with | 0, _ => exact (Option.some.inj hz).symm | 1, _ => exact (Option.some.inj hz).symm | 2, _ => exact (Option.some.inj hz).symm | 3, _ => exact (Option.some.inj hz).symm⟩
theorem kind_at {j : Nat} (h : j < 5) : [V.str "line", .str "offer", .str "place", .str "text", .str "things"][j]? = some (.str (kindW j)) := by
  match j, h with
  | 0, _ => rfl
  | 1, _ => rfl
  | 2, _ => rfl
  | 3, _ => rfl
  | 4, _ => rfl
section
variable {P : Program} {w : World} {K : PySem.W.Frag} {mg : Str → Option Value} {base : Heap} {T : List Addr} {cl C cp ct ch CP : Addr}
theorem ok_which {f : Addr} {fd : FuncData} {k : Nat} (M : Names mg) (Y : Five K mg cl C cp ct ch CP) (D : Def K mg "_law_which" s_law_which ["_law_e"] f fd) : FnOk P w K mg base CX0 (k + 1) f fd ["_law_e"] (sp_which K cl C cp ct ch CP) := by
  refine D.F.ok sc_law_which (fun vs H Q E h => ?_) (fun cdv A outer s H vs Q E hr h => ?_)
  · obtain ⟨a, D, j, rfl, _⟩ := h
    rfl
  · obtain ⟨a, D, j, rfl, ha, O, q⟩ := h
    have hj := O.hj
    refine ⟨_, pss_cons (ps_set (i := 1) sc_law_which.nd rfl (Or.inl rfl) (pe_lst (pa_cons (pe_callB (call_isE) (by rfl) M.isinstance (by decide +kernel) (pa_cons (pv 0) (pa_cons (pe_glob (v := .ref cl) (by rfl) Y.l rfl) pa_nil))) (pa_cons (pe_callB (call_isE) (by rfl) M.isinstance (by decide +kernel) (pa_cons (pv 0) (pa_cons (pe_glob (v := .ref C) (by rfl) Y.n rfl) pa_nil))) (pa_cons (pe_callB (call_isE) (by rfl) M.isinstance (by decide +kernel) (pa_cons (pv 0) (pa_cons (pe_glob (v := .ref cp) (by rfl) Y.p rfl) pa_nil))) (pa_cons (pe_callB (call_isE) (by rfl) M.isinstance (by decide +kernel) (pa_cons (pv 0) (pa_cons (pe_glob (v := .ref ct) (by rfl) Y.t rfl) pa_nil))) pa_nil))))))
      (pss_cons (ps_expr (pe_bm PySem.F.plainAttrs_list PySem.F.slot_list_append PySem.F.type_list_append mt_append (pv 1) (pa_cons (pe_callB (call_isE) (by rfl) M.isinstance (by decide +kernel) (pa_cons (pv 0) (pa_cons (pe_glob (v := .ref ch) (by rfl) Y.h rfl) pa_nil))) pa_nil)))
      (pss_cons (ps_if (PW.pt (pw_or (pt_not (pt_val (pe_callB (call_isE) (by rfl) M.isinstance (by decide +kernel) (pa_cons (pv 0) (pa_cons (pe_glob (v := .ref CP) (by rfl) Y.g rfl) pa_nil))))) (pw_or (pt_not (pt_val (pe_callB (call_isE) (by rfl) M.isinstance (by decide +kernel) (pa_cons (pv 0) (pa_cons (pe_bltn (v := .ty "ValueError") (by rfl) Y.v (by decide +kernel) rfl) pa_nil))))) (pw_or1 (pt_cmpR op_ne (pe_bm PySem.F.plainAttrs_list PySem.F.slot_list_count PySem.F.type_list_count mt_countB (pv 1) (pa_cons pe_bl pa_nil)) pe_int (nomark _))))))
        (pss_one (ps_ret pe_str)) pss_nil)
      (pss_one (ps_ret (pe_ix ix_list (pe_lst (pa_cons pe_str (pa_cons pe_str (pa_cons pe_str (pa_cons pe_str (pa_cons pe_str pa_nil)))))) (pe_bm PySem.F.plainAttrs_list PySem.F.slot_list_index PySem.F.type_list_index mt_index (pv 1) (pa_cons pe_bl pa_nil)) (fun _ _ => rfl)))))), ?_⟩
    refine ⟨_, rfl, a, D, _, _, _, rfl, ha, O.exc, fun u h => h, O.kl, _, rfl, a, D, _, _, _, rfl, ha, O.exc, fun u h => h, O.kn, _, rfl, a, D, _, _, _, rfl, ha, O.exc, fun u h => h, O.kpl, _, rfl, a, D, _, _, _, rfl, ha, O.exc, fun u h => h, O.kt, by show 4 ≤ sizeLine; decide, fun L nL => ?_⟩
    have s1 := same_upd (o := .lst [.bl (decide (0 = j)), .bl (decide (1 = j)), .bl (decide (2 = j)), .bl (decide (3 = j))]) nL
    have hL : upd H L (.lst [.bl (decide (0 = j)), .bl (decide (1 = j)), .bl (decide (2 = j)), .bl (decide (3 = j))]) L = some (.lst [.bl (decide (0 = j)), .bl (decide (1 = j)), .bl (decide (2 = j)), .bl (decide (3 = j))]) := upd_same
    generalize upd H L (.lst [.bl (decide (0 = j)), .bl (decide (1 = j)), .bl (decide (2 = j)), .bl (decide (3 = j))]) = H1 at s1 hL ⊢
    refine ⟨_, rfl, .inl ⟨rfl, _, SqL.of hL⟩, _, rfl, a, D, _, _, _, rfl, ha.same s1, O.exc, fun u h => h, O.kh, L, _, _, rfl, rfl, hL, by show 4 < sizeLine; decide, ?_⟩
    have s2 := sm_new (o := .lst ([.bl (decide (0 = j)), .bl (decide (1 = j)), .bl (decide (2 = j)), .bl (decide (3 = j))] ++ [.bl (decide (4 = j))])) s1 nL
    have hL2 : upd H1 L (.lst ([.bl (decide (0 = j)), .bl (decide (1 = j)), .bl (decide (2 = j)), .bl (decide (3 = j))] ++ [.bl (decide (4 = j))])) L = some (.lst [.bl (decide (0 = j)), .bl (decide (1 = j)), .bl (decide (2 = j)), .bl (decide (3 = j)), .bl (decide (4 = j))]) := upd_same
    generalize upd H1 L (.lst ([.bl (decide (0 = j)), .bl (decide (1 = j)), .bl (decide (2 = j)), .bl (decide (3 = j))] ++ [.bl (decide (4 = j))])) = H2 at s2 hL2 ⊢
    have ha2 := ha.same s2
    refine ⟨_, rfl, a, D, _, _, true, rfl, ha2, O.exc, fun u h => h, O.kp, true, rfl, ?_⟩
    refine ⟨_, rfl, a, D, _, _, true, rfl, ha2, O.exc, fun u h => h, O.kv, true, rfl, ?_⟩
    refine ⟨_, rfl, .inl ⟨rfl, _, SqL.of hL2⟩, L, [decide (0 = j), decide (1 = j), decide (2 = j), decide (3 = j), decide (4 = j)], rfl, rfl, SqL.of hL2, rfl, false, ?_, ?_⟩
    · rw [five_count hj]
      rfl
    refine ⟨by show 5 ≤ sizeLine; decide, fun W nW => ?_⟩
    have sW := same_upd (o := .lst [.str "line", .str "offer", .str "place", .str "text", .str "things"]) nW
    refine ⟨_, rfl, .inl ⟨rfl, _, SqL.of (sW _ _ hL2)⟩, L, _, .bl true, j, .bl true, rfl, rfl, SqL.of (sW _ _ hL2), rfl, rfl, (five_at hj).1, rfl, fun m z hm hz => ?_, ?_⟩
    · rw [(five_at hj).2 m z hm hz]
      rfl
    · exact ⟨W, _, _, _, rfl, rfl, SqL.of upd_same, atI_nat (j := j) (kind_at hj), q _ (s2.trans sW)⟩
end
/-! ### _law_says -/
abbrev s_law_says : Stmt := topS 96
abbrev N_law_says : List Str := ["_law_desk", "_law_line", "_law_kept", "_law_found", "_law_e"]
theorem sc_law_says : FnScope N_law_says ["_law_desk", "_law_line"] (defScope s_law_says) := ⟨rfl, rfl, rfl, by decide +kernel, rfl, by decide +kernel, by decide +kernel⟩

def sp_says (K : PySem.W.Frag) (sa : Sp) (C cl CN cp ct ch CP : Addr) : Sp := fun vs H Q _ => ∃ (D : Addr) (line : Str), vs = [.ref D, .str line] ∧ spx_say K sa C ch ct vs H (fun v H' => ∃ t : Str, v = .str t ∧ ∀ p, H' p = none → Q (.ref p) (upd H' p (.lst [.str t])))
  (fun cls d H' => ∃ (Da : Addr) (j : Nat), cls = .ref Da ∧ OneOf K cl CN cp ct ch CP Da j ∧
    ((j = 1 ∧ Da = CN ∧ ∃ (e : Addr) (n : Int), d = some e ∧ H' e = some (.xd [("place", .int n)]) ∧ ∀ H2 p, Same H' H2 → H' p = none → H2 p = some (.lst [.str "offer", .int n]) → Q (.ref p) H2) ∨
     (j ≠ 1 ∧ d = none ∧ ∀ H2 p, Same H' H2 → H' p = none → H2 p = some (.lst [.str (kindW j), .str ""]) → Q (.ref p) H2)))
section
variable {P : Program} {w : World} {K : PySem.W.Frag} {mg : Str → Option Value} {base : Heap} {T : List Addr} {C cl CN cp ct ch CP fI : Addr} {fdI : FuncData}
theorem ok_says {f f1 f2 : Addr} {fd fd1 fd2 : FuncData} {k : Nat} {sa : Sp} (M : Names mg) (XN : Exs K mg CN CP fI fdI) (Y : Five K mg cl CN cp ct ch CP) (D : Def K mg "_law_says" s_law_says ["_law_desk", "_law_line"] f fd) (D_law_which : Def K mg "_law_which" s_law_which ["_law_e"] f1 fd1) (G_law_which : FnOk P w K mg base CX0 k f1 fd1 ["_law_e"] (sp_which K cl CN cp ct ch CP))
    (T_Desk : DeskT K mg C) (m_Desk_say : Meth K C "say" f2) (b_Desk_say : Binds K fd2 ["self", "line"] []) (G_Desk_say : FnOk P w K mg base (L2.CX P w) k f2 fd2 ["self", "line"] (spx_say K sa C ch ct)) (mono : ∀ vs H Q (E E' : XK), (∀ cls d H, E cls d H → E' cls d H) → sa vs H Q E → sa vs H Q E') (monoQ : ∀ vs H (Q Q' : VK) (E : XK), (∀ v H, Q v H → Q' v H) → sa vs H Q E → sa vs H Q' E) :
    FnOk P w K mg base CX0 (k + 1) f fd ["_law_desk", "_law_line"] (sp_says K sa C cl CN cp ct ch CP) := by
  refine D.F.ok sc_law_says (fun vs H Q E h => ?_) (fun cdv A outer s H vs Q E hr h => ?_)
  · obtain ⟨D, line, rfl, _⟩ := h
    rfl
  · obtain ⟨D, line, rfl, sy⟩ := h
    refine ⟨_, pss_cons (ps_set (i := 2) sc_law_says.nd rfl (Or.inl rfl) pe_non)
      (pss_cons (ps_set (i := 3) sc_law_says.nd rfl (Or.inl rfl) pe_non)
      (pss_cutI (ps_try_asK (i := 4) (tb := fun W => tAsg (tMethX C "say" (spx_say K sa C ch ct) (WE W) (tVar 0) (tCons (tVar 1) tNil)) (gName 3)) (ts := tAsg (tVar 4) (gName 2)) (Wout := fun _ _ _ _ => False) rfl rfl rfl sc_law_says.nd rfl rfl ⟨rfl, by decide, Or.inl Y.g⟩ takes0
        (fun W pn xe tk _ => pss_one (ps_set (i := 3) sc_law_says.nd rfl (Or.inl rfl) (by exact (pe_methX (pv 0) T_Desk.cl m_Desk_say G_Desk_say hr b_Desk_say (fun σ => passAt tk σ) (by exact (pa_cons (pv 1) pa_nil))))))
        (fun a pn => pss_one (ps_set (i := 2) sc_law_says.nd rfl (Or.inl rfl) (by exact (pv 4)))))
      (pss_cons (ps_if (pt_cmpR op_isN (pv 2) pe_non (nomark _)) (pss_one (ps_ret (pe_lst (pa_cons (pv 3) pa_nil)))) pss_nil)
      (pss_cons (ps_if (pt_cmpR op_eq (pe_call G_law_which hr (by rfl) D_law_which.g D_law_which.F.kp D_law_which.b .nil pass0 (pa_cons (pv 2) pa_nil)) pe_str (nomark _)) (pss_one (ps_ret (pe_lst (pa_cons pe_str (pa_cons (pe_xk (pv 2)) pa_nil))))) pss_nil)
      (pss_one (ps_ret (pe_lst (pa_cons (pe_call G_law_which hr (by rfl) D_law_which.g D_law_which.F.kp D_law_which.b .nil pass0 (pa_cons (pv 2) pa_nil)) (pa_cons pe_str pa_nil))))))))), ?_⟩
    refine ⟨fun σ' H' => (∃ t : Str, σ' = [some (.ref D), some (.str line), some .non, some (.str t), none] ∧ ∀ p, H' p = none → Q (.ref p) (upd H' p (.lst [.str t]))) ∨
      ∃ (a Da : Addr) (j : Nat), σ' = [some (.ref D), some (.str line), some (.ref a), some .non, none] ∧ Kept H' a Da ∧ OneOf K cl CN cp ct ch CP Da j ∧
        ((j = 1 ∧ Da = CN ∧ ∃ (e : Addr) (n : Int), H' a = some (exk a (.ref CN) (some e)) ∧ H' e = some (.xd [("place", .int n)]) ∧ ∀ H2 p, Same H' H2 → H' p = none → H2 p = some (.lst [.str "offer", .int n]) → Q (.ref p) H2) ∨
         (j ≠ 1 ∧ ∀ H2 p, Same H' H2 → H' p = none → H2 p = some (.lst [.str (kindW j), .str ""]) → Q (.ref p) H2)), ?_, fun σ' H' hI => ?_⟩
    · obtain ⟨dx, S, nv, hD⟩ : ∃ dx S nv, H D = some (.ins C dx (deskF nv S)) := by
        obtain ⟨D', dx, S, nv, line', word, bl, tx, e, hD, _⟩ := id sy
        injection e with e1 _
        injection e1 with e1
        subst e1
        exact ⟨dx, S, nv, hD⟩
      refine ⟨_, rfl, D, dx, _, rfl, hD, df_no (by decide +kernel) (by decide +kernel), _, rfl, ?_⟩
      have big : ∀ (Q1 Q2 : VK) (E1 E2 : XK), (∀ v H, Q1 v H → Q2 v H) → (∀ cls d H, E1 cls d H → E2 cls d H) → spx_say K sa C ch ct [.ref D, .str line] H Q1 E1 → spx_say K sa C ch ct [.ref D, .str line] H Q2 E2 := fun Q1 Q2 E1 E2 hq he h => by
        obtain ⟨D', dx, S, nv, line', word, bl, tx, e, hD, hp, hl, hw, ways⟩ := h
        refine ⟨D', dx, S, nv, line', word, bl, tx, e, hD, hp, hl, hw, ?_⟩
        rcases ways with ⟨w1, w2, w3, w4⟩ | ⟨w1, w2, w3⟩
        · exact .inl ⟨w1, w2, w3, fun H' s => he _ _ _ (w4 H' s)⟩
        · exact .inr ⟨w1, w2, fun H' s => mono _ _ _ _ _ (fun cls d H h => ⟨h.1, he _ _ _ h.2⟩) (monoQ _ _ _ _ _ hq (w3 H' s))⟩
      refine big _ _ _ _ (fun v H' h => ?_) (fun cls d H' h => ?_) sy
      · obtain ⟨t, rfl, q⟩ := h
        exact .inl ⟨t, rfl, q⟩
      · obtain ⟨Da, j, rfl, O, ways⟩ := h
        refine ⟨true, O.ex, fun _ a na => ?_, fun z => Bool.noConfusion z⟩
        refine ⟨_, rfl, .inr ⟨a, Da, j, rfl, ?_, O, ?_⟩⟩
        · rcases ways with ⟨_, _, e, n, rfl, he, _⟩ | ⟨_, rfl, _⟩
          · have ne : e ≠ a := fun z => by rw [z, na] at he; cases he
            exact .inl ⟨e, _, upd_same, by rw [upd_ne ne]; exact he⟩
          · exact .inr upd_same
        · rcases ways with ⟨j1, rfl, e, n, rfl, he, q⟩ | ⟨j1, rfl, q⟩
          · have ne : e ≠ a := fun z => by rw [z, na] at he; cases he
            exact .inl ⟨j1, rfl, e, n, upd_same, by rw [upd_ne ne]; exact he, fun H2 p s np hp => q H2 p ((same_upd na).trans s) ((same_upd na).free np) hp⟩
          · exact .inr ⟨j1, fun H2 p s np hp => q H2 p ((same_upd na).trans s) ((same_upd na).free np) hp⟩
    · rcases hI with ⟨t, rfl, q⟩ | ⟨a, Da, j, rfl, kp, O, ways⟩
      · exact ⟨_, rfl, rfl, true, rfl, _, rfl, by show 1 ≤ sizeLine; decide, fun p np => q p np⟩
      · refine ⟨_, rfl, rfl, false, rfl, ?_⟩
        refine ⟨_, rfl, a, Da, j, rfl, kp, O, fun H1 s1 => ⟨rfl, ?_⟩⟩
        rcases ways with ⟨rfl, rfl, e, n, ha, he, q⟩ | ⟨j1, q⟩
        · refine ⟨true, rfl, ?_⟩
          refine ⟨_, rfl, a, _, e, _, _, rfl, s1 _ _ ha, s1 _ _ he, XN.xf, XN.np, rfl, by show 2 ≤ sizeLine; decide, fun p np => ?_⟩
          exact q _ p (s1.trans (same_upd np)) (s1.free np) upd_same
        · have hk : kindW j ≠ "offer" := by
            have hj := O.hj
            match j, hj, j1 with
            | 0, _, _ => decide +kernel
            | 2, _, _ => decide +kernel
            | 3, _, _ => decide +kernel
            | 4, _, _ => decide +kernel
          refine ⟨false, ?_, ?_⟩
          · show V.bl (decide (V.str (kindW j) = V.str ("offer" : Str))) = V.bl false
            rw [decide_eq_false fun z => hk (V.str.inj z)]
          · refine ⟨_, rfl, a, Da, j, rfl, kp.same s1, O, fun H2 s2 => ⟨by show 2 ≤ sizeLine; decide, fun p np => ?_⟩⟩
            exact q _ p ((s1.trans s2).trans (same_upd np)) ((s1.trans s2).free np) upd_same
end
/-! ### _law_pop -/
abbrev s_law_pop : Stmt := topS 83
abbrev N_law_pop : List Str := ["_law_draws_here"]
theorem sc_law_pop : FnScope N_law_pop ["_law_draws_here"] (defScope s_law_pop) := ⟨rfl, rfl, rfl, by decide +kernel, rfl, by decide +kernel, by decide +kernel⟩

def sp_pop : Sp := fun vs H Q _ => ∃ (a : Addr) (ns : List Int), vs = [.ref a] ∧ H a = some (LI ns) ∧ ∀ H', SameBut a H H' → H' a = some (LI ns.tail) → Q (.int (ns.headD 0)) H'
section
variable {P : Program} {w : World} {K : PySem.W.Frag} {mg : Str → Option Value} {base : Heap}
theorem ok_pop {f : Addr} {fd : FuncData} {k : Nat} (D : Def K mg "_law_pop" s_law_pop ["_law_draws_here"] f fd) : FnOk P w K mg base CX0 (k + 1) f fd ["_law_draws_here"] sp_pop := by
  refine D.F.ok sc_law_pop (fun vs H Q E h => ?_) (fun cdv A outer s H vs Q E hr h => ?_)
  · obtain ⟨a, ns, rfl, _⟩ := h
    rfl
  · obtain ⟨a, ns, rfl, ha, q⟩ := h
    refine ⟨_, (pss_cons (ps_if (pt_cmpR (op_eqD hr.units) (pv 0) (pe_lst pa_nil) (nomark _))
   (pss_one (ps_ret pe_int))
   pss_nil)
  (pss_one (ps_ret (pe_bm PySem.F.plainAttrs_list PySem.F.slot_list_pop PySem.F.type_list_pop mt_popAt (pv 0) (pa_cons pe_int pa_nil))))), ?_⟩
    refine ⟨.ref a, rfl, Nat.zero_le _, fun p np => ?_⟩
    have ne : a ≠ p := ne_of_none ha np
    have ha1 : upd H p (.lst []) a = some (LI ns) := by rw [upd_ne ne]; exact ha
    have s1 : SameBut a H (upd H p (.lst [])) := .of (same_upd np)
    refine ⟨_, _, dp_ints (SqL.of ha1), dp_ints (ns := []) (SqL.of upd_same), shaped_ints _, shaped_ints _, _, rfl, ite2 (fun e => ?_) (fun e => ?_)⟩
    · rw [eqv_ints] at e
      have e2 : ns = [] := of_decide_eq_true e
      subst e2
      exact q _ s1 ha1
    · rw [eqv_ints] at e
      cases ns with
      | nil => exact absurd (decide_eq_true rfl) e
      | cons n r =>
        refine ⟨.ref a, rfl, .inl ⟨rfl, _, SqL.of ha1⟩, a, _, 0, 0, .int n, rfl, rfl, ha1, by decide, by decide, ?_, rfl, ?_⟩
        · rw [List.length_map, List.length_cons]
          exact (ixN_seq (ixN_nat (Nat.succ_pos _))).1
        · exact q _ (s1.trans .upd) upd_same
end
/-! ### _law_draws -/
abbrev s_law_draws : Stmt := topS 82
abbrev N_law_draws : List Str := ["_law_script", "_law_turn_here", "_law_many", "_law_cells", "_law_found", "_law_k", "_law_left", "_law_place", "_law_number", "_law_at", "_law_cell"]
theorem sc_law_draws : FnScope N_law_draws ["_law_script", "_law_turn_here", "_law_many"] (defScope s_law_draws) := ⟨rfl, rfl, rfl, by decide +kernel, rfl, by decide +kernel, by decide +kernel⟩

theorem cut_to (ns : List Int) (k : Nat) : cutV (ns.map V.int) none (some (k : Int)) = (ns.take k).map V.int := by
  unfold cutV
  rw [HT.sIx_nat, HT.sIx_none, List.drop_zero, Nat.sub_zero, List.map_take]
  exact (List.take_eq_take_iff).mpr (by omega)
def sp_draws (K : PySem.W.Frag) : Sp := fun vs H Q _ => ∃ (a : Addr) (ns : List Int) (t m : Nat), vs = [.ref a, .int t, .int m] ∧ SqL K H a (ns.map V.int) ∧ ns.length ≤ 1000 ∧ t ≤ 1000 ∧ m ≤ 1000 ∧
  ∀ H' p ds, Same H H' → H p = none → H' p = some (LI ds) → Q (.ref p) H'
section
variable {P : Program} {w : World} {K : PySem.W.Frag} {mg : Str → Option Value} {base : Heap}
theorem ok_draws {f : Addr} {fd : FuncData} {k : Nat} (M : Names mg) (D : Def K mg "_law_draws" s_law_draws ["_law_script", "_law_turn_here", "_law_many"] f fd) :
    FnOk P w K mg base CX0 (k + 1) f fd ["_law_script", "_law_turn_here", "_law_many"] (sp_draws K) := by
  refine D.F.ok sc_law_draws (fun vs H Q E h => ?_) (fun cdv A outer s H vs Q E hr h => ?_)
  · obtain ⟨a, ns, t, m, rfl, _⟩ := h
    rfl
  · obtain ⟨a, ns, t, m, rfl, hS, hl, ht, hm, q⟩ := h
    refine ⟨_, (pss_cons (ps_set (i := 3) sc_law_draws.nd rfl (Or.inl rfl) (pe_op op_cat (pe_slice sl_list (pv 0) po_none (po_some pe_int)) (pe_lst (pa_cons (pv 1) pa_nil))))
  (pss_cons (ps_set (i := 4) sc_law_draws.nd rfl (Or.inl rfl) (pe_lst pa_nil))
  (pss_cons (ps_if (pt_cmpR op_eq (pe_op op_mod (pe_op op_fdiv (pe_ix ix_list (pv 3) pe_int (fun _ _ => rfl)) pe_int) pe_int) pe_int (nomark _))
   (pss_cons (ps_setLc (i := 6) (own := [("_law_cell", 10)]) (by rfl) sc_law_draws.nd rfl rfl (sw_true rfl rfl rfl (by decide +kernel)) (pi_list (pv 3)) (blkOk_by (own := [("_law_cell", 10)]) (N := N_law_draws) (sc := defScope s_law_draws) (by decide +kernel)) (fun _ _ _ _ _ => (pg_name (i := 10) sc_law_draws.nd rfl (Or.inl rfl))) (fun _ _ _ _ _ => pts_nil) (fun _ _ _ _ _ => (pe_op op_fdiv (pv 10) pe_int)))
  (pss_cons (ps_for PassesOwn.never rfl (pi_range1 (by rfl) M.range (pa_cons (pe_op op_add (pv 1) (pv 2)) pa_nil)) (pg_name (i := 5) sc_law_draws.nd rfl (Or.inl rfl))
   (pss_cons (ps_set (i := 9) sc_law_draws.nd rfl (Or.inl rfl) (pe_op op_mod (pv 5) (pe_callB call_len_seq (by rfl) M.len (by decide +kernel) (pa_cons (pv 6) pa_nil))))
  (pss_cons (ps_if (pt_cmpR op_ge (pv 5) (pv 1) (nomark _))
   (pss_one (ps_expr (pe_bm PySem.F.plainAttrs_list PySem.F.slot_list_append PySem.F.type_list_append mt_append (pv 4) (pa_cons (pe_op op_mod (pe_ix ix_list (pv 6) (pv 9) (fun _ _ => rfl)) pe_int) pa_nil))))
   pss_nil)
  (pss_one (ps_asg (pe_op op_fdivW (pe_ix ix_list (pv 6) (pv 9) (fun _ _ => rfl)) pe_int) (pg_sub (pv 6) (pv 9) set_list))))))
  (pss_one (ps_ret (pv 4)))))
   pss_nil)
  (pss_cons (ps_for PassesOwn.never rfl (pi_range1 (by rfl) M.range (pa_cons (pv 2) pa_nil)) (pg_name (i := 5) sc_law_draws.nd rfl (Or.inl rfl))
   (pss_cons (ps_set (i := 7) sc_law_draws.nd rfl (Or.inl rfl) (pe_op op_add (pe_op op_mul (pe_op op_mul (pe_op op_add (pv 5) (pv 1)) (pe_op op_add (pv 5) (pv 1))) pe_int) pe_int))
  (pss_cons (ps_set (i := 8) sc_law_draws.nd rfl (Or.inl rfl) (pe_op op_mod (pe_op op_mul (pe_op op_add (pe_op op_mod (pe_ix ix_list (pv 3) (pe_op op_mod (pv 5) (pe_callB call_len_seq (by rfl) M.len (by decide +kernel) (pa_cons (pv 3) pa_nil))) (fun _ _ => rfl)) pe_int) (pv 7)) pe_int) pe_int))
  (pss_cons (ps_set (i := 8) sc_law_draws.nd rfl (Or.inl rfl) (pe_op op_mod (pe_op op_add (pe_op op_mul (pv 8) (pv 8)) (pe_op op_mul pe_int (pv 5))) pe_int))
  (pss_one (ps_expr (pe_bm PySem.F.plainAttrs_list PySem.F.slot_list_append PySem.F.type_list_append mt_append (pv 4) (pa_cons (pe_op op_mod (pe_op op_mul (pv 8) (pv 8)) pe_int) pa_nil))))))))
  (pss_one (ps_ret (pv 4))))))), ?_⟩
    refine ⟨.ref a, rfl, 63, rfl, a, ns.map V.int, rfl, hS, fun c nc => ?_⟩
    refine ⟨.int t, rfl, by show 1 ≤ sizeLine; decide, fun u nu => ?_⟩
    have hcu : c ≠ u := ne_of_none upd_same nu
    have hc : (upd (upd H c (.lst (cutV (ns.map V.int) none (some 63)))) u (.lst [.int (t : Int)])) c = some (.lst (cutV (ns.map V.int) none (some 63))) := by
      rw [upd_ne hcu]
      exact upd_same
    have hlen := cutV_length (ns.map V.int) none (some 63)
    rw [List.length_map] at hlen
    refine ⟨c, u, _, _, rfl, rfl, hc, upd_same, szL (by rw [show ([V.int (t : Int)] : List V).length = 1 from rfl]; omega), fun e ne => ?_⟩
    obtain ⟨cs, ecs, hcs1, hcs2⟩ : ∃ cs : List Int, cutV (ns.map V.int) none (some 63) ++ [V.int (t : Int)] = cs.map V.int ∧ 0 < cs.length ∧ cs.length ≤ 2000 := by
      refine ⟨ns.take 63 ++ [(t : Int)], ?_, ?_, ?_⟩
      · rw [show (63 : Int) = ((63 : Nat) : Int) from rfl, cut_to, List.map_append]
        rfl
      · rw [List.length_append]
        exact Nat.succ_pos _
      · rw [List.length_append, List.length_take, List.length_singleton]
        omega
    have s1 : Same H (upd (upd (upd H c (.lst (cutV (ns.map V.int) none (some 63)))) u (.lst [.int (t : Int)])) e (.lst (cutV (ns.map V.int) none (some 63) ++ [.int (t : Int)]))) :=
      ((same_upd nc).trans (same_upd nu)).trans (same_upd ne)
    have he1 : (upd (upd (upd H c (.lst (cutV (ns.map V.int) none (some 63)))) u (.lst [.int (t : Int)])) e (.lst (cutV (ns.map V.int) none (some 63) ++ [.int (t : Int)]))) e = some (LI cs) := by
      rw [upd_same, ecs]
    generalize (upd (upd (upd H c (.lst (cutV (ns.map V.int) none (some 63)))) u (.lst [.int (t : Int)])) e (.lst (cutV (ns.map V.int) none (some 63) ++ [.int (t : Int)]))) = H1 at s1 he1 ⊢
    -- found = []
    refine ⟨Nat.zero_le _, fun o no => ?_⟩
    have hoe : e ≠ o := ne_of_none he1 no
    have s2 : Same H (upd H1 o (.lst [])) := s1.trans (same_upd no)
    have noH : H o = none := s1.free no
    have he2 : (upd H1 o (.lst [])) e = some (LI cs) := by rw [upd_ne hoe]; exact he1
    have ho2 : (upd H1 o (.lst [])) o = some (LI []) := upd_same
    generalize (upd H1 o (.lst [])) = H2 at s2 he2 ho2 ⊢
    -- cells[0] // 50000 % 2 == 1
    refine ⟨.ref e, rfl, e, _, 0, .int cs[0], rfl, rfl, SqL.of he2, atI_nat (j := 0) (getD_ints hcs1), _, _, rfl, rfl, ⟨by decide, by decide⟩, _, _, rfl, rfl, (by show (0 : Int) < _; decide), rfl, _, rfl, ite2 (fun _ => ?_) (fun _ => ?_)⟩
    · -- left = [cell // 100000 for cell in cells]
      refine ⟨.ref e, rfl, e, rfl, ⟨_, SqL.of he2⟩, fun B nB => lc_list (xs := cs.map V.int) (fun i H' => Same H2 H' ∧ ∃ ls : List Int, H' B = some (LI ls) ∧ ls.length = i) ⟨same_upd nB, [], upd_same, rfl⟩ (fun i H' _ hp => SqL.of (hp.1 _ _ he2)) (fun i x H' hx hp => ?_) (fun H3 hp => ?_)⟩
      · obtain ⟨s3, ls, hB, hls⟩ := hp
        obtain ⟨n, hn, rfl⟩ := of_get_ints hx
        have hi : i < cs.length := (List.getElem?_eq_some_iff.mp hn).1
        refine ⟨rfl, _, rfl, _, _, rfl, rfl, ⟨by decide, by decide⟩, _, hB, szL' (by rw [List.length_map]; omega), sm_new s3 nB, ls ++ [n / 100000], ?_, by rw [List.length_append, hls]; rfl⟩
        exact at_app
      · obtain ⟨s3, ls, hB, hls⟩ := hp
        rw [List.length_map] at hls
        have s3' := s2.trans s3
        have ho3 := s3 _ _ ho2
        have noB : o ≠ B := ne_of_none ho2 nB
        have nBH : H B = none := s2.free nB
        -- for k in range(turn + many)
        refine ⟨_, rfl, _, rfl, _, _, rfl, rfl, _, rfl, by omega, by omega, for_range (n := ((t : Int) + (m : Int)).toNat) (fun i σ H' => ∃ y5 y9, σ = [some (.ref a), some (.int t), some (.int m), some (.ref e), some (.ref o), y5, some (.ref B), none, none, y9, none] ∧ Same H H' ∧
          (∃ ds : List Int, H' o = some (LI ds) ∧ ds.length ≤ i) ∧ ∃ ls : List Int, H' B = some (LI ls) ∧ ls.length = cs.length) ⟨none, none, rfl, s3', ⟨[], ho3, Nat.zero_le _⟩, ls, hB, hls⟩ (fun i σ H4 hi hp => ?_) (fun σ H4 hp => ?_)⟩
        · obtain ⟨y5, y9, rfl, s4, ⟨ds, ho4, hds⟩, ls, hB4, hls⟩ := hp
          obtain ⟨j, hj, ej⟩ := mod_at (i := (0 : Int) + (i : Nat)) (n := (ls.map V.int).length) (by rw [List.length_map]; omega)
          rw [List.length_map] at hj
          refine ⟨_, rfl, _, rfl, B, _, rfl, .inl (SqL.of hB4), _, _, rfl, rfl, by rw [List.length_map]; omega, ?_⟩
          refine ⟨_, rfl, _, rfl, _, _, rfl, rfl, _, rfl, ite2 (fun _ => ?_) (fun _ => ?_)⟩
          · refine ⟨_, rfl, .inl ⟨rfl, _, SqL.of ho4⟩, _, rfl, _, rfl, B, _, _, _, rfl, rfl, SqL.of hB4, at_of ej (getD_ints hj), _, _, rfl, rfl, (by show (0 : Int) < _; decide), o, _, _, rfl, rfl, ho4, szL' (by rw [List.length_map]; omega), ?_⟩
            have hB5 : upd H4 o (.lst (ds.map V.int ++ [V.int (ls[j] % 2147483587)])) B = some (LI ls) := by rw [upd_ne noB.symm]; exact hB4
            refine ⟨_, rfl, _, rfl, B, _, _, _, rfl, rfl, SqL.of hB5, at_of ej (getD_ints hj), _, _, rfl, rfl, wide_div (b := 32) (by decide) (by decide) (by decide) (by decide), _, rfl, _, rfl, B, _, _, j, rfl, rfl, hB5, by rw [ej, List.length_map]; exact ixN_nat hj, ?_⟩
            refine ⟨_, _, rfl, sm_new (sm_new s4 noH) nBH, ⟨ds ++ [ls[j] % 2147483587], ?_, by rw [List.length_append, List.length_singleton]; omega⟩, ls.set j (ls[j] / 2147483587), ?_, by rw [List.length_set]; exact hls⟩
            · rw [upd_ne noB]
              exact at_app
            · exact at_set
          · refine ⟨_, rfl, _, rfl, B, _, _, _, rfl, rfl, SqL.of hB4, at_of ej (getD_ints hj), _, _, rfl, rfl, wide_div (b := 32) (by decide) (by decide) (by decide) (by decide), _, rfl, _, rfl, B, _, _, j, rfl, rfl, hB4, by rw [ej, List.length_map]; exact ixN_nat hj, ?_⟩
            refine ⟨_, _, rfl, sm_new s4 nBH, ⟨ds, ?_, by omega⟩, ls.set j (ls[j] / 2147483587), ?_, by rw [List.length_set]; exact hls⟩
            · rw [upd_ne noB]
              exact ho4
            · exact at_set
        · obtain ⟨y5, y9, rfl, s4, ⟨ds, ho4, hds⟩, _⟩ := hp
          exact ⟨_, rfl, q H4 o ds s4 noH ho4⟩
    · -- for k in range(many)
      refine ⟨_, rfl, _, rfl, by omega, by omega, for_range (n := (m : Int).toNat) (fun i σ H' => ∃ y5 y7 y8, σ = [some (.ref a), some (.int t), some (.int m), some (.ref e), some (.ref o), y5, none, y7, y8, none, none] ∧ Same H H' ∧ H' e = some (LI cs) ∧
        (∃ ds : List Int, H' o = some (LI ds) ∧ ds.length ≤ i)) ⟨none, none, none, rfl, s2, he2, [], ho2, Nat.zero_le _⟩ (fun i σ H4 hi hp => ?_) (fun σ H4 hp => ?_)⟩
      · obtain ⟨y5, y7, y8, rfl, s4, he4, ds, ho4, hds⟩ := hp
        have hi2 : i < m := by omega
        obtain ⟨j, hj, ej⟩ := mod_at (i := (0 : Int) + (i : Nat)) (n := (cs.map V.int).length) (by rw [List.length_map]; omega)
        rw [List.length_map] at hj
        -- place
        refine ⟨_, rfl, _, rfl, _, _, rfl, rfl, _, rfl, _, rfl, _, _, rfl, rfl, _, _, rfl, rfl, .inl ⟨by omega, by omega⟩, _, _, rfl, rfl, .inr ⟨by decide, by decide⟩, _, _, rfl, rfl, ?_⟩
        -- number
        refine ⟨_, rfl, _, rfl, _, rfl, e, _, rfl, .inl (SqL.of he4), _, _, rfl, rfl, by rw [List.length_map]; omega, e, _, _, _, rfl, rfl, SqL.of he4, at_of ej (getD_ints hj), _, _, rfl, rfl, (by show (0 : Int) < _; decide), _, rfl, _, _, rfl, rfl, _, _, rfl, rfl, .inr ⟨by decide, by decide⟩, _, _, rfl, rfl, (by show (0 : Int) < _; decide), ?_⟩
        have mb : ∀ z : Int, -(2 ^ 64) < z % 2147483647 ∧ z % 2147483647 < 2 ^ 64 := fun z => by omega
        have mb2 : ∀ z : Int, -(2 ^ 64) < z % 2147483629 ∧ z % 2147483629 < 2 ^ 64 := fun z => by omega
        refine ⟨_, rfl, _, rfl, _, _, rfl, rfl, .inl (mb _), _, rfl, _, _, rfl, rfl, .inl ⟨by decide, by decide⟩, _, _, rfl, rfl, _, _, rfl, rfl, (by show (0 : Int) < _; decide), ?_⟩
        refine ⟨_, rfl, .inl ⟨rfl, _, SqL.of ho4⟩, _, rfl, _, rfl, _, _, rfl, rfl, .inl (mb2 _), _, _, rfl, rfl, (by show (0 : Int) < _; decide), o, _, _, rfl, rfl, ho4, szL' (by rw [List.length_map]; omega), ?_⟩
        refine ⟨_, _, _, rfl, sm_new s4 noH, ?_, _, at_app, by rw [List.length_append, List.length_singleton]; omega⟩
        rw [upd_ne hoe]
        exact he4
      · obtain ⟨y5, y7, y8, rfl, s4, _, ds, ho4, hds⟩ := hp
        exact ⟨_, rfl, q H4 o ds s4 noH ho4⟩
end
/-! ### _law_want -/
abbrev s_law_want : Stmt := topS 84
abbrev N_law_want : List Str := ["_law_draws_here", "_law_many", "_law_number", "_law_found", "_law_k"]
theorem sc_law_want : FnScope N_law_want ["_law_draws_here", "_law_many"] (defScope s_law_want) := ⟨rfl, rfl, rfl, by decide +kernel, rfl, by decide +kernel, by decide +kernel⟩

theorem menu8 {j : Nat} (h : j < 8) : ∃ v : Int, ([V.int 0, V.int 1, V.int 2, V.int 9, V.int 4, V.int 5, V.int 3, V.int 1] : List V)[j]? = some (.int v) ∧ 0 ≤ v ∧ v ≤ 9 :=
  match j, h with
  | 0, _ => ⟨0, rfl, by decide, by decide⟩
  | 1, _ => ⟨1, rfl, by decide, by decide⟩
  | 2, _ => ⟨2, rfl, by decide, by decide⟩
  | 3, _ => ⟨9, rfl, by decide, by decide⟩
  | 4, _ => ⟨4, rfl, by decide, by decide⟩
  | 5, _ => ⟨5, rfl, by decide, by decide⟩
  | 6, _ => ⟨3, rfl, by decide, by decide⟩
  | 7, _ => ⟨1, rfl, by decide, by decide⟩
theorem shl_ok {i : Nat} (h : i < 4) : (0 : Int) < 1 * 2 ^ (3 * (0 + (i : Int))).toNat ∧ (1 : Int) * 2 ^ (3 * (0 + (i : Int))).toNat < 1073741824 :=
  match i, h with
  | 0, _ => by decide
  | 1, _ => by decide
  | 2, _ => by decide
  | 3, _ => by decide
def sp_want : Sp := fun vs H Q _ => ∃ (a : Addr) (ns : List Int) (m : Nat), vs = [.ref a, .int m] ∧ H a = some (LI ns) ∧ 1 ≤ m ∧ m ≤ 4 ∧
  ∀ H' p ws ns', SameBut a H H' → H p = none → p ≠ a → H' p = some (LI ws) → H' a = some (LI ns') → ws.length = m → Small ws → casesM ws ≤ 400 → Q (.ref p) H'
section
variable {P : Program} {w : World} {K : PySem.W.Frag} {mg : Str → Option Value} {base : Heap}
theorem ok_want {f fp fc : Addr} {fd fdp fdc : FuncData} {k : Nat} (M : Names mg) (D : Def K mg "_law_want" s_law_want ["_law_draws_here", "_law_many"] f fd) (D_law_pop : Def K mg "_law_pop" s_law_pop ["_law_draws_here"] fp fdp) (D_law_cases : Def K mg "_law_cases" s_law_cases ["_law_want_here"] fc fdc) :
    FnOk P w K mg base CX0 (k + 2) f fd ["_law_draws_here", "_law_many"] sp_want := by
  have G_law_pop : FnOk P w K mg base CX0 (k + 1) fp fdp ["_law_draws_here"] sp_pop := ok_pop D_law_pop
  have G_law_cases : FnOk P w K mg base CX0 (k + 1) fc fdc ["_law_want_here"] (sp_cases K) := ok_cases D_law_cases
  refine D.F.ok sc_law_want (fun vs H Q E h => ?_) (fun cdv A outer s H vs Q E hr h => ?_)
  · obtain ⟨a, ns, m, rfl, _⟩ := h
    rfl
  · obtain ⟨a, ns, m, rfl, ha, hm1, hm4, q⟩ := h
    refine ⟨_, (pss_cons (ps_set (i := 2) sc_law_want.nd rfl (Or.inr rfl) (pe_call G_law_pop hr (by rfl) D_law_pop.g D_law_pop.F.kp D_law_pop.b .nil pass0 (pa_cons (pv 0) pa_nil)))
  (pss_cons (ps_setLc (i := 3) (own := [("_law_k", 4)]) (by rfl) sc_law_want.nd rfl rfl (sw_true rfl rfl rfl (by decide +kernel)) (pi_range1 (by rfl) M.range (pa_cons (pv 1) pa_nil)) (blkOk_by (own := [("_law_k", 4)]) (N := N_law_want) (sc := defScope s_law_want) (by decide +kernel)) (fun _ _ _ _ _ => (pg_name (i := 4) sc_law_want.nd rfl (Or.inl rfl))) (fun _ _ _ _ _ => pts_nil) (fun _ _ _ _ _ => (pe_ix (ix_listK (K := K) rfl) (pe_lst (pa_cons pe_int (pa_cons pe_int (pa_cons pe_int (pa_cons pe_int (pa_cons pe_int (pa_cons pe_int (pa_cons pe_int (pa_cons pe_int pa_nil))))))))) (pe_op op_mod (pe_op op_fdiv (pv 2) (pe_op op_shl pe_int (pe_op op_mul pe_int (pv 4)))) pe_int) (fun _ _ => rfl))))
  (pss_cons (ps_if (pt_cmpR op_eq (pe_op op_mod (pe_op op_fdiv (pv 2) pe_int) pe_int) pe_int (nomark _))
   (pss_one (ps_setLc (i := 3) (own := [("_law_k", 4)]) (by rfl) sc_law_want.nd rfl rfl (sw_true rfl rfl rfl (by decide +kernel)) (pi_range1 (by rfl) M.range (pa_cons (pv 1) pa_nil)) (blkOk_by (own := [("_law_k", 4)]) (N := N_law_want) (sc := defScope s_law_want) (by decide +kernel)) (fun _ _ _ _ _ => (pg_name (i := 4) sc_law_want.nd rfl (Or.inl rfl))) (fun _ _ _ _ _ => pts_nil) (fun _ _ _ _ _ => (pe_op op_mod (pe_call G_law_pop hr (by rfl) D_law_pop.g D_law_pop.F.kp D_law_pop.b .nil pass0 (pa_cons (pv 0) pa_nil)) pe_int))))
   pss_nil)
  (pss_cons (ps_while PassesOwn.never (pt_cmpR op_gt (pe_call G_law_cases hr (by rfl) D_law_cases.g D_law_cases.F.kp D_law_cases.b .nil pass0 (pa_cons (pv 3) pa_nil)) pe_int (nomark _))
   (pss_one (ps_asg (pe_op op_sub (pe_callB (cr_max rfl) (by rfl) M.max (by decide +kernel) (pa_cons (pv 3) pa_nil)) pe_int) (pg_sub (pv 3) (pe_bm PySem.F.plainAttrs_list PySem.F.slot_list_index PySem.F.type_list_index mt_index (pv 3) (pa_cons (pe_callB (cr_max rfl) (by rfl) M.max (by decide +kernel) (pa_cons (pv 3) pa_nil)) pa_nil)) set_list))))
  (pss_one (ps_ret (pv 3))))))), ?_⟩
    -- number = pop(draws)
    refine ⟨.ref a, rfl, a, ns, rfl, ha, fun H1 s1 h1 => ?_⟩
    generalize ns.headD 0 = n0
    generalize ns.tail = ns1 at h1
    -- the menu
    refine ⟨_, rfl, _, rfl, by omega, by omega, fun B nB => lc_range (lo := 0) (n := (m : Int).toNat) (fun i H' => SameBut a H H' ∧ H' a = some (LI ns1) ∧ ∃ ws, H' B = some (LI ws) ∧ ws.length = i ∧ Small ws) ?_ (fun i H' hi hp => ?_) (fun H2 hp => ?_)⟩
    · have nBa : a ≠ B := ne_of_none h1 nB
      refine ⟨?_, ?_, [], upd_same, rfl, fun w hw => nomatch hw⟩
      · exact s1.new (s1.free nB (by rw [h1]; exact fun z => nomatch z))
      · rw [upd_ne nBa]
        exact h1
    · have nBa : a ≠ B := ne_of_none h1 nB
      have nBH : H B = none := s1.free nB (by rw [h1]; exact fun z => nomatch z)
      obtain ⟨s2, h2, ws, hB, hl, sm⟩ := hp
      have hi4 : i < 4 := by omega
      refine ⟨rfl, by show 8 ≤ sizeLine; decide, fun p np => ?_⟩
      have npB : B ≠ p := ne_of_none hB np
      have npa : a ≠ p := ne_of_none h2 np
      obtain ⟨j, hj, ej⟩ := mod_at (i := n0 / (1 * 2 ^ (3 * (0 + (i : Int))).toNat)) (n := 8) (by decide)
      obtain ⟨v, hv, hv1, hv2⟩ := menu8 hj
      refine ⟨_, rfl, _, rfl, _, _, rfl, rfl, .inl ⟨by decide, by decide⟩, _, _, rfl, rfl, ⟨by omega, by omega, by decide⟩, _, _, rfl, rfl, shl_ok hi4, _, _, rfl, rfl, (by show (0 : Int) < _; decide), p, _, _, _, rfl, rfl, SqL.of upd_same, at_of ej hv, ?_⟩
      have hB2 : (upd H' p (.lst [V.int 0, V.int 1, V.int 2, V.int 9, V.int 4, V.int 5, V.int 3, V.int 1])) B = some (LI ws) := by rw [upd_ne npB]; exact hB
      refine ⟨_, hB2, szL' (by rw [List.length_map]; omega), ?_, ?_, _, at_app, by rw [List.length_append, hl]; rfl, sm.app hv1 hv2⟩
      · exact (s2.new (s2.free np (by rw [h2]; exact fun z => nomatch z))).new nBH
      · rw [upd_ne nBa, upd_ne npa]
        exact h2
    · have nBa : a ≠ B := ne_of_none h1 nB
      have nBH : H B = none := s1.free nB (by rw [h1]; exact fun z => nomatch z)
      obtain ⟨s2, h2, ws, hB, hl, sm⟩ := hp
      -- the end: while and return, from any found list
      have fin : ∀ (L : Addr) (σ : L2.St) (H3 : Hp), σ = [some (.ref a), some (.int m), some (.int n0), some (.ref L), none] → H L = none → a ≠ L → SameBut a H H3 → (∃ ns3, H3 a = some (LI ns3)) → (∃ ws, H3 L = some (LI ws) ∧ ws.length = m ∧ Small ws) →
          ∃ W : Nat → L2.St → Hp → Prop, (∃ μ, W μ σ H3) ∧ ∀ μ σ H4, W μ σ H4 → ∃ ws, W μ σ H4 ∧ σ = [some (.ref a), some (.int m), some (.int n0), some (.ref L), none] ∧ SameBut a H H4 ∧ (∃ ns3, H4 a = some (LI ns3)) ∧ H4 L = some (LI ws) ∧ ws.length = m ∧ Small ws ∧ μ = ws.sum.toNat ∧
            ∀ ws' : List Int, ws'.length = m → Small ws' → ws'.sum < ws.sum → ∃ μ', μ' < μ ∧ W μ' σ (upd H4 L (LI ws')) := by
        intro L σ H3 eσ nL naL s3 h3 h4
        refine ⟨fun μ σ H4 => ∃ ws, σ = [some (.ref a), some (.int m), some (.int n0), some (.ref L), none] ∧ SameBut a H H4 ∧ (∃ ns3, H4 a = some (LI ns3)) ∧ H4 L = some (LI ws) ∧ ws.length = m ∧ Small ws ∧ μ = ws.sum.toNat, ?_, ?_⟩
        · obtain ⟨ws, e1, e2, e3⟩ := h4
          exact ⟨_, ws, eσ, s3, h3, e1, e2, e3, rfl⟩
        · intro μ σ H4 hW
          obtain ⟨ws, e1, e2, ⟨ns3, e3⟩, e4, e5, e6, e7⟩ := id hW
          refine ⟨ws, hW, e1, e2, ⟨ns3, e3⟩, e4, e5, e6, e7, fun ws' l1 l2 l3 => ⟨_, ?_, ws', e1, e2.new nL, ⟨ns3, ?_⟩, upd_same, l1, l2, rfl⟩⟩
          · have p1 : 0 ≤ ws'.sum := sum_nonneg fun w hw => (l2 w hw).1
            omega
          · rw [upd_ne naL]
            exact e3
      have body : ∀ (L : Addr) (H4 : Hp) (ws : List Int), H L = none → a ≠ L → SameBut a H H4 → (∃ ns3, H4 a = some (LI ns3)) → H4 L = some (LI ws) → ws.length = m → Small ws → casesM ws > 400 →
          ∀ mx : Int, mx ∈ ws → (∀ y, y ∈ ws → y ≤ mx) → ∃ j : Nat, ws[j]? = some mx ∧ (∀ (m' : Nat) (z' : V), m' < j → (ws.map V.int)[m']? = some z' → eqV z' (.int mx) = false) ∧ j < ws.length ∧ (ws.set j (mx - 1)).length = m ∧ Small (ws.set j (mx - 1)) ∧ (ws.set j (mx - 1)).sum < ws.sum := by
        intro L H4 ws nL naL s4 h3 h4 hl sm hc mx hmx hle
        obtain ⟨j, h1, h2⟩ := first_at hmx
        have pos : 1 ≤ mx := by
          rcases Int.lt_or_le mx 1 with z | z
          · have e : casesM ws = 1 := casesM_zero ws 1 fun w hw => by
              have a1 := hle w hw
              have a2 := sm w hw
              omega
            omega
          · exact z
        have b := sm mx hmx
        refine ⟨j, h1, fun m' z' hm hz => ?_, (List.getElem?_eq_some_iff.mp h1).1, by rw [List.length_set]; exact hl, fun w hw => ?_, ?_⟩
        · obtain ⟨y, hy, rfl⟩ := of_get_ints hz
          have := h2 m' y hm hy
          show (y == mx) = false
          exact beq_eq_false_iff_ne.mpr this
        · rcases List.mem_or_eq_of_mem_set hw with z | z
          · exact sm w z
          · omega
        · rw [sum_set h1]
          omega
      -- number // 4096 % 4 == 0
      refine ⟨_, rfl, _, _, rfl, rfl, ⟨by decide, by decide⟩, _, _, rfl, rfl, (by show (0 : Int) < _; decide), rfl, _, rfl, ite2 (fun _ => ?_) (fun _ => ?_)⟩
      · refine ⟨_, rfl, _, rfl, by omega, by omega, fun L nL => lc_range (lo := 0) (n := (m : Int).toNat) (fun i H' => SameBut a H H' ∧ (∃ ns3, H' a = some (LI ns3)) ∧ ∃ ws, H' L = some (LI ws) ∧ ws.length = i ∧ Small ws) ?_ (fun i H' hi hp => ?_) (fun H3 hp => ?_)⟩
        · have naL : a ≠ L := ne_of_none h2 nL
          refine ⟨s2.new (s2.free nL (by rw [h2]; exact fun z => nomatch z)), ⟨ns1, ?_⟩, [], upd_same, rfl, fun w hw => nomatch hw⟩
          rw [upd_ne naL]
          exact h2
        · have naL : a ≠ L := ne_of_none h2 nL
          have nLH : H L = none := s2.free nL (by rw [h2]; exact fun z => nomatch z)
          obtain ⟨s3, ⟨ns3, h3⟩, ws, hL, hl, sm⟩ := hp
          refine ⟨rfl, .ref a, rfl, a, ns3, rfl, h3, fun H5 s5 h5 => ⟨_, _, rfl, rfl, (by show (0 : Int) < _; decide), _, s5 L _ naL.symm hL, szL' (by rw [List.length_map]; omega), ?_⟩⟩
          refine ⟨(s3.trans s5).new nLH, ⟨_, by rw [upd_ne naL]; exact h5⟩, _, at_app, by rw [List.length_append, hl]; rfl, sm.app (by omega) (by omega)⟩
        · have naL : a ≠ L := ne_of_none h2 nL
          have nLH : H L = none := s2.free nL (by rw [h2]; exact fun z => nomatch z)
          obtain ⟨s3, h3, ws3, hL, hl3, sm3⟩ := hp
          obtain ⟨W, w0, hW⟩ := fin L _ H3 rfl nLH naL s3 h3 ⟨ws3, hL, hl3, sm3⟩
          refine ⟨W, w0, fun μ σ H4 w4 => ?_⟩
          obtain ⟨ws4, _, rfl, s4, ⟨ns4, h4⟩, hL4, hl4, sm4, eμ, step⟩ := hW μ σ H4 w4
          refine ⟨.ref L, rfl, L, ws4, rfl, SqL.of hL4, sm4.big, _, _, rfl, rfl, _, rfl, ite2 (fun c => ?_) (fun c => ?_)⟩
          · have c2 : casesM ws4 > 400 := of_decide_eq_true c
            refine ⟨fun σ' H' => σ' = [some (.ref a), some (.int m), some (.int n0), some (.ref L), none] ∧ ∃ ws' : List Int, ws'.length = m ∧ Small ws' ∧ ws'.sum < ws4.sum ∧ H' = upd H4 L (LI ws'), fun σ' H' hN => ?_, ?_⟩
            · obtain ⟨rfl, ws', l1, l2, l3, rfl⟩ := hN
              exact step ws' l1 l2 l3
            · refine ⟨_, rfl, L, ws4, rfl, SqL.of hL4, by omega, fun mx hmx hle => ⟨_, _, rfl, rfl, _, rfl, _, rfl, .inl ⟨rfl, _, SqL.of hL4⟩, _, rfl, L, ws4, rfl, SqL.of hL4, by omega, fun mx2 hmx2 hle2 => ?_⟩⟩
              have emx : mx2 = mx := Int.le_antisymm (hle mx2 hmx2) (hle2 mx hmx)
              subst emx
              obtain ⟨j, b1, b2, b3, b4, b5, b6⟩ := body L H4 ws4 nLH naL s4 ⟨ns4, h4⟩ hL4 hl4 sm4 c2 mx2 hmx hle
              refine ⟨L, _, _, j, _, rfl, rfl, SqL.of hL4, rfl, by simp [flatV], get_ints b1, by show (mx2 == mx2) = true; exact beq_self_eq_true _, b2, L, _, _, j, rfl, rfl, hL4, by rw [List.length_map]; exact ixN_nat b3, rfl, _, b4, b5, b6, ?_⟩
              rw [← li_set]
          · exact ⟨_, rfl, q H4 L ws4 ns4 s4 nLH naL.symm hL4 h4 hl4 sm4 (Int.not_lt.mp fun z => c (decide_eq_true z))⟩
      · obtain ⟨W, w0, hW⟩ := fin B _ H2 rfl nBH nBa s2 ⟨ns1, h2⟩ ⟨ws, hB, hl, sm⟩
        refine ⟨W, w0, fun μ σ H4 w4 => ?_⟩
        obtain ⟨ws4, _, rfl, s4, ⟨ns4, h4⟩, hL4, hl4, sm4, eμ, step⟩ := hW μ σ H4 w4
        refine ⟨.ref B, rfl, B, ws4, rfl, SqL.of hL4, sm4.big, _, _, rfl, rfl, _, rfl, ite2 (fun c => ?_) (fun c => ?_)⟩
        · have c2 : casesM ws4 > 400 := of_decide_eq_true c
          refine ⟨fun σ' H' => σ' = [some (.ref a), some (.int m), some (.int n0), some (.ref B), none] ∧ ∃ ws' : List Int, ws'.length = m ∧ Small ws' ∧ ws'.sum < ws4.sum ∧ H' = upd H4 B (LI ws'), fun σ' H' hN => ?_, ?_⟩
          · obtain ⟨rfl, ws', l1, l2, l3, rfl⟩ := hN
            exact step ws' l1 l2 l3
          · refine ⟨_, rfl, B, ws4, rfl, SqL.of hL4, by omega, fun mx hmx hle => ⟨_, _, rfl, rfl, _, rfl, _, rfl, .inl ⟨rfl, _, SqL.of hL4⟩, _, rfl, B, ws4, rfl, SqL.of hL4, by omega, fun mx2 hmx2 hle2 => ?_⟩⟩
            have emx : mx2 = mx := Int.le_antisymm (hle mx2 hmx2) (hle2 mx hmx)
            subst emx
            obtain ⟨j, b1, b2, b3, b4, b5, b6⟩ := body B H4 ws4 nBH nBa s4 ⟨ns4, h4⟩ hL4 hl4 sm4 c2 mx2 hmx hle
            refine ⟨B, _, _, j, _, rfl, rfl, SqL.of hL4, rfl, by simp [flatV], get_ints b1, by show (mx2 == mx2) = true; exact beq_self_eq_true _, b2, B, _, _, j, rfl, rfl, hL4, by rw [List.length_map]; exact ixN_nat b3, rfl, _, b4, b5, b6, ?_⟩
            rw [← li_set]
        · exact ⟨_, rfl, q H4 B ws4 ns4 s4 nBH nBa.symm hL4 h4 hl4 sm4 (Int.not_lt.mp fun z => c (decide_eq_true z))⟩
end
/-! ### _law_names, _law_content_text -/
abbrev s_law_names : Stmt := topS 89
abbrev N_law_names : List Str := ["_law_draws_here", "_law_many", "_law_odd", "_law_found", "_law_k", "_law_number", "_law_letters", "_law_name", "_law_j"]
theorem sc_law_names : FnScope N_law_names ["_law_draws_here", "_law_many"] (defScope s_law_names) := ⟨rfl, rfl, rfl, by decide +kernel, rfl, by decide +kernel, by decide +kernel⟩

abbrev s_law_content_text : Stmt := topS 90
abbrev N_law_content_text : List Str := ["_law_names_here", "_law_content_here", "_law_pieces", "_law_k"]
theorem sc_law_content_text : FnScope N_law_content_text ["_law_names_here", "_law_content_here"] (defScope s_law_content_text) := ⟨rfl, rfl, rfl, by decide +kernel, rfl, by decide +kernel, by decide +kernel⟩

/-- a text times a number from 2 on -/
theorem op_mulS {X : Cx} : OpR X (binaryOp .Mult) (fun x y H Q => ∃ (c : Nat) (n : Nat), x = .str ⟨#[c]⟩ ∧ y = .int (n : Int) ∧ 2 ≤ n ∧ n ≤ 100 ∧ Q (.str ⟨(List.replicate n #[c]).foldl (· ++ ·) #[]⟩) H) := by
  intro pins s σ H x y v u Q I rx ry h
  obtain ⟨c, n, rfl, rfl, h1, h2, q⟩ := h
  obtain ⟨t, rfl⟩ := rx
  obtain ⟨t', rfl⟩ := ry
  have e1 : (((n : Nat) : Int) == 1) = false := beq_eq_false_iff_ne.mpr (by omega)
  have l1 : (⟨#[c]⟩ : Str).length = 1 := rfl
  refine PySem.P.mul_str (by
    rw [decide_eq_false (by omega), decide_eq_false (by omega)]
    rfl) (fun _ _ => ?_) (fun _ _ => ?_) ?_
  · rw [l1]
    have : ((2 : Int) ^ 63 - 1) / (n : Int) ≥ 1 := by
      refine (Int.le_ediv_iff_mul_le (by omega)).mpr ?_
      omega
    omega
  · rw [l1, Int.toNat_natCast]
    have hz : ¬ (1 * n > sizeLine) := by
      have := sizeLine_eq
      omega
    exact decide_eq_false hz
  · rw [if_neg (by omega), if_neg (by rw [e1, l1]; decide), Int.toNat_natCast]
    refine ⟨?_, .str _, H, I.tok _, ⟨_, rfl⟩, q⟩
    have key : ∀ (m : Nat) (acc : Array Nat), ((List.replicate m #[c]).foldl (· ++ ·) acc).size = acc.size + m := by
      intro m
      induction m with
      | zero => intro acc; rfl
      | succ m ih =>
        intro acc
        rw [List.replicate_succ, List.foldl_cons, ih, Array.size_append]
        show acc.size + 1 + m = _
        omega
    have k2 := key n #[]
    show ((List.replicate n #[c]).foldl (· ++ ·) #[]).size ≤ sizeLine
    rw [k2]
    have := sizeLine_eq
    show 0 + n ≤ sizeLine
    omega

/-- data: lists of texts -/
theorem dpAll_strs {K : PySem.W.Frag} {H : Hp} : ∀ xs : List Str, DpAll K H (xs.map V.str) (xs.map PyData.str)
  | [] => .nil
  | x :: r => .cons (.str x) (dpAll_strs r)
theorem dp_strs {K : PySem.W.Frag} {H : Hp} {a : Addr} {xs : List Str} (h : SqL K H a (xs.map V.str)) : Dp K H (.ref a) (.list (xs.map PyData.str)) := .lst h (dpAll_strs xs)
def Signs (x : Str) : Prop := ∀ c ∈ TL.tl x, c < 256
theorem lay_strs (xs : List Str) (h : ∀ x ∈ xs, Signs x) : PyData.canLayAll0 (xs.map PyData.str) = true := by
  have e : PyData.canLayAll0 (xs.map PyData.str) = xs.all PyData.strOk := by
    induction xs with
    | nil => simp [PyData.canLayAll0]
    | cons x r ih =>
      have := ih fun z hz => h z (List.mem_cons_of_mem _ hz)
      simp [PyData.canLayAll0, PyData.canLay0, this]
  rw [e, List.all_eq_true]
  intro x hx
  unfold PyData.strOk
  rw [← Array.all_toList, List.all_eq_true]
  intro c hc
  have := h x hx c hc
  exact decide_eq_true (by omega)
theorem depth_strs : ∀ xs : List Str, PyData.depthAll (xs.map PyData.str) = 0
  | [] => by simp [PyData.depthAll]
  | x :: r => by
    have ih := depth_strs r
    simp [PyData.depthAll, PyData.depth, ih]
theorem shaped_strs {xs : List Str} (h : ∀ x ∈ xs, Signs x) : SeqAt.shaped (.list (xs.map PyData.str)) = true := by
  unfold SeqAt.shaped
  have h1 : PyData.canLay0 (.list (xs.map PyData.str)) = true := by
    simp only [PyData.canLay0]
    exact lay_strs xs h
  have h2 : PyData.depth (.list (xs.map PyData.str)) ≤ 64 := by
    simp only [PyData.depth]
    rw [depth_strs]
    omega
  rw [h1, decide_eq_true h2]
  rfl
theorem eqv_nil_strs (xs : List Str) : PyData.eqv (.list (xs.map PyData.str)) (.list []) = decide (xs = []) := by
  cases xs with
  | nil => simp [PyData.eqv, PyData.eqvAll]
  | cons x r => simp [PyData.eqv, PyData.eqvAll]

theorem GoodN.signs {xs : List Str} (g : GoodN xs) : ∀ x ∈ xs, Signs x := fun x hx c hc => by
  have := g.small x hx c hc
  omega
theorem part_signs {xs : List Str} {cs : List Int} (g : GoodN xs) {i : Nat} (hi : i < xs.length) : Signs (partAt xs cs i) := fun c hc => by
  unfold partAt at hc
  rw [tl_part] at hc
  rcases List.mem_append.mp hc with z | z
  · have : ¬ (c < 48 ∨ 57 < c) := fun q => TL.numL_free q z
    omega
  · rcases List.mem_cons.mp z with z | z
    · omega
    · have := g.small _ (name_at hi).2 _ z
      omega
def sp_law_text : Sp := fun vs H Q _ => ∃ (a b : Addr) (xs : List Str) (cs : List Int), vs = [.ref a, .ref b] ∧ H a = some (LS xs) ∧ H b = some (LI cs) ∧ GoodN xs ∧ FitC xs cs ∧ ∀ H', Same H H' → Q (.str (showM xs cs)) H'
section
variable {P : Program} {w : World} {K : PySem.W.Frag} {mg : Str → Option Value} {base : Heap} {T : List Addr}
theorem ok_law_text {f : Addr} {fd : FuncData} {k : Nat} (M : Names mg) (D : Def K mg "_law_content_text" s_law_content_text ["_law_names_here", "_law_content_here"] f fd) : FnOk P w K mg base CX0 (k + 1) f fd ["_law_names_here", "_law_content_here"] sp_law_text := by
  refine D.F.ok sc_law_content_text (fun vs H Q E h => ?_) (fun cdv A outer s H vs Q E hr h => ?_)
  · obtain ⟨a, b, xs, cs, rfl, _⟩ := h
    rfl
  · obtain ⟨a, b, xs, cs, rfl, ha, hb, g, fc, q⟩ := h
    have few := g.few
    refine ⟨_, (pss_cons (ps_setLc (i := 2) (own := [("_law_k", 3)]) (by rfl) sc_law_content_text.nd rfl rfl (sw_true rfl rfl rfl (by decide +kernel)) (pi_range1 (by rfl) M.range (pa_cons (pe_callB call_len_seq (by rfl) M.len (by decide +kernel) (pa_cons (pv 0) pa_nil)) pa_nil)) (blkOk_by (own := [("_law_k", 3)]) (N := N_law_content_text) (sc := defScope s_law_content_text) (by decide +kernel)) (fun _ _ _ _ _ => (pg_name (i := 3) sc_law_content_text.nd rfl (Or.inl rfl))) (fun _ _ _ _ _ => (pts_one (pt_cmpR op_gt (pe_ix (ix_listK (K := K) rfl) (pv 1) (pv 3) (fun _ _ => rfl)) pe_int (nomark _)))) (fun _ _ _ _ _ => (pe_op op_add_str (pe_op op_add_str (pe_callTy call_str_int (by rfl) M.str (by decide +kernel) (pa_cons (pe_ix (ix_listK (K := K) rfl) (pv 1) (pv 3) (fun _ _ => rfl)) pa_nil)) pe_str) (pe_ix (ix_listK (K := K) rfl) (pv 0) (pv 3) (fun _ _ => rfl)))))
  (pss_cons (ps_if (pt_cmpR (op_eqD hr.units) (pv 2) (pe_lst pa_nil) (nomark _))
   (pss_one (ps_ret pe_str))
   pss_nil)
  (pss_one (ps_ret (pe_join pe_str (pv 2)))))), ?_⟩
    refine ⟨_, rfl, a, _, rfl, .inl (SqL.of ha), _, rfl, by omega, by rw [List.length_map]; omega, fun B nB => lc_range (lo := 0) (n := (((xs.map V.str).length : Nat) : Int).toNat) (fun i H' => Same H H' ∧ H' B = some (LS (partsM xs cs i))) ⟨same_upd nB, upd_same⟩ (fun i H1 hi hp => ?_) (fun H1 hp => ?_)⟩
    · obtain ⟨s1, hB⟩ := hp
      rw [Int.toNat_natCast, List.length_map] at hi
      obtain ⟨f1, f2, f3⟩ := fc.at hi
      obtain ⟨g1, g2⟩ := name_at hi
      have sh := g.short _ g2
      have l1 := num1_len f2 f3
      refine ⟨rfl, _, rfl, _, rfl, b, _, _, _, rfl, rfl, SqL.of (s1 _ _ hb), at_of (Int.zero_add _) (get_ints f1), _, _, rfl, rfl, _, rfl, ite2 (fun c => ?_) (fun c => ?_)⟩
      · have c2 : cs.getD i 0 > 0 := of_decide_eq_true c
        refine ⟨_, rfl, _, rfl, b, _, _, _, rfl, rfl, SqL.of (s1 _ _ hb), at_of (Int.zero_add _) (get_ints f1), _, rfl, small_log f2 f3, _, _, rfl, rfl, szL (by rw [blank_len]; omega), _, rfl, _, rfl, a, _, _, _, rfl, rfl, SqL.of (s1 _ _ ha), at_of (Int.zero_add _) (get_strs g1), _, _, rfl, rfl, szL (by rw [str_len_app, blank_len]; omega), ?_⟩
        refine ⟨_, hB, szL' (by rw [List.length_map]; have := partsM_len xs cs i; omega), sm_new s1 nB, ?_⟩
        have e := fpart f2 (xs.getD i Str.empty)
        rw [str_nil_app] at e
        rw [upd_same, ls_app, partsM_succ, if_pos c2, e]
        rfl
      · have c2 : ¬ cs.getD i 0 > 0 := fun z => c (decide_eq_true z)
        refine ⟨s1, ?_⟩
        rw [partsM_succ, if_neg c2, List.append_nil]
        exact hB
    · obtain ⟨s1, hB⟩ := hp
      rw [Int.toNat_natCast, List.length_map] at hB
      have hl := partsM_len xs cs xs.length
      have pl : ∀ p ∈ partsM xs cs xs.length, p.length ≤ 10 := fun p hp => by
        obtain ⟨i, hi, _, rfl⟩ := parts_all hp
        exact partAt_len g fc hi
      have ps := parts_sum pl
      have sg : ∀ p ∈ partsM xs cs xs.length, Signs p := fun p hp => by
        obtain ⟨i, hi, _, rfl⟩ := parts_all hp
        exact part_signs g hi
      have cl : (", " : Str).length = 2 := by decide +kernel
      refine ⟨_, rfl, by decide, fun e ne => ?_⟩
      have s2 := s1.trans (same_upd (o := .lst []) ne)
      have hB2 := (same_upd (o := .lst []) ne) _ _ hB
      refine ⟨_, .list [], dp_strs (SqL.of hB2), .lst (SqL.of upd_same) .nil, shaped_strs sg, by decide +kernel, _, rfl, ?_⟩
      rw [eqv_nil_strs]
      unfold showM at q
      by_cases z : partsM xs cs xs.length = []
      · rw [if_pos z] at q
        rw [decide_eq_true z]
        exact q _ s2
      · rw [if_neg z] at q
        rw [decide_eq_false z]
        refine ⟨⟨_, rfl⟩, _, rfl, _, B, _, rfl, rfl, .inl (SqL.of hB2), by rw [cl]; omega, ?_⟩
        rw [TL.join_eq]
        exact q _ s2
end
/-! ### the drawn names -/
def rep8 (k : Nat) : Str := ⟨(List.replicate 8 #[97 + k]).foldl (· ++ ·) #[]⟩
theorem tl_rep8 (k : Nat) : TL.tl (rep8 k) = [97 + k, 97 + k, 97 + k, 97 + k, 97 + k, 97 + k, 97 + k, 97 + k] := by
  simp [rep8, TL.tl, List.replicate]
/-- a name that is no eight times one letter -/
structure GoodX (x : Str) : Prop where
  small : ∀ c ∈ TL.tl x, 97 ≤ c ∧ c ≤ 122
  short : x.length ≤ 7
  some : 1 ≤ x.length
def oddW : List Str := ["for", "many", "with", "nothing", "x", "things", "none", "i"]
theorem odd_good : ∀ j, j < 8 → ∃ x, (oddW.map V.str)[j]? = some (.str x) ∧ GoodX x := fun j h =>
  match j, h with
  | 0, _ => ⟨"for", rfl, by decide +kernel, by decide +kernel, by decide +kernel⟩
  | 1, _ => ⟨"many", rfl, by decide +kernel, by decide +kernel, by decide +kernel⟩
  | 2, _ => ⟨"with", rfl, by decide +kernel, by decide +kernel, by decide +kernel⟩
  | 3, _ => ⟨"nothing", rfl, by decide +kernel, by decide +kernel, by decide +kernel⟩
  | 4, _ => ⟨"x", rfl, by decide +kernel, by decide +kernel, by decide +kernel⟩
  | 5, _ => ⟨"things", rfl, by decide +kernel, by decide +kernel, by decide +kernel⟩
  | 6, _ => ⟨"none", rfl, by decide +kernel, by decide +kernel, by decide +kernel⟩
  | 7, _ => ⟨"i", rfl, by decide +kernel, by decide +kernel, by decide +kernel⟩
/-- the names drawn so far -/
structure DrawnN (xs : List Str) : Prop where
  nd : xs.Nodup
  each : ∀ (j : Nat) x, xs[j]? = some x → GoodX x ∨ (x = rep8 j ∧ j < 4)
theorem rep8_letters {k : Nat} (h : k < 4) : ∀ c ∈ TL.tl (rep8 k), 97 ≤ c ∧ c ≤ 122 := fun c hc => by
  rw [tl_rep8] at hc
  simp only [List.mem_cons, List.not_mem_nil, or_false] at hc
  omega
theorem rep8_len (k : Nat) : (rep8 k).length = 8 := by
  rw [TL.len_tl, tl_rep8]
  rfl
theorem DrawnN.good {xs : List Str} (h : DrawnN xs) (hl : xs.length ≤ 4) : GoodN xs := by
  have key : ∀ x ∈ xs, (∀ c ∈ TL.tl x, 97 ≤ c ∧ c ≤ 122) ∧ x.length ≤ 8 ∧ 1 ≤ x.length := fun x hx => by
    obtain ⟨j, hj, e⟩ := List.getElem_of_mem hx
    rcases h.each j x (by rw [← e]; exact List.getElem?_eq_getElem hj) with g | ⟨rfl, h4⟩
    · exact ⟨g.small, Nat.le_succ_of_le g.short, g.some⟩
    · exact ⟨rep8_letters h4, by rw [rep8_len]; decide, by rw [rep8_len]; decide⟩
  exact ⟨hl, h.nd, fun x hx => (key x hx).1, fun x hx => (key x hx).2.1, fun x hx => (key x hx).2.2⟩
theorem DrawnN.snoc {xs : List Str} {x : Str} (h : DrawnN xs) (hn : x ∉ xs) (hx : GoodX x ∨ (x = rep8 xs.length ∧ xs.length < 4)) : DrawnN (xs ++ [x]) := by
  refine ⟨?_, fun j y hy => ?_⟩
  · refine List.nodup_append.mpr ⟨h.nd, List.nodup_cons.mpr ⟨by simp, List.nodup_nil⟩, fun a ha b hb => ?_⟩
    rw [List.mem_singleton.mp hb]
    exact fun e => hn (e ▸ ha)
  · by_cases hj : j < xs.length
    · rw [List.getElem?_append_left hj] at hy
      exact h.each j y hy
    · have e : j = xs.length := by
        have := (List.getElem?_eq_some_iff.mp hy).1
        rw [List.length_append] at this
        have : j < xs.length + 1 := this
        omega
      subst e
      rw [List.getElem?_append_right (Nat.le_refl _), Nat.sub_self] at hy
      cases Option.some.inj hy
      exact hx
theorem DrawnN.other {xs : List Str} (h : DrawnN xs) (h4 : xs.length < 4) : rep8 xs.length ∉ xs := fun z => by
  obtain ⟨j, hj, e⟩ := List.getElem_of_mem z
  have hg : xs[j]? = some (rep8 xs.length) := by rw [List.getElem?_eq_getElem hj, e]
  rcases h.each j _ hg with g | ⟨e2, _⟩
  · have := g.short
    rw [rep8_len] at this
    omega
  · have e3 := congrArg TL.tl e2
    rw [tl_rep8, tl_rep8] at e3
    have := (List.cons.inj e3).1
    omega
/-- letters put together -/
theorem joinL_flat : ∀ ps : List (List Nat), TL.joinL [] ps = ps.flatten
  | [] => rfl
  | [p] => by show p = p ++ [] ; rw [List.append_nil]
  | p :: q :: r => by
    show p ++ ([] ++ TL.joinL [] (q :: r)) = p ++ (q :: r).flatten
    rw [List.nil_append, joinL_flat (q :: r)]
def Letter (y : Str) : Prop := ∃ c, TL.tl y = [c] ∧ 97 ≤ c ∧ c ≤ 122
theorem flat_letters : ∀ ys : List Str, (∀ y ∈ ys, Letter y) → (ys.map TL.tl).flatten.length = ys.length ∧ ∀ c ∈ (ys.map TL.tl).flatten, 97 ≤ c ∧ c ≤ 122
  | [], _ => ⟨rfl, fun c hc => nomatch hc⟩
  | y :: r, h => by
    obtain ⟨h1, h2⟩ := flat_letters r fun z hz => h z (List.mem_cons_of_mem _ hz)
    obtain ⟨c0, e, hc⟩ := h y List.mem_cons_self
    rw [List.map_cons, List.flatten_cons, e]
    refine ⟨by rw [List.length_append, h1]; show 1 + r.length = r.length + 1; omega, fun c hc' => ?_⟩
    rcases List.mem_append.mp hc' with z | z
    · rw [List.mem_singleton.mp z]
      exact hc
    · exact h2 c z
theorem join_letters {ys : List Str} (h : ∀ y ∈ ys, Letter y) (h1 : 1 ≤ ys.length) (h7 : ys.length ≤ 7) : GoodX (Txt.join ("" : Str) ys) := by
  obtain ⟨e1, e2⟩ := flat_letters ys h
  have et : TL.tl (Txt.join ("" : Str) ys) = (ys.map TL.tl).flatten := by
    rw [TL.join_eq, TL.tl_join, show TL.tl ("" : Str) = [] by decide +kernel, joinL_flat]
  have el : (Txt.join ("" : Str) ys).length = ys.length := by rw [TL.len_tl, et, e1]
  exact ⟨fun c hc => e2 c (by rw [← et]; exact hc), by omega, by omega⟩
theorem letters_sum : ∀ ys : List Str, (∀ y ∈ ys, Letter y) → (ys.map (·.length)).sum = ys.length
  | [], _ => rfl
  | y :: r, h => by
    have ih := letters_sum r fun z hz => h z (List.mem_cons_of_mem _ hz)
    obtain ⟨c0, e, hc⟩ := h y List.mem_cons_self
    have : y.length = 1 := by rw [TL.len_tl, e]; rfl
    rw [List.map_cons, List.sum_cons, ih, this, List.length_cons]
    omega
theorem at_num {α : Type} {l : List α} {i : Int} {j : Nat} {v : α} (e : i = (j : Int)) (h : l[j]? = some v) : atI l i = some v := by
  subst e
  exact atI_nat h
theorem abc_at {j : Nat} (h : j < 26) : ("abcdefghijklmnopqrstuvwxyz" : Str).cps.toList[j]? = some (97 + j) := by
  have : ∀ j, j < 26 → ("abcdefghijklmnopqrstuvwxyz" : Str).cps.toList[j]? = some (97 + j) := by decide +kernel
  exact this j h
theorem abcd_at {j : Nat} (h : j < 4) : ("abcd" : Str).cps.toList[j]? = some (97 + j) := by
  have : ∀ j, j < 4 → ("abcd" : Str).cps.toList[j]? = some (97 + j) := by decide +kernel
  exact this j h
theorem div_ok {j : Nat} (h : j < 7) : (0 : Int) < 100 * (1 + 2 * (0 + (j : Int)) * (0 + (j : Int))) ∧ 100 * (1 + 2 * (0 + (j : Int)) * (0 + (j : Int))) < 1073741824 :=
  match j, h with
  | 0, _ => by decide
  | 1, _ => by decide
  | 2, _ => by decide
  | 3, _ => by decide
  | 4, _ => by decide
  | 5, _ => by decide
  | 6, _ => by decide
def sp_law_names : Sp := fun vs H Q _ => ∃ (d : Addr) (ns : List Int) (m : Nat), vs = [.ref d, .int m] ∧ H d = some (LI ns) ∧ 1 ≤ m ∧ m ≤ 4 ∧
  ∀ H' p xs ns', SameBut d H H' → H p = none → p ≠ d → H' p = some (LS xs) → H' d = some (LI ns') → xs.length = m → GoodN xs → Q (.ref p) H'
section
variable {P : Program} {w : World} {K : PySem.W.Frag} {mg : Str → Option Value} {base : Heap} {T : List Addr}
theorem ok_law_names {f fp : Addr} {fd fdp : FuncData} {k : Nat} (M : Names mg) (D : Def K mg "_law_names" s_law_names ["_law_draws_here", "_law_many"] f fd) (D_law_pop : Def K mg "_law_pop" s_law_pop ["_law_draws_here"] fp fdp) : FnOk P w K mg base CX0 (k + 2) f fd ["_law_draws_here", "_law_many"] sp_law_names := by
  have G_law_pop : FnOk P w K mg base CX0 (k + 1) fp fdp ["_law_draws_here"] sp_pop := ok_pop D_law_pop
  refine D.F.ok sc_law_names (fun vs H Q E h => ?_) (fun cdv A outer s H vs Q E hr h => ?_)
  · obtain ⟨d, ns, m, rfl, _⟩ := h
    rfl
  · obtain ⟨d, ns, m, rfl, hd, hm1, hm4, q⟩ := h
    refine ⟨_, (pss_cons (ps_set (i := 2) sc_law_names.nd rfl (Or.inl rfl) (pe_lst (pa_cons pe_str (pa_cons pe_str (pa_cons pe_str (pa_cons pe_str (pa_cons pe_str (pa_cons pe_str (pa_cons pe_str (pa_cons pe_str pa_nil))))))))))
  (pss_cons (ps_set (i := 3) sc_law_names.nd rfl (Or.inl rfl) (pe_lst pa_nil))
  (pss_cons (ps_for PassesOwn.never rfl (pi_range1 (by rfl) M.range (pa_cons (pv 1) pa_nil)) (pg_name (i := 4) sc_law_names.nd rfl (Or.inl rfl))
   (pss_cons (ps_set (i := 5) sc_law_names.nd rfl (Or.inr rfl) (pe_call G_law_pop hr (by rfl) D_law_pop.g D_law_pop.F.kp D_law_pop.b .nil pass0 (pa_cons (pv 0) pa_nil)))
  (pss_cons (ps_set (i := 6) sc_law_names.nd rfl (Or.inr rfl) pe_str)
  (pss_cons (ps_set (i := 7) sc_law_names.nd rfl (Or.inl rfl) (pe_join pe_str (pe_lc (own := [("_law_j", 8)]) (by rfl) sc_law_names.nd (pi_range1 (by rfl) M.range (pa_cons (pe_op op_add pe_int (pe_op op_mod (pv 5) pe_int)) pa_nil)) (blkOk_by (own := [("_law_j", 8)]) (N := N_law_names) (sc := defScope s_law_names) (by decide +kernel)) (fun _ _ _ _ _ => (pg_name (i := 8) sc_law_names.nd rfl (Or.inl rfl))) (fun _ _ _ _ _ => pts_nil) (fun _ _ _ _ _ => (pe_ix ix_str (pv 6) (pe_op op_mod (pe_op op_fdiv (pv 5) (pe_op op_mul pe_int (pe_op op_add pe_int (pe_op op_mul (pe_op op_mul pe_int (pv 8)) (pv 8))))) pe_int) (fun _ _ => rfl))))))
  (pss_cutI (ps_if (pt_cmpR op_eq (pe_op op_mod (pe_op op_fdiv (pv 5) pe_int) pe_int) pe_int (nomark _))
   (pss_one (ps_set (i := 7) sc_law_names.nd rfl (Or.inl rfl) (pe_ix ix_list (pv 2) (pe_op op_mod (pe_op op_fdiv (pv 5) pe_int) pe_int) (fun _ _ => rfl))))
   pss_nil)
  (pss_cutI (ps_if (pt_cmpR op_in_seq (pv 7) (pv 3) (by rfl))
   (pss_one (ps_set (i := 7) sc_law_names.nd rfl (Or.inl rfl) (pe_op op_mulS (pe_ix ix_str pe_str (pv 4) (fun _ _ => rfl)) pe_int)))
   pss_nil)
  (pss_one (ps_expr (pe_bm PySem.F.plainAttrs_list PySem.F.slot_list_append PySem.F.type_list_append mt_append (pv 3) (pa_cons (pv 7) pa_nil))))))))))
  (pss_one (ps_ret (pv 3)))))), ?_⟩
    refine ⟨by show 8 ≤ sizeLine; decide, fun O nO => ⟨by decide, fun F nF => ?_⟩⟩
    have hO : upd (upd H O (.lst (oddW.map V.str))) F (.lst []) O = some (LS oddW) := (same_upd nF) _ _ upd_same
    have hF : upd (upd H O (.lst (oddW.map V.str))) F (.lst []) F = some (LS []) := upd_same
    have s0 := (same_upd (o := .lst (oddW.map V.str)) nO).trans (same_upd (o := .lst []) nF)
    have nF0 : H F = none := (same_upd nO).free nF
    have neFO : O ≠ F := ne_of_none upd_same nF
    have hd0 := s0 _ _ hd
    have neOd : O ≠ d := fun e => by rw [e, hd] at nO; cases nO
    have neFd : F ≠ d := fun e => by rw [e, hd] at nF0; cases nF0
    have hO' : (upd (upd H O (.lst [.str "for", .str "many", .str "with", .str "nothing", .str "x", .str "things", .str "none", .str "i"])) F (.lst [])) = upd (upd H O (.lst (oddW.map V.str))) F (.lst []) := rfl
    generalize hgen : upd (upd H O (.lst (oddW.map V.str))) F (.lst []) = H0 at hO hF s0 hd0 hO'
    refine ⟨_, rfl, _, rfl, by omega, by omega, for_range (n := ((m : Nat) : Int).toNat) (fun i σ H' => ∃ y4 y5 y6 y7, σ = [some (.ref d), some (.int m), some (.ref O), some (.ref F), y4, y5, y6, y7, none] ∧ SameBut d H H' ∧ H' O = some (LS oddW) ∧ (∃ ns', H' d = some (LI ns')) ∧ ∃ xs, H' F = some (LS xs) ∧ xs.length = i ∧ DrawnN xs) ?_ (fun i σ H1 hi hp => ?_) (fun σ H1 hp => ?_)⟩
    · exact ⟨none, none, none, none, rfl, hO' ▸ .of s0, hO' ▸ hO, ⟨_, hO' ▸ hd0⟩, [], hO' ▸ hF, rfl, ⟨List.nodup_nil, fun j x h => by simp at h⟩⟩
    · obtain ⟨y4, y5, y6, y7, rfl, s1, hO1, ⟨ns1, hd1⟩, xs, hF1, hl1, dr⟩ := hp
      rw [Int.toNat_natCast] at hi
      refine ⟨_, rfl, d, ns1, rfl, hd1, fun H2 s2 hd2 => ?_⟩
      generalize ns1.headD 0 = n0
      generalize ns1.tail = ns2 at hd2
      have hO2 := s2 _ _ neOd hO1
      have hF2 := s2 _ _ neFd hF1
      obtain ⟨cn, hc7, ec⟩ := mod_at (i := n0) (n := 7) (by decide)
      refine ⟨⟨_, rfl⟩, _, rfl, _, _, rfl, rfl, (by show (0 : Int) < _; decide), _, _, rfl, rfl, _, rfl, by show -(2 ^ 62) ≤ 1 + n0 % 7; omega, by show 1 + n0 % 7 < 2 ^ 62; omega, fun B nB => lc_range (lo := 0) (n := (1 + n0 % 7).toNat) (fun j H' => Same H2 H' ∧ ∃ ys, H' B = some (LS ys) ∧ ys.length = j ∧ ∀ y ∈ ys, Letter y) ⟨same_upd nB, [], upd_same, rfl, fun y hy => nomatch hy⟩ (fun j H3 hj hp => ?_) (fun H3 hp => ?_)⟩
      · obtain ⟨s3, ys, hB, hly, hle⟩ := hp
        have hj7 : j < 7 := by omega
        obtain ⟨jj, hjj, ej⟩ := mod_at (i := n0 / (100 * (1 + 2 * (0 + (j : Int)) * (0 + (j : Int))))) (n := 26) (by decide)
        refine ⟨rfl, _, rfl, _, rfl, _, rfl, _, _, rfl, rfl, .inl ⟨by decide, by decide⟩, _, rfl, _, _, rfl, rfl, .inr ⟨by omega, by omega⟩, _, _, rfl, rfl, _, _, rfl, rfl, .inl ⟨by decide, by decide⟩, _, _, rfl, rfl, div_ok hj7, _, _, rfl, rfl, (by show (0 : Int) < _; decide), _, _, 97 + jj, rfl, rfl, by decide +kernel, at_num ej (abc_at hjj), ?_⟩
        refine ⟨_, hB, szL' (by rw [List.length_map]; omega), sm_new s3 nB, ys ++ [_], by rw [upd_same, ls_app], by rw [List.length_append, hly]; rfl, fun y hy => ?_⟩
        rcases List.mem_append.mp hy with z | z
        · exact hle y z
        · rw [List.mem_singleton.mp z]
          exact ⟨97 + jj, rfl, by omega, by omega⟩
      · obtain ⟨s3, ys, hB, hly, hle⟩ := hp
        have s13 : SameBut d H H3 := (s1.trans s2).trans (.of s3)
        have hO3 := s3 _ _ hO2
        have hF3 := s3 _ _ hF2
        have hd3 := s3 _ _ hd2
        have gx := join_letters hle (by omega) (by omega)
        have sm := letters_sum ys hle
        refine ⟨_, B, ys, rfl, rfl, .inl (SqL.of hB), by rw [sm, show ("" : Str).length = 0 by decide +kernel]; omega, ?_⟩
        generalize Txt.join ("" : Str) ys = x0 at gx
        -- an odd word
        refine ⟨fun σ H' => ∃ x, σ = [some (.ref d), some (.int m), some (.ref O), some (.ref F), some (.int (0 + (i : Nat))), some (.int n0), some (.str "abcdefghijklmnopqrstuvwxyz"), some (.str x), none] ∧ H' = H3 ∧ GoodX x, ⟨_, rfl, _, _, rfl, rfl, ⟨by decide, by decide⟩, _, _, rfl, rfl, (by show (0 : Int) < _; decide), rfl, _, rfl, ite2 (fun _ => ?_) (fun _ => ?_)⟩, fun σ' H' hI => ?_⟩
        · obtain ⟨j8, h8, e8⟩ := mod_at (i := n0 / 21) (n := 8) (by decide)
          obtain ⟨x, hx, gx2⟩ := odd_good j8 h8
          exact ⟨_, rfl, _, rfl, _, _, rfl, rfl, ⟨by decide, by decide⟩, _, _, rfl, rfl, (by show (0 : Int) < _; decide), O, _, _, _, rfl, rfl, SqL.of hO3, at_of e8 hx, x, rfl, rfl, gx2⟩
        · exact ⟨x0, rfl, rfl, gx⟩
        · obtain ⟨x, rfl, rfl, gx⟩ := hI
          refine ⟨fun σ H4 => ∃ x, σ = [some (.ref d), some (.int m), some (.ref O), some (.ref F), some (.int (0 + (i : Nat))), some (.int n0), some (.str "abcdefghijklmnopqrstuvwxyz"), some (.str x), none] ∧ H4 = H' ∧ x ∉ xs ∧ (GoodX x ∨ (x = rep8 xs.length ∧ xs.length < 4)), ⟨_, rfl, _, rfl, F, _, rfl, .inl (SqL.of hF3), rfl, flat_strs xs, _, rfl, ite2 (fun c => ?_) (fun c => ?_)⟩, fun σ' H4 hI => ?_⟩
          · have h4 : xs.length < 4 := by omega
            refine ⟨_, rfl, _, _, 97 + i, rfl, rfl, by decide +kernel, at_num (Int.zero_add _) (abcd_at (by omega)), 97 + i, 8, rfl, rfl, by decide, by decide, rep8 xs.length, ?_, rfl, dr.other h4, .inr ⟨rfl, h4⟩⟩
            rw [hl1]
            rfl
          · refine ⟨x, rfl, rfl, fun z => ?_, .inl gx⟩
            refine c ?_
            show inV (.str x) (xs.map V.str) = true
            rw [inV_strs, decide_eq_true z]
          · obtain ⟨x, rfl, rfl, nx, gx⟩ := hI
            refine ⟨_, rfl, .inl ⟨rfl, _, SqL.of hF3⟩, _, rfl, F, _, _, rfl, rfl, hF3, szL' (by rw [List.length_map]; omega), ?_⟩
            refine ⟨_, _, _, _, rfl, s13.new nF0, ?_, ⟨ns2, ?_⟩, xs ++ [x], by rw [upd_same, ls_app], by rw [List.length_append, hl1]; rfl, dr.snoc nx gx⟩
            · rw [upd_ne neFO]
              exact hO3
            · rw [upd_ne (fun e => neFd e.symm)]
              exact hd3
    · obtain ⟨y4, y5, y6, y7, rfl, s1, hO1, ⟨ns1, hd1⟩, xs, hF1, hl1, dr⟩ := hp
      rw [Int.toNat_natCast] at hl1
      exact ⟨_, rfl, q H1 F xs ns1 s1 nF0 neFd hF1 hd1 hl1 (dr.good (by omega))⟩
end
/-! ### _law_content, _law_price, _law_tiers -/
abbrev s_law_content : Stmt := topS 86
abbrev N_law_content : List Str := ["_law_draws_here", "_law_many", "_law_found"]
theorem sc_law_content : FnScope N_law_content ["_law_draws_here", "_law_many"] (defScope s_law_content) := ⟨rfl, rfl, rfl, by decide +kernel, rfl, by decide +kernel, by decide +kernel⟩

abbrev s_law_price : Stmt := topS 87
abbrev N_law_price : List Str := ["_law_draws_here", "_law_number"]
theorem sc_law_price : FnScope N_law_price ["_law_draws_here"] (defScope s_law_price) := ⟨rfl, rfl, rfl, by decide +kernel, rfl, by decide +kernel, by decide +kernel⟩

theorem zero_of_sum {ws : List Int} (h : ∀ w ∈ ws, 0 ≤ w) (z : ws.sum = 0) : ∀ w ∈ ws, w = 0 := fun w hw => by
  obtain ⟨j, hj, e⟩ := List.getElem_of_mem hw
  have := sum_get (j := j) (x := w) h (by rw [List.getElem?_eq_getElem hj, e])
  have := h w hw
  omega
theorem some_of_sum : ∀ {ws : List Int}, (∀ w ∈ ws, 0 ≤ w) → ws.sum ≠ 0 → ∃ x ∈ ws, 0 < x
  | [], _, z => absurd rfl z
  | a :: r, h, z => by
    by_cases ha : 0 < a
    · exact ⟨a, List.mem_cons_self, ha⟩
    · have h0 := h a List.mem_cons_self
      obtain ⟨x, hx, hp⟩ := some_of_sum (ws := r) (fun w hw => h w (List.mem_cons_of_mem _ hw)) (fun e => z (by rw [List.sum_cons, e]; omega))
      exact ⟨x, List.mem_cons_of_mem _ hx, hp⟩
theorem foldl_set : ∀ {ws : List Int} {j : Nat} {v : Int} (p : Int), (∀ w ∈ ws, w = 0) → j < ws.length → (ws.set j v).foldl (fun p w => p * (w + 1)) p = p * (v + 1)
  | a :: r, 0, v, p, h, _ => by
    show r.foldl (fun p w => p * (w + 1)) (p * (v + 1)) = _
    exact casesM_zero r _ fun w hw => h w (List.mem_cons_of_mem _ hw)
  | a :: r, j + 1, v, p, h, hj => by
    have e : a = 0 := h a List.mem_cons_self
    subst e
    show (r.set j v).foldl (fun p w => p * (w + 1)) (p * (0 + 1)) = _
    rw [foldl_set _ (fun w hw => h w (List.mem_cons_of_mem _ hw)) (by simpa using hj)]
    rw [Int.zero_add, Int.mul_one]
theorem casesM_set {ws : List Int} {j : Nat} {v : Int} (h : ∀ w ∈ ws, w = 0) (hj : j < ws.length) : casesM (ws.set j v) = v + 1 := by
  unfold casesM
  rw [foldl_set 1 h hj, Int.one_mul]
def sp_content : Sp := fun vs H Q _ => ∃ (a : Addr) (ns : List Int) (m : Nat), vs = [.ref a, .int m] ∧ H a = some (LI ns) ∧ 1 ≤ m ∧ m ≤ 4 ∧
  ∀ H' p ws ns', SameBut a H H' → H p = none → p ≠ a → H' p = some (LI ws) → H' a = some (LI ns') → ws.length = m → SmallR ws → Q (.ref p) H'
def sp_price : Sp := fun vs H Q _ => ∃ (a : Addr) (ns : List Int), vs = [.ref a] ∧ H a = some (LI ns) ∧ ∀ H' ns' p, SameBut a H H' → H' a = some (LI ns') → 0 ≤ p → p < 1000000000000 → Q (.int p) H'
section
variable {P : Program} {w : World} {K : PySem.W.Frag} {mg : Str → Option Value} {base : Heap}
theorem ok_content {f f1 f2 f3 : Addr} {fd fd1 fd2 fd3 : FuncData} {k : Nat} (M : Names mg) (D : Def K mg "_law_content" s_law_content ["_law_draws_here", "_law_many"] f fd) (D_law_want : Def K mg "_law_want" s_law_want ["_law_draws_here", "_law_many"] f1 fd1) (D_law_pop : Def K mg "_law_pop" s_law_pop ["_law_draws_here"] f2 fd2) (D_law_cases : Def K mg "_law_cases" s_law_cases ["_law_want_here"] f3 fd3) :
    FnOk P w K mg base CX0 (k + 3) f fd ["_law_draws_here", "_law_many"] sp_content := by
  have G_law_want : FnOk P w K mg base CX0 (k + 2) f1 fd1 ["_law_draws_here", "_law_many"] sp_want := ok_want M D_law_want D_law_pop D_law_cases
  have G_law_pop : FnOk P w K mg base CX0 (k + 2) f2 fd2 ["_law_draws_here"] sp_pop := ok_pop D_law_pop
  refine D.F.ok sc_law_content (fun vs H Q E h => ?_) (fun cdv A outer s H vs Q E hr h => ?_)
  · obtain ⟨a, ns, m, rfl, _⟩ := h
    rfl
  · obtain ⟨a, ns, m, rfl, ha, hm1, hm4, q⟩ := h
    refine ⟨_, (pss_cons (ps_set (i := 2) sc_law_content.nd rfl (Or.inl rfl) (pe_call G_law_want hr (by rfl) D_law_want.g D_law_want.F.kp D_law_want.b .nil pass0 (pa_cons (pv 0) (pa_cons (pv 1) pa_nil))))
  (pss_cons (ps_if (pt_cmpR op_eq (pe_callB (cr_sum rfl) (by rfl) M.sum (by decide +kernel) (pa_cons (pv 2) pa_nil)) pe_int (nomark _))
   (pss_one (ps_asg (pe_op op_add pe_int (pe_op op_mod (pe_call G_law_pop hr (by rfl) D_law_pop.g D_law_pop.F.kp D_law_pop.b .nil pass0 (pa_cons (pv 0) pa_nil)) pe_int)) (pg_sub (pv 2) (pe_op op_mod (pe_call G_law_pop hr (by rfl) D_law_pop.g D_law_pop.F.kp D_law_pop.b .nil pass0 (pa_cons (pv 0) pa_nil)) (pv 1)) set_list)))
   pss_nil)
  (pss_one (ps_ret (pv 2))))), ?_⟩
    refine ⟨_, rfl, _, rfl, a, ns, m, rfl, ha, hm1, hm4, fun H1 p ws ns1 s1 np npa hp ha1 hl sm cas => ?_⟩
    refine ⟨_, rfl, p, ws, rfl, SqL.of hp, rfl, _, rfl, ite2 (fun zs => ?_) (fun zs => ?_)⟩
    · refine ⟨_, rfl, a, ns1, rfl, ha1, fun H2 s2 ha2 => ⟨_, _, rfl, rfl, (by show (0 : Int) < _; decide), _, _, rfl, rfl, ?_⟩⟩
      refine ⟨_, rfl, _, rfl, a, _, rfl, ha2, fun H3 s3 ha3 => ?_⟩
      have hp3 := s3 _ _ npa (s2 _ _ npa hp)
      obtain ⟨j, hj, ej⟩ := mod_at (i := ns1.tail.headD 0) (n := m) (by omega)
      refine ⟨_, rfl, _, _, rfl, rfl, (by show (0 : Int) < (m : Int); omega), p, _, _, j, rfl, rfl, hp3, (by rw [ej, List.length_map]; exact ixN_nat (by omega)), _, rfl, ?_⟩
      refine q _ p (ws.set j (1 + ns1.headD 0 % 9)) ns1.tail.tail (((s1.trans s2).trans s3).new np) np npa ?_ ?_ (by rw [List.length_set]; exact hl) ⟨fun x hx => ?_, ?_, ?_⟩
      · exact at_set
      · rw [upd_ne npa.symm]
        exact ha3
      rotate_left
      · have z0 : ws.sum = 0 := V.int.inj (of_decide_eq_true zs)
        rw [casesM_set (fun w hw => zero_of_sum (fun w hw => (sm w hw).1) z0 w hw) (by omega)]
        omega
      · exact ⟨_, List.mem_of_getElem? (List.getElem?_set_self (by omega)), by omega⟩
      · rcases List.mem_or_eq_of_mem_set hx with z | z
        · exact sm x z
        · rw [z]
          omega
    · exact ⟨_, rfl, q H1 p ws ns1 s1 np npa hp ha1 hl ⟨sm, cas, some_of_sum (fun w hw => (sm w hw).1) fun z => zs (decide_eq_true (congrArg V.int z))⟩⟩
theorem menu4 {a b c e : Int} {j : Nat} (h : j < 4) (h1 : 0 ≤ a ∧ a < 1000000000000) (h2 : 0 ≤ b ∧ b < 1000000000000) (h3 : 0 ≤ c ∧ c < 1000000000000) (h4 : 0 ≤ e ∧ e < 1000000000000) : ∃ v : Int, ([V.int a, V.int b, V.int c, V.int e] : List V)[j]? = some (.int v) ∧ 0 ≤ v ∧ v < 1000000000000 :=
  match j, h with
  | 0, _ => ⟨a, rfl, h1⟩
  | 1, _ => ⟨b, rfl, h2⟩
  | 2, _ => ⟨c, rfl, h3⟩
  | 3, _ => ⟨e, rfl, h4⟩
theorem ok_price {f f1 : Addr} {fd fd1 : FuncData} {k : Nat} (D : Def K mg "_law_price" s_law_price ["_law_draws_here"] f fd) (D_law_pop : Def K mg "_law_pop" s_law_pop ["_law_draws_here"] f1 fd1) :
    FnOk P w K mg base CX0 (k + 2) f fd ["_law_draws_here"] sp_price := by
  have G_law_pop : FnOk P w K mg base CX0 (k + 1) f1 fd1 ["_law_draws_here"] sp_pop := ok_pop D_law_pop
  refine D.F.ok sc_law_price (fun vs H Q E h => ?_) (fun cdv A outer s H vs Q E hr h => ?_)
  · obtain ⟨a, ns, rfl, _⟩ := h
    rfl
  · obtain ⟨a, ns, rfl, ha, q⟩ := h
    refine ⟨_, (pss_cons (ps_set (i := 1) sc_law_price.nd rfl (Or.inl rfl) (pe_call G_law_pop hr (by rfl) D_law_pop.g D_law_pop.F.kp D_law_pop.b .nil pass0 (pa_cons (pv 0) pa_nil)))
  (pss_one (ps_ret (pe_ix ix_list (pe_lst (pa_cons (pe_op op_mod (pe_op op_fdiv (pv 1) pe_int) pe_int) (pa_cons (pe_op op_mod (pe_op op_fdiv (pv 1) pe_int) pe_int) (pa_cons pe_int (pa_cons (pe_op op_mod (pe_op op_mul (pv 1) pe_int) (pe_op op_pow pe_int pe_int)) pa_nil))))) (pe_op op_mod (pv 1) pe_int) (fun _ _ => rfl))))), ?_⟩
    refine ⟨_, rfl, a, ns, rfl, ha, fun H1 s1 ha1 => ?_⟩
    generalize ns.headD 0 = n
    refine ⟨_, rfl, _, _, rfl, rfl, ⟨by decide, by decide⟩, _, _, rfl, rfl, (by show (0 : Int) < _; decide), ?_⟩
    refine ⟨_, rfl, _, _, rfl, rfl, ⟨by decide, by decide⟩, _, _, rfl, rfl, (by show (0 : Int) < _; decide), ?_⟩
    refine ⟨_, rfl, _, _, rfl, rfl, .inr ⟨by decide, by decide⟩, _, _, rfl, rfl, ⟨by decide, by decide, by decide⟩, _, _, rfl, rfl, (by show (0 : Int) < _; decide), by show 4 ≤ sizeLine; decide, fun e ne => ?_⟩
    obtain ⟨j, hj, ej⟩ := mod_at (i := n) (n := 4) (by decide)
    have e12 : (10 : Int) ^ (12 : Int).toNat = 1000000000000 := by decide
    obtain ⟨v, hv, hv0, hv1⟩ := menu4 (a := n / 4 % 30) (b := n / 4 % 1000) (c := 0) (e := n * 7919 % 10 ^ (12 : Int).toNat) hj (by omega) (by omega) (by omega) (by rw [e12]; omega)
    refine ⟨_, rfl, _, _, rfl, rfl, (by show (0 : Int) < _; decide), e, _, _, _, rfl, rfl, SqL.of upd_same, at_of ej hv, ?_⟩
    exact q _ _ v (s1.trans (.of (same_upd ne))) (by rw [upd_ne (ne_of_none ha1 ne)]; exact ha1) hv0 hv1
end
/-! ### _law_tiers -/
abbrev s_law_tiers : Stmt := topS 88
abbrev N_law_tiers : List Str := ["_law_draws_here", "_law_found", "_law_at", "_law_k", "_law_number"]
theorem sc_law_tiers : FnScope N_law_tiers ["_law_draws_here"] (defScope s_law_tiers) := ⟨rfl, rfl, rfl, by decide +kernel, rfl, by decide +kernel, by decide +kernel⟩

def sp_tiers : Sp := fun vs H Q _ => ∃ (a : Addr) (ns : List Int), vs = [.ref a] ∧ H a = some (LI ns) ∧
  ∀ H' p ts ns', SameBut a H H' → H p = none → TiersAt (cutH a H') p ts → GoodT ts → PriceT ts → H' a = some (LI ns') → Q (.ref p) H'
structure RiseT (ts : List (Int × Int)) (z : Int) (i : Nat) : Prop where
  few : ts.length ≤ i
  none : ts = [] → z = 1 ∧ i = 0
  one : ∀ t, ts[0]? = some t → t.1 = 1
  most : ∀ t ∈ ts, t.1 ≤ 12 ∧ t.1 < z
  rise : ∀ (i : Nat) a b, ts[i]? = some a → ts[i + 1]? = some b → a.1 < b.1
  pr : PriceT ts
theorem RiseT.push {ts : List (Int × Int)} {z z' p : Int} {i : Nat} (h : RiseT ts z i) (hz : z < 13) (hz' : z < z') (h0 : 0 ≤ p) (h1 : p < 1000000000000) : RiseT (ts ++ [(z, p)]) z' (i + 1) := by
  refine ⟨?_, fun e => ?_, fun t e => ?_, fun t ht => ?_, fun j a b ha hb => ?_, fun t ht => ?_⟩
  · have := h.few
    rw [List.length_append, List.length_singleton]
    omega
  · simp at e
  · cases hts : ts with
    | nil =>
      rw [hts] at e
      cases Option.some.inj e
      exact (h.none hts).1
    | cons x r =>
      rw [hts] at e
      exact h.one t (by rw [hts]; exact e)
  · rcases List.mem_append.mp ht with m | m
    · have := h.most t m
      exact ⟨this.1, by omega⟩
    · rw [List.mem_singleton.mp m]
      exact ⟨by show z ≤ 12; omega, hz'⟩
  · by_cases c : j + 1 < ts.length
    · rw [List.getElem?_append_left (by omega)] at ha
      rw [List.getElem?_append_left c] at hb
      exact h.rise j a b ha hb
    · have hj : j + 1 = ts.length := by
        have := (List.getElem?_eq_some_iff.mp hb).1
        rw [List.length_append, List.length_singleton] at this
        omega
      rw [List.getElem?_append_left (by omega)] at ha
      rw [List.getElem?_append_right (by omega), hj, Nat.sub_self] at hb
      cases Option.some.inj hb
      exact (h.most a (List.mem_of_getElem? ha)).2
  · rcases List.mem_append.mp ht with m | m
    · exact h.pr t m
    · rw [List.mem_singleton.mp m]
      exact ⟨h0, h1⟩
theorem RiseT.pass {ts : List (Int × Int)} {z z' : Int} {i : Nat} (h : RiseT ts z i) (hz : ¬z < 13) (hz' : z < z') : RiseT ts z' (i + 1) := by
  refine ⟨by have := h.few; omega, fun e => ?_, h.one, fun t ht => ?_, h.rise, h.pr⟩
  · have := h.none e
    omega
  · have := h.most t ht
    exact ⟨this.1, by omega⟩
theorem RiseT.good {ts : List (Int × Int)} {z : Int} {i : Nat} (h : RiseT ts z i) (h1 : 1 ≤ i) (h4 : i ≤ 4) : GoodT ts := by
  refine ⟨?_, by have := h.few; omega, h.one, fun t ht => (h.most t ht).1, h.rise⟩
  rcases Nat.eq_zero_or_pos ts.length with z | z
  · have := (h.none (List.eq_nil_of_length_eq_zero z)).2
    omega
  · exact z
theorem menu3 {j : Nat} (h : j < 3) : ∃ v : Int, ([V.int 1, V.int 3, V.int 8] : List V)[j]? = some (.int v) ∧ 0 < v :=
  match j, h with
  | 0, _ => ⟨1, rfl, by decide⟩
  | 1, _ => ⟨3, rfl, by decide⟩
  | 2, _ => ⟨8, rfl, by decide⟩
section
variable {P : Program} {w : World} {K : PySem.W.Frag} {mg : Str → Option Value} {base : Heap}
theorem ok_tiers {f f1 f2 : Addr} {fd fd1 fd2 : FuncData} {k : Nat} (M : Names mg) (D : Def K mg "_law_tiers" s_law_tiers ["_law_draws_here"] f fd) (D_law_price : Def K mg "_law_price" s_law_price ["_law_draws_here"] f1 fd1) (D_law_pop : Def K mg "_law_pop" s_law_pop ["_law_draws_here"] f2 fd2) :
    FnOk P w K mg base CX0 (k + 3) f fd ["_law_draws_here"] sp_tiers := by
  have G_law_price : FnOk P w K mg base CX0 (k + 2) f1 fd1 ["_law_draws_here"] sp_price := ok_price D_law_price D_law_pop
  have G_law_pop : FnOk P w K mg base CX0 (k + 2) f2 fd2 ["_law_draws_here"] sp_pop := ok_pop D_law_pop
  refine D.F.ok sc_law_tiers (fun vs H Q E h => ?_) (fun cdv A outer s H vs Q E hr h => ?_)
  · obtain ⟨a, ns, rfl, _⟩ := h
    rfl
  · obtain ⟨a, ns, rfl, ha, q⟩ := h
    refine ⟨_, (pss_cons (ps_set (i := 1) sc_law_tiers.nd rfl (Or.inl rfl) (pe_lst pa_nil))
  (pss_cons (ps_set (i := 2) sc_law_tiers.nd rfl (Or.inl rfl) pe_int)
  (pss_cons (ps_for PassesOwn.never rfl (pi_range1 (by rfl) M.range (pa_cons (pe_op op_add pe_int (pe_op op_mod (pe_call G_law_pop hr (by rfl) D_law_pop.g D_law_pop.F.kp D_law_pop.b .nil pass0 (pa_cons (pv 0) pa_nil)) pe_int)) pa_nil)) (pg_name (i := 3) sc_law_tiers.nd rfl (Or.inl rfl))
   (pss_cons (ps_set (i := 4) sc_law_tiers.nd rfl (Or.inl rfl) (pe_call G_law_pop hr (by rfl) D_law_pop.g D_law_pop.F.kp D_law_pop.b .nil pass0 (pa_cons (pv 0) pa_nil)))
  (pss_cutI (ps_if (pt_cmpR op_lt (pv 2) pe_int (nomark _))
   (pss_one (ps_expr (pe_bm PySem.F.plainAttrs_list PySem.F.slot_list_append PySem.F.type_list_append mt_append (pv 1) (pa_cons (pe_tup (pa_cons (pv 2) (pa_cons (pe_call G_law_price hr (by rfl) D_law_price.g D_law_price.F.kp D_law_price.b .nil pass0 (pa_cons (pv 0) pa_nil)) pa_nil))) pa_nil))))
   pss_nil)
  (pss_one (ps_set (i := 2) sc_law_tiers.nd rfl (Or.inl rfl) (pe_op op_add (pe_op op_add (pv 2) pe_int) (pe_op op_mod (pv 4) (pe_ix ix_list (pe_lst (pa_cons pe_int (pa_cons pe_int (pa_cons pe_int pa_nil)))) (pe_op op_mod (pe_op op_fdiv (pv 4) pe_int) pe_int) (fun _ _ => rfl)))))))))
  (pss_one (ps_ret (pv 1)))))), ?_⟩
    refine ⟨Nat.zero_le _, fun F nF => ?_⟩
    have naF : F ≠ a := (ne_of_none ha nF).symm
    have ha0 : upd H F (.lst []) a = some (LI ns) := by rw [upd_ne naF.symm]; exact ha
    refine ⟨_, rfl, a, ns, rfl, ha0, fun H1 s1 ha1 => ?_⟩
    have s1' : SameBut a H H1 := (SameBut.of (same_upd nF)).trans s1
    have hF1 : H1 F = some (.lst []) := s1 _ _ naF upd_same
    obtain ⟨m, hm1, hm4, em⟩ := draw4 (ns.headD 0)
    refine ⟨_, _, rfl, rfl, (by show (0 : Int) < _; decide), _, _, rfl, rfl, _, rfl, by omega, by omega, for_range (n := (1 + ns.headD 0 % 4).toNat) (fun i σ H' => ∃ z y3 y4, σ = [some (.ref a), some (.ref F), some (.int z), y3, y4] ∧ SameBut a H H' ∧ (∃ ds, H' a = some (LI ds)) ∧ ∃ ts, TiersAt (cutH a H') F ts ∧ RiseT ts z i) ⟨1, none, none, rfl, s1', ⟨_, ha1⟩, [], ⟨[], cut_put naF hF1, rfl, fun i u t hu => by simp at hu⟩, ⟨Nat.le_refl _, fun _ => ⟨rfl, rfl⟩, fun t e => by simp at e, fun t ht => by simp at ht, fun i a b ha => by simp at ha, fun t ht => by simp at ht⟩⟩ (fun i σ H2 hi hp => ?_) (fun σ H2 hp => ?_)⟩
    · obtain ⟨z, y3, y4, rfl, s2, ⟨ds, ha2⟩, ts, hts, rs⟩ := hp
      refine ⟨_, rfl, a, ds, rfl, ha2, fun H3 s3 ha3 => ?_⟩
      have hts3 := hts.same (cut_same s3)
      generalize ds.headD 0 = n
      refine ⟨fun σ' H' => ∃ ts', σ' = [some (.ref a), some (.ref F), some (.int z), some (.int (0 + (i : Nat))), some (.int n)] ∧ SameBut a H H' ∧ (∃ ds, H' a = some (LI ds)) ∧ TiersAt (cutH a H') F ts' ∧ ∀ z', z < z' → RiseT ts' z' (i + 1), ?_, fun σ6 H6 hI => ?_⟩
      · refine ⟨_, rfl, _, _, rfl, rfl, _, rfl, ite2 (fun c => ?_) (fun c => ?_)⟩
        · have c' : z < 13 := of_decide_eq_true c
          have hF3 : ∃ xs, H3 F = some (.lst xs) := by
            obtain ⟨us, h1, _⟩ := id hts3
            exact ⟨_, (cut_some h1).2⟩
          obtain ⟨xs3, hF3⟩ := hF3
          refine ⟨_, rfl, .inl ⟨rfl, _, SqL.of hF3⟩, _, rfl, _, rfl, a, _, rfl, ha3, fun H4 ns4 p s4 ha4 p0 p1 => ⟨by show 2 ≤ sizeLine; decide, fun u nu => ?_⟩⟩
          have hts4 := hts3.same (cut_same s4)
          have nua : u ≠ a := (ne_of_none ha4 nu).symm
          have nuc : cutH a H4 u = none := by rw [cut_at nua]; exact nu
          obtain ⟨xs, hx, hxl, hpu⟩ := hts4.push (t := (z, p)) nuc
          have hF4 := (cut_some hx).2
          have few := rs.few
          refine ⟨F, _, _, rfl, rfl, (by rw [upd_ne (ne_of_none hF4 nu)]; exact hF4), szL' (by omega), ts ++ [(z, p)], rfl, ?_, ⟨ns4, ?_⟩, ?_, fun z' hz => rs.push c' hz p0 p1⟩
          · exact (((s2.trans s3).trans s4).trans (.of (same_upd nu))).new nF
          · rw [upd_ne naF.symm, upd_ne nua.symm]
            exact ha4
          · rw [cut_upd naF, cut_upd nua]
            exact hpu
        · exact ⟨ts, rfl, s2.trans s3, ⟨_, ha3⟩, hts3, fun z' hz => rs.pass (fun y => c (decide_eq_true y)) hz⟩
      · obtain ⟨ts', rfl, s6, ⟨ds6, ha6⟩, hts6, hr6⟩ := hI
        refine ⟨_, rfl, _, _, rfl, rfl, _, rfl, by show 3 ≤ sizeLine; decide, fun e ne => ?_⟩
        obtain ⟨j, hj, ej⟩ := mod_at (i := n / 8) (n := 3) (by decide)
        obtain ⟨v, hv, hv0⟩ := menu3 hj
        have nea : e ≠ a := (ne_of_none ha6 ne).symm
        refine ⟨_, rfl, _, _, rfl, rfl, ⟨by decide, by decide⟩, _, _, rfl, rfl, (by show (0 : Int) < _; decide), e, _, _, _, rfl, rfl, SqL.of upd_same, at_of ej hv, _, _, rfl, rfl, hv0, _, _, rfl, rfl, ?_⟩
        have := Int.emod_nonneg n (show v ≠ 0 by omega)
        exact ⟨_, _, _, rfl, s6.trans (.of (same_upd ne)), ⟨ds6, by rw [upd_ne nea.symm]; exact ha6⟩, ts', hts6.same (cut_same (.of (same_upd ne))), hr6 _ (by omega)⟩
    · obtain ⟨z, y3, y4, rfl, s2, ⟨ds, ha2⟩, ts, hts, rs⟩ := hp
      exact ⟨_, rfl, q H2 F ts ds s2 nF hts (rs.good (by omega) (by omega)) rs.pr ha2⟩
end
/-! ### _law_offer_text -/
abbrev s_law_offer_text : Stmt := topS 91
abbrev N_law_offer_text : List Str := ["_law_names_here", "_law_offer", "_law_content_here", "_law_start", "_law_price_here"]
theorem sc_law_offer_text : FnScope N_law_offer_text ["_law_names_here", "_law_offer"] (defScope s_law_offer_text) := ⟨rfl, rfl, rfl, by decide +kernel, rfl, by decide +kernel, by decide +kernel⟩

section
variable {P : Program} {w : World} {K : PySem.W.Frag} {mg : Str → Option Value} {base : Heap} {T : List Addr}
theorem ok_law_offer_text {f f1 : Addr} {fd fd1 : FuncData} {k : Nat} (M : Names mg) (D : Def K mg "_law_offer_text" s_law_offer_text ["_law_names_here", "_law_offer"] f fd) (D_law_content_text : Def K mg "_law_content_text" s_law_content_text ["_law_names_here", "_law_content_here"] f1 fd1) : FnOk P w K mg base CX0 (k + 2) f fd ["_law_names_here", "_law_offer"] sp_show_offer := by
  have G_law_content_text : FnOk P w K mg base CX0 (k + 1) f1 fd1 ["_law_names_here", "_law_content_here"] sp_law_text := ok_law_text M D_law_content_text
  refine D.F.ok sc_law_offer_text (fun vs H Q E h => ?_) (fun cdv A outer s H vs Q E hr h => ?_)
  · obtain ⟨a, v, xs, o, rfl, _⟩ := h
    rfl
  · obtain ⟨a, v, xs, o, rfl, ha, ho, g, tl, q⟩ := h
    have sl := show_len g tl.cont
    refine ⟨_, (pss_cons (ps_set (i := 2) sc_law_offer_text.nd rfl (Or.inl rfl) (pe_call G_law_content_text hr (by rfl) D_law_content_text.g D_law_content_text.F.kp D_law_content_text.b .nil pass0 (pa_cons (pv 0) (pa_cons (pe_ix ix_tup (pv 1) pe_int (fun _ _ => rfl)) pa_nil))))
  (pss_cons (ps_if (pt_cmpR op_eq (pe_ix ix_tup (pv 1) pe_int (fun _ _ => rfl)) pe_str (nomark _))
   (pss_one (ps_ret (pe_op op_add_str (pe_op op_add_str (pe_op op_add_str pe_str (pv 2)) pe_str) (pe_join pe_str (pe_lc (own := [("_law_start", 3), ("_law_price_here", 4)]) (by rfl) sc_law_offer_text.nd (pi_list (pe_ix ix_tup (pv 1) pe_int (fun _ _ => rfl))) (blkOk_by (own := [("_law_start", 3), ("_law_price_here", 4)]) (N := N_law_offer_text) (sc := defScope s_law_offer_text) (by decide +kernel)) (fun _ _ _ _ _ => (pg_tupK (K := K) (n := 2) rfl rfl (pgs_cons (pg_name (i := 3) sc_law_offer_text.nd rfl (Or.inl rfl)) (pgs_cons (pg_name (i := 4) sc_law_offer_text.nd rfl (Or.inl rfl)) pgs_nil)))) (fun _ _ _ _ _ => pts_nil) (fun _ _ _ _ _ => (pe_op op_add_str (pe_op op_add_str (pe_callTy call_str_int (by rfl) M.str (by decide +kernel) (pa_cons (pv 3) pa_nil)) pe_str) (pe_callTy call_str_int (by rfl) M.str (by decide +kernel) (pa_cons (pv 4) pa_nil)))))))))
   pss_nil)
  (pss_cons (ps_if (pt_cmpR op_eq (pe_ix ix_tup (pv 1) pe_int (fun _ _ => rfl)) pe_str (nomark _))
   (pss_one (ps_ret (pe_op op_add_str (pe_op op_add_str (pe_op op_add_str (pe_op op_add_str (pe_op op_add_str pe_str (pe_callTy call_str_int (by rfl) M.str (by decide +kernel) (pa_cons (pe_ix ix_tup (pv 1) pe_int (fun _ _ => rfl)) pa_nil))) pe_str) (pv 2)) pe_str) (pe_callTy call_str_int (by rfl) M.str (by decide +kernel) (pa_cons (pe_ix ix_tup (pv 1) pe_int (fun _ _ => rfl)) pa_nil)))))
   pss_nil)
  (pss_one (ps_ret (pe_op op_add_str (pe_op op_add_str (pv 2) pe_str) (pe_callTy call_str_int (by rfl) M.str (by decide +kernel) (pa_cons (pe_ix ix_tup (pv 1) pe_int (fun _ _ => rfl)) pa_nil)))))))), ?_⟩
    cases o with
    | pack c p =>
      obtain ⟨b, hv, hb⟩ := ho
      obtain ⟨fc, p0, p1⟩ := tl
      obtain ⟨n, rfl⟩ := Int.eq_ofNat_of_zero_le p0
      have hn : n < 1000000000000 := by omega
      have nl := num12 hn
      refine ⟨_, rfl, _, rfl, v, _, _, _, rfl, rfl, SqT.of hv, atI_nat (j := 1) rfl, a, b, xs, c, rfl, ha, hb, g, fc, fun H1 s1 => ?_⟩
      have hv1 := s1 _ _ hv
      refine ⟨_, rfl, v, _, _, _, rfl, rfl, SqT.of hv1, atI_nat (j := 0) rfl, rfl, false, rfl, ?_⟩
      refine ⟨_, rfl, v, _, _, _, rfl, rfl, SqT.of hv1, atI_nat (j := 0) rfl, rfl, false, rfl, ?_⟩
      have sl' : (showM xs c).length ≤ 48 := sl
      exact ⟨_, rfl, _, _, rfl, rfl, szL (by rw [for_len]; omega), _, rfl, v, _, _, _, rfl, rfl, SqT.of hv1, atI_nat (j := 2) rfl, _, rfl, log12 hn, _, _, rfl, rfl, szL (by rw [str_len_app, for_len]; show _ + (numS n).length ≤ _; omega), q H1 s1⟩
    | add c p k =>
      obtain ⟨b, hv, hb⟩ := ho
      obtain ⟨fc, p0, p1, k0, k1⟩ := tl
      obtain ⟨n, rfl⟩ := Int.eq_ofNat_of_zero_le p0
      obtain ⟨j, rfl⟩ := Int.eq_ofNat_of_zero_le k0
      have hn : n < 1000000000000 := by omega
      have hj : j < 1000000000000 := by omega
      have nl := num12 hn
      have jl := num12 hj
      refine ⟨_, rfl, _, rfl, v, _, _, _, rfl, rfl, SqT.of hv, atI_nat (j := 1) rfl, a, b, xs, c, rfl, ha, hb, g, fc, fun H1 s1 => ?_⟩
      have hv1 := s1 _ _ hv
      refine ⟨_, rfl, v, _, _, _, rfl, rfl, SqT.of hv1, atI_nat (j := 0) rfl, rfl, false, rfl, ?_⟩
      refine ⟨_, rfl, v, _, _, _, rfl, rfl, SqT.of hv1, atI_nat (j := 0) rfl, rfl, true, rfl, ?_⟩
      have sl' : (showM xs c).length ≤ 48 := sl
      have e : offerS xs (.add c (n : Int) (j : Int)) = ("with " : Str) ++ numS j ++ (": " : Str) ++ showM xs c ++ (" for " : Str) ++ numS n := by
        refine TL.ext_tl ?_
        show TL.tl (("with " : Str) ++ (numS j ++ (": " : Str) ++ (showM xs c ++ (" for " : Str) ++ numS n))) = _
        simp only [TL.tl_append, List.append_assoc]
      rw [e] at q
      have w5 := word5_len.2
      exact ⟨_, rfl, v, _, _, _, rfl, rfl, SqT.of hv1, atI_nat (j := 3) rfl, _, rfl, log12 hj, _, _, rfl, rfl, szL (by show _ + (numS j).length ≤ _; omega), _, _, rfl, rfl, szL (by rw [str_len_app, colon_len]; show _ + (numS j).length + _ ≤ _; omega), _, rfl, _, _, rfl, rfl, szL (by rw [str_len_app, str_len_app, colon_len]; show _ + (numS j).length + _ + _ ≤ _; omega), _, _, rfl, rfl, szL (by rw [str_len_app, str_len_app, str_len_app, colon_len, for_len]; show _ + (numS j).length + _ + _ + _ ≤ _; omega), _, rfl, v, _, _, _, rfl, rfl, SqT.of hv1, atI_nat (j := 2) rfl, _, rfl, log12 hn, _, _, rfl, rfl, szL (by rw [str_len_app, str_len_app, str_len_app, str_len_app, colon_len, for_len]; show _ + (numS j).length + _ + _ + _ + (numS n).length ≤ _; omega), q H1 s1⟩
    | many c ts =>
      obtain ⟨b, t, hv, hb, us, u1, u2, u3⟩ := ho
      obtain ⟨fc, ft⟩ := tl
      have few := ft.few
      refine ⟨_, rfl, _, rfl, v, _, _, _, rfl, rfl, SqT.of hv, atI_nat (j := 1) rfl, a, b, xs, c, rfl, ha, hb, g, fc, fun H1 s1 => ?_⟩
      have hv1 := s1 _ _ hv
      have u1' := s1 _ _ u1
      refine ⟨_, rfl, v, _, _, _, rfl, rfl, SqT.of hv1, atI_nat (j := 0) rfl, rfl, true, rfl, ?_⟩
      have sl' : (showM xs c).length ≤ 48 := sl
      have w5 := word5_len.1
      refine ⟨_, rfl, _, _, rfl, rfl, szL (by omega), _, _, rfl, rfl, szL (by rw [str_len_app, colon_len]; omega), ⟨_, rfl⟩, _, rfl, v, _, _, _, rfl, rfl, SqT.of hv1, atI_nat (j := 2) rfl, t, rfl, ⟨_, SqL.of u1'⟩, fun B nB => lc_list (xs := us.map V.ref) (fun i H' => Same H1 H' ∧ H' B = some (LS ((ts.take i).map tierS))) ⟨same_upd nB, upd_same⟩ (fun i H' _ hp => SqL.of (hp.1 _ _ u1')) (fun i x H2 hx hp => ?_) (fun H2 hp => ?_)⟩
      · obtain ⟨s2, hB⟩ := hp
        rw [List.getElem?_map] at hx
        cases hu : us[i]? with
        | none => rw [hu] at hx; cases hx
        | some u =>
          rw [hu] at hx
          cases Option.some.inj hx
          have hi : i < ts.length := by
            have := (List.getElem?_eq_some_iff.mp hu).1
            omega
          have gt := List.getElem?_eq_getElem hi
          obtain ⟨t1, t2, t3, t4⟩ := ft.each _ (List.getElem_mem hi)
          have hu2 := s2 _ _ (s1 _ _ (u3 i u _ hu gt))
          generalize ts[i] = tt at gt t1 t2 t3 t4 hu2
          obtain ⟨b1, p1⟩ := tt
          obtain ⟨b0, rfl⟩ := Int.eq_ofNat_of_zero_le t1
          obtain ⟨p0, rfl⟩ := Int.eq_ofNat_of_zero_le t3
          have l1 : b0 < 1000000000000 := by have : ((b0 : Nat) : Int) ≤ 99 := t2; omega
          have l2 : p0 < 1000000000000 := by have : ((p0 : Nat) : Int) < 1000000000000 := t4; omega
          have n1 := num12 l1
          have n2 := num12 l2
          refine ⟨u, _, rfl, SqT.of hu2, rfl, _, _, rfl, _, _, rfl, rfl, rfl, _, rfl, _, rfl, log12 l1, _, _, rfl, rfl, szL (by rw [for_len]; show (numS b0).length + _ ≤ _; omega), _, rfl, _, rfl, log12 l2, _, _, rfl, rfl, szL (by rw [str_len_app, for_len]; show (numS b0).length + _ + (numS p0).length ≤ _; omega), _, hB, szL' (by rw [List.length_map, List.length_map, List.length_take]; omega), sm_new s2 nB, ?_⟩
          rw [upd_same, ls_app, take_succ_at gt, List.map_append]
          rfl
      · obtain ⟨s2, hB⟩ := hp
        rw [List.length_map, u2, List.take_length] at hB
        have sm := sum20 ft.lens
        have tln := ft.len
        rw [List.length_map] at sm
        refine ⟨_, B, _, rfl, rfl, .inl (SqL.of hB), by rw [comma_len, List.length_map]; omega, ?_⟩
        rw [TL.join_eq]
        have e : offerS xs (.many c ts) = ("many " : Str) ++ showM xs c ++ (": " : Str) ++ tiersS ts := by
          refine TL.ext_tl ?_
          show TL.tl (("many " : Str) ++ (showM xs c ++ (": " : Str) ++ tiersS ts)) = _
          simp only [TL.tl_append, List.append_assoc]
        rw [e] at q
        have tln' : (Str.join (", " : Str) (ts.map tierS)).length ≤ 88 := tln
        exact ⟨_, _, rfl, rfl, szL (by rw [str_len_app, str_len_app, colon_len]; omega), q H2 (s1.trans s2)⟩
end
/-! ### _law_tiers_good, _law_good_offer -/
abbrev s_law_tiers_good : Stmt := topS 93
abbrev N_law_tiers_good : List Str := ["_law_tiers_here", "_law_starts", "_law_start", "_law_price_here", "_law_k"]
theorem sc_law_tiers_good : FnScope N_law_tiers_good ["_law_tiers_here"] (defScope s_law_tiers_good) := ⟨rfl, rfl, rfl, by decide +kernel, rfl, by decide +kernel, by decide +kernel⟩

abbrev s_law_good_offer : Stmt := topS 94
abbrev N_law_good_offer : List Str := ["_law_shop", "_law_offer"]
theorem sc_law_good_offer : FnScope N_law_good_offer ["_law_shop", "_law_offer"] (defScope s_law_good_offer) := ⟨rfl, rfl, rfl, by decide +kernel, rfl, by decide +kernel, by decide +kernel⟩

def sp_tgood (K : PySem.W.Frag) : Sp := fun vs H Q _ => ∃ (t : Addr) (ts : List (Int × Int)), vs = [.ref t] ∧ TiersAt H t ts ∧ 1 ≤ ts.length ∧ ts.length ≤ 4 ∧ ∀ H', Same H H' → Q (.bl (goodB ts)) H'
def badK (bs : List Int) (i : Nat) : List Int := ((List.range i).filter fun j => decide (bs.getD (j + 1) 0 ≤ bs.getD j 0)).map fun (j : Nat) => 1 + (j : Int)
theorem badK_succ (bs : List Int) (i : Nat) : badK bs (i + 1) = badK bs i ++ if bs.getD (i + 1) 0 ≤ bs.getD i 0 then [1 + (i : Int)] else [] := by
  unfold badK
  rw [List.range_succ, List.filter_append, List.map_append]
  by_cases h : bs.getD (i + 1) 0 ≤ bs.getD i 0
  · rw [if_pos h, List.filter_cons_of_pos (by rw [decide_eq_true h])]
    rfl
  · rw [if_neg h, List.filter_cons_of_neg (by rw [decide_eq_false h]; decide)]
    rfl
theorem badK_len (bs : List Int) (i : Nat) : (badK bs i).length ≤ i := by
  unfold badK
  rw [List.length_map]
  have := List.length_filter_le (fun j => decide (bs.getD (j + 1) 0 ≤ bs.getD j 0)) (List.range i)
  rw [List.length_range] at this
  exact this
theorem badK_rise (bs : List Int) : decide ((((badK bs (bs.length - 1)).length : Nat) : Int) = 0) = riseB bs := by
  unfold riseB badK
  rw [List.length_drop, show min bs.length (bs.length - 1) = bs.length - 1 by omega, Bool.eq_iff_iff, decide_eq_true_eq, List.all_eq_true, List.length_map]
  have key : ∀ i, (bs.drop 1).getD i 0 = bs.getD (i + 1) 0 := fun i => by
    rw [List.getD_eq_getElem?_getD, List.getElem?_drop, Nat.add_comm 1 i, ← List.getD_eq_getElem?_getD]
  constructor
  · intro h i hi
    have h0 := List.eq_nil_of_length_eq_zero (show ((List.range (bs.length - 1)).filter fun j => decide (bs.getD (j + 1) 0 ≤ bs.getD j 0)).length = 0 by omega)
    have := List.filter_eq_nil_iff.mp h0 i hi
    rw [key]
    refine decide_eq_true ?_
    have h2 : ¬ bs.getD (i + 1) 0 ≤ bs.getD i 0 := fun z => this (decide_eq_true z)
    omega
  · intro h
    have : ((List.range (bs.length - 1)).filter fun j => decide (bs.getD (j + 1) 0 ≤ bs.getD j 0)) = [] := by
      rw [List.filter_eq_nil_iff]
      intro i hi z
      have h1 := of_decide_eq_true (h i hi)
      rw [key] at h1
      have h2 := of_decide_eq_true z
      omega
    rw [this]
    rfl
theorem getD_at {bs : List Int} {i : Nat} (h : i < bs.length) : bs[i]? = some (bs.getD i 0) := by
  rw [List.getD_eq_getElem?_getD, List.getElem?_eq_getElem h]
  rfl
/-- may the offer stand behind these -/
def gOf (os : List Ofr) (o : Ofr) : Bool := decide (os.length < 8) && standO os os.length o
def sp_goffer : Sp := fun vs H Q _ => ∃ (S v : Addr) (os : List Ofr) (o : Ofr), vs = [.ref S, .ref v] ∧ ShopAt H S os ∧ OfrAt H v o ∧ os.length ≤ 8 ∧ (∀ c p k, o = .add c p k → 0 ≤ k) ∧ (∀ c ts, o = .many c ts → 1 ≤ ts.length ∧ ts.length ≤ 4) ∧ ∀ H', Same H H' → Q (.bl (gOf os o)) H'
section
variable {P : Program} {w : World} {K : PySem.W.Frag} {mg : Str → Option Value} {base : Heap} {T : List Addr}
theorem ok_tgood {f : Addr} {fd : FuncData} {k : Nat} (M : Names mg) (D : Def K mg "_law_tiers_good" s_law_tiers_good ["_law_tiers_here"] f fd) : FnOk P w K mg base CX0 (k + 1) f fd ["_law_tiers_here"] (sp_tgood K) := by
  refine D.F.ok sc_law_tiers_good (fun vs H Q E h => ?_) (fun cdv A outer s H vs Q E hr h => ?_)
  · obtain ⟨t, ts, rfl, _⟩ := h
    rfl
  · obtain ⟨t, ts, rfl, ⟨us, h1, h2, h3⟩, l1, l4, q⟩ := h
    refine ⟨_, (pss_cons (ps_set (i := 1) sc_law_tiers_good.nd rfl (Or.inr rfl) (pe_lc (own := [("_law_start", 2), ("_law_price_here", 3)]) (by rfl) sc_law_tiers_good.nd (pi_list (pv 0)) (blkOk_by (own := [("_law_start", 2), ("_law_price_here", 3)]) (N := N_law_tiers_good) (sc := defScope s_law_tiers_good) (by decide +kernel)) (fun _ _ _ _ _ => (pg_tupK (K := K) (n := 2) rfl rfl (pgs_cons (pg_name (i := 2) sc_law_tiers_good.nd rfl (Or.inl rfl)) (pgs_cons (pg_name (i := 3) sc_law_tiers_good.nd rfl (Or.inl rfl)) pgs_nil)))) (fun _ _ _ _ _ => pts_nil) (fun _ _ _ _ _ => (pv 2))))
  (pss_cons (ps_if (PW.pt (pw_or (pt_cmpR op_ne (pe_ix ix_list (pv 1) pe_int (fun _ _ => rfl)) pe_int (nomark _)) (pw_or1 (pt_cmpR op_gt (pe_ix ix_list (pv 1) (pe_un un_neg pe_int) (fun _ _ => rfl)) pe_int (nomark _)))))
   (pss_one (ps_ret pe_bl))
   pss_nil)
  (pss_one (ps_ret (pe_cmpR op_eq (pe_callB call_len_seq (by rfl) M.len (by decide +kernel) (pa_cons (pe_lc (own := [("_law_k", 4)]) (by rfl) sc_law_tiers_good.nd (pi_range2 (by rfl) M.range (pa_cons pe_int (pa_cons (pe_callB call_len_seq (by rfl) M.len (by decide +kernel) (pa_cons (pv 1) pa_nil)) pa_nil))) (blkOk_by (own := [("_law_k", 4)]) (N := N_law_tiers_good) (sc := defScope s_law_tiers_good) (by decide +kernel)) (fun _ _ _ _ _ => (pg_name (i := 4) sc_law_tiers_good.nd rfl (Or.inl rfl))) (fun _ _ _ _ _ => (pts_one (pt_cmpR op_ge (pe_ix (ix_listK (K := K) rfl) (pv 1) (pe_op op_sub (pv 4) pe_int) (fun _ _ => rfl)) (pe_ix (ix_listK (K := K) rfl) (pv 1) (pv 4) (fun _ _ => rfl)) (nomark _)))) (fun _ _ _ _ _ => (pv 4))) pa_nil)) pe_int (nomark _)))))), ?_⟩
    refine ⟨_, rfl, t, rfl, ⟨_, SqL.of h1⟩, fun B nB => lc_list (xs := us.map V.ref) (fun i H' => Same H H' ∧ H' B = some (LI ((ts.take i).map (·.1)))) ⟨same_upd nB, upd_same⟩ (fun i H' _ hp => SqL.of (hp.1 _ _ h1)) (fun i x H1 hx hp => ?_) (fun H1 hp => ?_)⟩
    · obtain ⟨s1, hB⟩ := hp
      rw [List.getElem?_map] at hx
      cases hu : us[i]? with
      | none => rw [hu] at hx; cases hx
      | some u =>
        rw [hu] at hx
        cases Option.some.inj hx
        have hi : i < ts.length := by
          have := (List.getElem?_eq_some_iff.mp hu).1
          omega
        have gt := List.getElem?_eq_getElem hi
        refine ⟨u, _, rfl, SqT.of (s1 _ _ (h3 i u _ hu gt)), rfl, _, _, rfl, _, _, rfl, rfl, rfl, _, rfl, _, hB, szL' (by rw [List.length_map, List.length_map, List.length_take]; omega), sm_new s1 nB, ?_⟩
        rw [take_succ_at gt, List.map_append]
        exact at_app
    · obtain ⟨s1, hB⟩ := hp
      rw [List.length_map, h2, List.take_length] at hB
      have hB : H1 B = some (LI (begs ts)) := hB
      have lbs : (begs ts).length = ts.length := List.length_map ..
      unfold goodB at q
      rw [decide_eq_true l1, decide_eq_true l4, Bool.true_and, Bool.true_and] at q
      have k2 : (begs ts)[0]? = some ((begs ts).getD 0 0) := by rw [List.getD_eq_getElem?_getD, List.getElem?_eq_getElem (by omega)]; rfl
      have k4 : (begs ts)[ts.length - 1]? = some ((begs ts).getD (ts.length - 1) 0) := by rw [List.getD_eq_getElem?_getD, List.getElem?_eq_getElem (by omega)]; rfl
      generalize (begs ts).getD 0 0 = b0 at q k2
      generalize (begs ts).getD (ts.length - 1) 0 = b1 at q k4
      by_cases c3 : b0 = 1
      · rw [decide_eq_true c3, Bool.true_and] at q
        refine ⟨_, rfl, B, _, _, _, rfl, rfl, SqL.of hB, atI_nat (j := 0) (get_ints k2), rfl, _, rfl, iteNS (by rw [c3]) ?_⟩
        have hneg : atI ((begs ts).map V.int) (-1) = some (.int b1) := by
          have e : (begs ts).map V.int = ((begs ts).map V.int).take (ts.length - 1) ++ [.int b1] := by
            rw [← take_succ_at (get_ints k4), show ts.length - 1 + 1 = ts.length by omega]
            exact (List.take_of_length_le (by rw [List.length_map, lbs]; exact Nat.le_refl _)).symm
          rw [e]
          exact atI_last _ _
        refine ⟨_, rfl, 1, rfl, B, _, -1, _, rfl, rfl, SqL.of hB, hneg, _, _, rfl, rfl, _, rfl, ?_⟩
        by_cases c4 : b1 ≤ 12
        · rw [decide_eq_true c4, Bool.true_and] at q
          rw [decide_eq_false (by omega)]
          refine ⟨_, rfl, B, _, rfl, .inl (SqL.of hB), 1, _, rfl, ⟨by decide, by decide, by omega, by rw [List.length_map]; omega⟩, fun U nU => lc_range (lo := 1) (n := ((((begs ts).map V.int).length : Nat) - 1 : Int).toNat) (fun i H' => Same H1 H' ∧ H' U = some (LI (badK (begs ts) i))) ⟨same_upd nU, upd_same⟩ (fun i H2 hi hp => ?_) (fun H2 hp => ?_)⟩
          · obtain ⟨s2, hU⟩ := hp
            have hi' : i + 1 < (begs ts).length := by rw [List.length_map] at hi; omega
            have g1 := getD_at (bs := begs ts) (i := i) (by omega)
            have g2 := getD_at hi'
            refine ⟨rfl, _, rfl, _, rfl, _, _, rfl, rfl, B, _, _, _, rfl, rfl, SqL.of (s2 _ _ hB), at_of (by show (1 : Int) + (i : Int) - 1 = (i : Int); omega) (get_ints g1), _, rfl, _, rfl, B, _, _, _, rfl, rfl, SqL.of (s2 _ _ hB), at_of (j := i + 1) (by show (1 : Int) + (i : Int) = ((i + 1 : Nat) : Int); omega) (get_ints g2), _, _, rfl, rfl, _, rfl, ite2 (fun c => ?_) (fun c => ?_)⟩
            · have c5 : (begs ts).getD (i + 1) 0 ≤ (begs ts).getD i 0 := of_decide_eq_true c
              refine ⟨_, rfl, _, hU, szL' (by rw [List.length_map]; have := badK_len (begs ts) i; omega), sm_new s2 nU, ?_⟩
              rw [badK_succ, if_pos c5]
              exact at_app
            · have c5 : ¬ (begs ts).getD (i + 1) 0 ≤ (begs ts).getD i 0 := fun z => c (decide_eq_true z)
              refine ⟨s2, ?_⟩
              rw [badK_succ, if_neg c5, List.append_nil]
              exact hU
          · obtain ⟨s2, hU⟩ := hp
            rw [List.length_map, show (((begs ts).length : Nat) - 1 : Int).toNat = (begs ts).length - 1 by omega] at hU
            refine ⟨U, _, rfl, .inl (SqL.of hU), rfl, ?_⟩
            have e := badK_rise (begs ts)
            have e2 : decide (V.int ((((badK (begs ts) ((begs ts).length - 1)).map V.int).length : Nat) : Int) = V.int 0) = riseB (begs ts) := by
              rw [← e, List.length_map]
              by_cases z : (((badK (begs ts) ((begs ts).length - 1)).length : Nat) : Int) = 0
              · rw [decide_eq_true z, decide_eq_true (congrArg V.int z)]
              · rw [decide_eq_false z, decide_eq_false fun y => z (V.int.inj y)]
            rw [e2]
            exact q H2 (s1.trans s2)
        · rw [decide_eq_false c4, Bool.false_and] at q
          rw [decide_eq_true (by omega)]
          exact q H1 s1
      · rw [decide_eq_false c3, Bool.false_and, Bool.false_and] at q
        refine ⟨_, rfl, B, _, _, _, rfl, rfl, SqL.of hB, atI_nat (j := 0) (get_ints k2), rfl, true, ?_, q H1 s1⟩
        show V.bl (!decide (V.int b0 = V.int 1)) = V.bl true
        rw [decide_eq_false (fun z => c3 (V.int.inj z))]
        rfl
theorem ok_goffer {f f1 : Addr} {fd fd1 : FuncData} {k : Nat} (M : Names mg) (D : Def K mg "_law_good_offer" s_law_good_offer ["_law_shop", "_law_offer"] f fd) (D_law_tiers_good : Def K mg "_law_tiers_good" s_law_tiers_good ["_law_tiers_here"] f1 fd1) (G_law_tiers_good : FnOk P w K mg base CX0 k f1 fd1 ["_law_tiers_here"] (sp_tgood K)) : FnOk P w K mg base CX0 (k + 1) f fd ["_law_shop", "_law_offer"] sp_goffer := by
  refine D.F.ok sc_law_good_offer (fun vs H Q E h => ?_) (fun cdv A outer s H vs Q E hr h => ?_)
  · obtain ⟨S, v, os, o, rfl, _⟩ := h
    rfl
  · obtain ⟨S, v, os, o, rfl, hS, ho, h8, add, mny, q⟩ := h
    obtain ⟨vs, k1, k2, k3⟩ := id hS
    refine ⟨_, (pss_cons (ps_if (pt_cmpR op_eq (pe_callB call_len_seq (by rfl) M.len (by decide +kernel) (pa_cons (pv 0) pa_nil)) pe_int (nomark _))
   (pss_one (ps_ret pe_bl))
   pss_nil)
  (pss_cons (ps_if (pt_cmpR op_eq (pe_ix ix_tup (pv 1) pe_int (fun _ _ => rfl)) pe_str (nomark _))
   (pss_one (ps_ret (pe_and (pe_cmpR op_lt (pe_ix ix_tup (pv 1) pe_int (fun _ _ => rfl)) (pe_callB call_len_seq (by rfl) M.len (by decide +kernel) (pa_cons (pv 0) pa_nil)) (nomark _)) (pe_one (pe_cmpR op_eq (pe_ix ix_tup (pe_ix ix_list (pv 0) (pe_ix ix_tup (pv 1) pe_int (fun _ _ => rfl)) (fun _ _ => rfl)) pe_int (fun _ _ => rfl)) pe_str (nomark _))))))
   pss_nil)
  (pss_one (ps_ret (pe_or (pe_cmpR op_eq (pe_ix ix_tup (pv 1) pe_int (fun _ _ => rfl)) pe_str (nomark _)) (pe_one (pe_call G_law_tiers_good hr (by rfl) D_law_tiers_good.g D_law_tiers_good.F.kp D_law_tiers_good.b .nil pass0 (pa_cons (pe_ix ix_tup (pv 1) pe_int (fun _ _ => rfl)) pa_nil)))))))), ?_⟩
    refine ⟨_, rfl, S, _, rfl, .inl (SqL.of k1), rfl, ?_⟩
    by_cases z : os.length = 8
    · refine ⟨true, (by show V.bl (decide _) = V.bl true; rw [List.length_map, k2, decide_eq_true (congrArg V.int (by omega))]), ?_⟩
      rw [show gOf os o = false from by unfold gOf; rw [decide_eq_false (by omega)]; rfl] at q
      exact q H fun _ _ h => h
    · refine ⟨false, (by show V.bl (decide _) = V.bl false; rw [List.length_map, k2, decide_eq_false (fun y => z (by have := V.int.inj y; omega))]), ?_⟩
      have eg : gOf os o = standO os os.length o := by unfold gOf; rw [decide_eq_true (by omega)]; rfl
      rw [eg] at q
      cases o with
      | pack c pr =>
        obtain ⟨b, hv, _⟩ := ho
        refine ⟨_, rfl, v, _, _, _, rfl, rfl, SqT.of hv, atI_nat (j := 0) rfl, rfl, false, by decide +kernel, ?_⟩
        exact ⟨_, rfl, v, _, _, _, rfl, rfl, SqT.of hv, atI_nat (j := 0) rfl, rfl, true, by decide +kernel, q H fun _ _ h => h⟩
      | many c ts =>
        obtain ⟨b, t, hv, _, ht⟩ := ho
        refine ⟨_, rfl, v, _, _, _, rfl, rfl, SqT.of hv, atI_nat (j := 0) rfl, rfl, false, by decide +kernel, ?_⟩
        exact ⟨_, rfl, v, _, _, _, rfl, rfl, SqT.of hv, atI_nat (j := 0) rfl, rfl, false, by decide +kernel, _, rfl, v, _, _, _, rfl, rfl, SqT.of hv, atI_nat (j := 2) rfl, t, ts, rfl, ht, (mny c ts rfl).1, (mny c ts rfl).2, q⟩
      | add c pr kk =>
        obtain ⟨b, hv, _⟩ := ho
        have hk := add c pr kk rfl
        obtain ⟨j, rfl⟩ := Int.eq_ofNat_of_zero_le hk
        refine ⟨_, rfl, v, _, _, _, rfl, rfl, SqT.of hv, atI_nat (j := 0) rfl, rfl, true, by decide +kernel, ?_⟩
        have q : ∀ H', Same H H' → Q (.bl (namesB os os.length (j : Int))) H' := q
        unfold namesB at q
        rw [decide_eq_true hk, Bool.true_and] at q
        refine ⟨_, rfl, v, _, _, _, rfl, rfl, SqT.of hv, atI_nat (j := 3) rfl, _, rfl, S, _, rfl, .inl (SqL.of k1), _, _, rfl, rfl, ?_⟩
        by_cases y : (j : Int) < (os.length : Int)
        · rw [decide_eq_true y, Bool.true_and, Int.toNat_natCast] at q
          refine ⟨true, (by show V.bl (decide _) = V.bl true; rw [List.length_map, k2, decide_eq_true y]), ?_⟩
          obtain ⟨u, o', g4, g5, g6⟩ := ShopAt.get (H := H) (a := S) k2 (show j < os.length by omega)
          obtain ⟨b', r', hb', _⟩ := (k3 j u o' g4 g5).head
          refine ⟨_, rfl, _, rfl, v, _, _, _, rfl, rfl, SqT.of hv, atI_nat (j := 3) rfl, S, _, _, _, rfl, rfl, SqL.of k1, atI_nat g6, u, _, _, _, rfl, rfl, SqT.of hb', atI_nat (j := 0) rfl, rfl, ?_⟩
          unfold packB at q
          rw [g5] at q
          have q0 := q H fun _ _ h => h
          cases o' with
          | pack c' p' => exact q0
          | many c' ts' => exact q0
          | add c' p' k' => exact q0
        · rw [decide_eq_false y, Bool.false_and] at q
          exact ⟨false, (by show V.bl (decide _) = V.bl false; rw [List.length_map, k2, decide_eq_false y]), q H fun _ _ h => h⟩
end
/-! ### _law_offered -/
abbrev s_law_offered : Stmt := topS 92
abbrev N_law_offered : List Str := ["_law_draws_here", "_law_many", "_law_number", "_law_content_here", "_law_bad"]
theorem sc_law_offered : FnScope N_law_offered ["_law_draws_here", "_law_many"] (defScope s_law_offered) := ⟨rfl, rfl, rfl, by decide +kernel, rfl, by decide +kernel, by decide +kernel⟩

/-- an offer that can be told, good or not -/
def OffX (m : Nat) : Ofr → Prop
  | .pack c p => c.length = m ∧ SmallR c ∧ 0 ≤ p ∧ p < 1000000000000
  | .many c ts => c.length = m ∧ SmallR c ∧ FitT ts
  | .add c p k => c.length = m ∧ SmallR c ∧ 0 ≤ p ∧ p < 1000000000000 ∧ 0 ≤ k ∧ k < 100
theorem OffX.fit {m : Nat} {xs : List Str} (hm : m = xs.length) : ∀ {o : Ofr}, OffX m o → ReadO xs o
  | .pack c p, ⟨h1, h2, h3, h4⟩ => ⟨⟨⟨h1.trans hm, h2.1⟩, h3, h4⟩, ⟨h1.trans hm, h2.1⟩, h2.2.1, h2.2.2⟩
  | .many c ts, ⟨h1, h2, h3⟩ => ⟨⟨⟨h1.trans hm, h2.1⟩, h3⟩, ⟨h1.trans hm, h2.1⟩, h2.2.1, h2.2.2⟩
  | .add c p k, ⟨h1, h2, h3, h4, h5, h6⟩ => ⟨⟨⟨h1.trans hm, h2.1⟩, h3, h4, h5, h6⟩, ⟨h1.trans hm, h2.1⟩, h2.2.1, h2.2.2⟩
def badT (j : Nat) : List (Int × Int) := ([[(2, 5)], [(1, 5), (1, 4)], [(1, 5), (13, 4)], [(0, 5)], [(1, 2), (9, 2), (3, 2)]] : List (List (Int × Int))).getD j []
theorem badT_fit {j : Nat} (h : j < 5) : FitT (badT j) := by
  match j, h with
  | 0, _ => exact ⟨by decide, by decide, by decide⟩
  | 1, _ => exact ⟨by decide, by decide, by decide⟩
  | 2, _ => exact ⟨by decide, by decide, by decide⟩
  | 3, _ => exact ⟨by decide, by decide, by decide⟩
  | 4, _ => exact ⟨by decide, by decide, by decide⟩
theorem menuK {j : Nat} (h : j < 4) : ∃ x : Int, ([V.int 3, V.int 3, V.int 9, V.int 99] : List V)[j]? = some (.int x) ∧ 0 < x ∧ x ≤ 99 :=
  match j, h with
  | 0, _ => ⟨3, rfl, by decide, by decide⟩
  | 1, _ => ⟨3, rfl, by decide, by decide⟩
  | 2, _ => ⟨9, rfl, by decide, by decide⟩
  | 3, _ => ⟨99, rfl, by decide, by decide⟩
theorem mkT1 {H : Hp} {t l : Addr} {a b : Int} (nt : H t = none) (nl : upd H t (.tup [.int a, .int b]) l = none) : Same H (upd (upd H t (.tup [.int a, .int b])) l (.lst [.ref t])) ∧ TiersAt (upd (upd H t (.tup [.int a, .int b])) l (.lst [.ref t])) l [(a, b)] ∧ H l = none := by
  have s1 := same_upd (o := .tup [.int a, .int b]) nt
  have s2 := same_upd (o := .lst [.ref t]) nl
  refine ⟨s1.trans s2, ⟨[t], upd_same, rfl, fun i u tt h1 h2 => ?_⟩, s1.free nl⟩
  cases i with
  | zero => cases Option.some.inj h1; cases Option.some.inj h2; exact s2 _ _ upd_same
  | succ i => simp at h1
theorem mkT2 {H : Hp} {t t' l : Addr} {a b a' b' : Int} (nt : H t = none) (nt' : upd H t (.tup [.int a, .int b]) t' = none) (nl : upd (upd H t (.tup [.int a, .int b])) t' (.tup [.int a', .int b']) l = none) :
    Same H (upd (upd (upd H t (.tup [.int a, .int b])) t' (.tup [.int a', .int b'])) l (.lst [.ref t, .ref t'])) ∧ TiersAt (upd (upd (upd H t (.tup [.int a, .int b])) t' (.tup [.int a', .int b'])) l (.lst [.ref t, .ref t'])) l [(a, b), (a', b')] ∧ H l = none := by
  have s1 := same_upd (o := .tup [.int a, .int b]) nt
  have s2 := same_upd (o := .tup [.int a', .int b']) nt'
  have s3 := same_upd (o := .lst [.ref t, .ref t']) nl
  refine ⟨(s1.trans s2).trans s3, ⟨[t, t'], upd_same, rfl, fun i u tt h1 h2 => ?_⟩, (s1.trans s2).free nl⟩
  match i, h1, h2 with
  | 0, h1, h2 => cases Option.some.inj h1; cases Option.some.inj h2; exact s3 _ _ (s2 _ _ upd_same)
  | 1, h1, h2 => cases Option.some.inj h1; cases Option.some.inj h2; exact s3 _ _ upd_same
theorem mkT3 {H : Hp} {t t' t2 l : Addr} {a b a' b' a2 b2 : Int} (nt : H t = none) (nt' : upd H t (.tup [.int a, .int b]) t' = none) (nt2 : upd (upd H t (.tup [.int a, .int b])) t' (.tup [.int a', .int b']) t2 = none) (nl : upd (upd (upd H t (.tup [.int a, .int b])) t' (.tup [.int a', .int b'])) t2 (.tup [.int a2, .int b2]) l = none) :
    Same H (upd (upd (upd (upd H t (.tup [.int a, .int b])) t' (.tup [.int a', .int b'])) t2 (.tup [.int a2, .int b2])) l (.lst [.ref t, .ref t', .ref t2])) ∧ TiersAt (upd (upd (upd (upd H t (.tup [.int a, .int b])) t' (.tup [.int a', .int b'])) t2 (.tup [.int a2, .int b2])) l (.lst [.ref t, .ref t', .ref t2])) l [(a, b), (a', b'), (a2, b2)] ∧ H l = none := by
  have s1 := same_upd (o := .tup [.int a, .int b]) nt
  have s2 := same_upd (o := .tup [.int a', .int b']) nt'
  have s3 := same_upd (o := .tup [.int a2, .int b2]) nt2
  have s4 := same_upd (o := .lst [.ref t, .ref t', .ref t2]) nl
  refine ⟨((s1.trans s2).trans s3).trans s4, ⟨[t, t', t2], upd_same, rfl, fun i u tt h1 h2 => ?_⟩, ((s1.trans s2).trans s3).free nl⟩
  match i, h1, h2 with
  | 0, h1, h2 => cases Option.some.inj h1; cases Option.some.inj h2; exact s4 _ _ (s3 _ _ (s2 _ _ upd_same))
  | 1, h1, h2 => cases Option.some.inj h1; cases Option.some.inj h2; exact s4 _ _ (s3 _ _ upd_same)
  | 2, h1, h2 => cases Option.some.inj h1; cases Option.some.inj h2; exact s4 _ _ upd_same
def sp_offered : Sp := fun vs H Q _ => ∃ (d : Addr) (ns : List Int) (m : Nat), vs = [.ref d, .int m] ∧ H d = some (LI ns) ∧ 1 ≤ m ∧ m ≤ 4 ∧
  ∀ H' v o ns', SameBut d H H' → H v = none → v ≠ d → OfrAt H' v o → (∀ e ds, H e = some (.lst ds) → OfrAt (cutH e H') v o) → OffX m o → H' d = some (LI ns') → Q (.ref v) H'
section
variable {P : Program} {w : World} {K : PySem.W.Frag} {mg : Str → Option Value} {base : Heap} {T : List Addr}
theorem ok_offered {f f1 f2 f3 f4 f5 f6 : Addr} {fd fd1 fd2 fd3 fd4 fd5 fd6 : FuncData} {k : Nat} (M : Names mg) (D : Def K mg "_law_offered" s_law_offered ["_law_draws_here", "_law_many"] f fd) (D_law_content : Def K mg "_law_content" s_law_content ["_law_draws_here", "_law_many"] f1 fd1) (D_law_price : Def K mg "_law_price" s_law_price ["_law_draws_here"] f2 fd2) (D_law_tiers : Def K mg "_law_tiers" s_law_tiers ["_law_draws_here"] f3 fd3)
    (D_law_want : Def K mg "_law_want" s_law_want ["_law_draws_here", "_law_many"] f4 fd4) (D_law_pop : Def K mg "_law_pop" s_law_pop ["_law_draws_here"] f5 fd5) (D_law_cases : Def K mg "_law_cases" s_law_cases ["_law_want_here"] f6 fd6) :
    FnOk P w K mg base CX0 (k + 4) f fd ["_law_draws_here", "_law_many"] sp_offered := by
  have G_law_content : FnOk P w K mg base CX0 (k + 3) f1 fd1 ["_law_draws_here", "_law_many"] sp_content := ok_content M D_law_content D_law_want D_law_pop D_law_cases
  have G_law_price : FnOk P w K mg base CX0 (k + 3) f2 fd2 ["_law_draws_here"] sp_price := ok_price D_law_price D_law_pop
  have G_law_tiers : FnOk P w K mg base CX0 (k + 3) f3 fd3 ["_law_draws_here"] sp_tiers := ok_tiers M D_law_tiers D_law_price D_law_pop
  have G_law_pop : FnOk P w K mg base CX0 (k + 3) f5 fd5 ["_law_draws_here"] sp_pop := ok_pop D_law_pop
  refine D.F.ok sc_law_offered (fun vs H Q E h => ?_) (fun cdv A outer s H vs Q E hr h => ?_)
  · obtain ⟨d, ns, m, rfl, _⟩ := h
    rfl
  · obtain ⟨d, ns, m, rfl, hd, hm1, hm4, q⟩ := h
    refine ⟨_, (pss_cons (ps_set (i := 2) sc_law_offered.nd rfl (Or.inl rfl) (pe_call G_law_pop hr (by rfl) D_law_pop.g D_law_pop.F.kp D_law_pop.b .nil pass0 (pa_cons (pv 0) pa_nil)))
  (pss_cons (ps_set (i := 3) sc_law_offered.nd rfl (Or.inl rfl) (pe_call G_law_content hr (by rfl) D_law_content.g D_law_content.F.kp D_law_content.b .nil pass0 (pa_cons (pv 0) (pa_cons (pv 1) pa_nil))))
  (pss_cons (ps_if (pt_cmpR op_lt (pe_op op_mod (pv 2) pe_int) pe_int (nomark _))
   (pss_one (ps_ret (pe_tup (pa_cons pe_str (pa_cons (pv 3) (pa_cons (pe_call G_law_price hr (by rfl) D_law_price.g D_law_price.F.kp D_law_price.b .nil pass0 (pa_cons (pv 0) pa_nil)) pa_nil))))))
   pss_nil)
  (pss_cons (ps_if (pt_cmpR op_lt (pe_op op_mod (pv 2) pe_int) pe_int (nomark _))
   (pss_one (ps_ret (pe_tup (pa_cons pe_str (pa_cons (pv 3) (pa_cons (pe_call G_law_tiers hr (by rfl) D_law_tiers.g D_law_tiers.F.kp D_law_tiers.b .nil pass0 (pa_cons (pv 0) pa_nil)) pa_nil))))))
   pss_nil)
  (pss_cons (ps_if (pt_cmpR op_eq (pe_op op_mod (pv 2) pe_int) pe_int (nomark _))
   (pss_cons (ps_set (i := 4) sc_law_offered.nd rfl (Or.inl rfl) (pe_lst (pa_cons (pe_lst (pa_cons (pe_tup (pa_cons pe_int (pa_cons pe_int pa_nil))) pa_nil)) (pa_cons (pe_lst (pa_cons (pe_tup (pa_cons pe_int (pa_cons pe_int pa_nil))) (pa_cons (pe_tup (pa_cons pe_int (pa_cons pe_int pa_nil))) pa_nil))) (pa_cons (pe_lst (pa_cons (pe_tup (pa_cons pe_int (pa_cons pe_int pa_nil))) (pa_cons (pe_tup (pa_cons pe_int (pa_cons pe_int pa_nil))) pa_nil))) (pa_cons (pe_lst (pa_cons (pe_tup (pa_cons pe_int (pa_cons pe_int pa_nil))) pa_nil)) (pa_cons (pe_lst (pa_cons (pe_tup (pa_cons pe_int (pa_cons pe_int pa_nil))) (pa_cons (pe_tup (pa_cons pe_int (pa_cons pe_int pa_nil))) (pa_cons (pe_tup (pa_cons pe_int (pa_cons pe_int pa_nil))) pa_nil)))) pa_nil)))))))
  (pss_one (ps_ret (pe_tup (pa_cons pe_str (pa_cons (pv 3) (pa_cons (pe_ix ix_list (pv 4) (pe_op op_mod (pe_op op_fdiv (pv 2) pe_int) pe_int) (fun _ _ => rfl)) pa_nil)))))))
   pss_nil)
  (pss_one (ps_ret (pe_tup (pa_cons pe_str (pa_cons (pv 3) (pa_cons (pe_call G_law_price hr (by rfl) D_law_price.g D_law_price.F.kp D_law_price.b .nil pass0 (pa_cons (pv 0) pa_nil)) (pa_cons (pe_op op_mod (pe_op op_fdiv (pv 2) pe_int) (pe_ix ix_list (pe_lst (pa_cons pe_int (pa_cons pe_int (pa_cons pe_int (pa_cons pe_int pa_nil))))) (pe_op op_mod (pe_op op_fdiv (pv 2) pe_int) pe_int) (fun _ _ => rfl))) pa_nil)))))))))))), ?_⟩
    refine ⟨_, rfl, d, ns, rfl, hd, fun H1 s1 hd1 => ?_⟩
    generalize ns.headD 0 = n0
    refine ⟨_, rfl, _, rfl, d, _, m, rfl, hd1, hm1, hm4, fun H2 c ws ns2 s2 nc ncd hc hd2 hl sm => ?_⟩
    have s12 := s1.trans s2
    have ncH : H c = none := s1.free nc (by rw [hd1]; exact fun z => nomatch z)
    have fin : ∀ (H3 : Hp) (v : Addr) (o : Ofr) (tup : List V) (ns3 : List Int), SameBut d H2 H3 → H3 d = some (LI ns3) → H3 v = none → OfrAt (upd H3 v (.tup tup)) v o → (∀ e ds, upd H3 v (.tup tup) e = some (.lst ds) → H e ≠ none → OfrAt (cutH e (upd H3 v (.tup tup))) v o) → OffX m o → Q (.ref v) (upd H3 v (.tup tup)) := fun H3 v o tup ns3 s3 hd3 nv ho hx fo => by
      have nvd : v ≠ d := (ne_of_none hd3 nv).symm
      have sN := same_upd (o := .tup tup) nv
      have s13 := s12.trans s3
      refine q _ v o ns3 (s13.trans (.of sN)) (s13.free nv (by rw [hd3]; exact fun z => nomatch z)) nvd ho (fun e ds he => ?_) fo (sN _ _ hd3)
      by_cases z : e = d
      · rw [z]
        exact hx d _ (sN _ _ hd3) (by rw [hd]; exact fun z => nomatch z)
      · exact hx e ds (sN _ _ (s13 _ _ z he)) (by rw [he]; exact fun z => nomatch z)
    refine ⟨_, rfl, _, _, rfl, rfl, (by show (0 : Int) < _; decide), _, _, rfl, rfl, _, rfl, ite2 (fun _ => ?_) (fun _ => ?_)⟩
    · refine ⟨_, rfl, _, rfl, d, _, rfl, hd2, fun H3 ns3 p s3 hd3 p0 p1 => ⟨by show 3 ≤ sizeLine; decide, fun v nv => ?_⟩⟩
      have hc3 := s3 _ _ ncd hc
      have sN := same_upd (o := .tup [.str "pack", .ref c, .int p]) nv
      exact fin H3 v (.pack ws p) _ ns3 s3 hd3 nv ⟨c, upd_same, sN _ _ hc3⟩ (fun e ds he hne => ⟨c, cut_put (fun z => by rw [← z, upd_same] at he; cases he) upd_same, cut_put (fun z => hne (by rw [← z]; exact ncH)) (sN _ _ hc3)⟩) ⟨hl, sm, p0, p1⟩
    · refine ⟨_, rfl, _, _, rfl, rfl, (by show (0 : Int) < _; decide), _, _, rfl, rfl, _, rfl, ite2 (fun _ => ?_) (fun _ => ?_)⟩
      · refine ⟨_, rfl, _, rfl, d, _, rfl, hd2, fun H3 tt ts ns3 s3 nt hts gts prt hd3 => ⟨by show 3 ≤ sizeLine; decide, fun v nv => ?_⟩⟩
        have hc3 := s3 _ _ ncd hc
        have sN := same_upd (o := .tup [.str "many", .ref c, .ref tt]) nv
        have hts' : TiersAt (upd H3 v (.tup [.str "many", .ref c, .ref tt])) tt ts := (hts.same cut_le).same sN
        have ntH : H tt = none := s12.free nt (by rw [hd2]; exact fun z => nomatch z)
        exact fin H3 v (.many ws ts) _ ns3 s3 hd3 nv ⟨c, tt, upd_same, sN _ _ hc3, hts'⟩ (fun e ds he hne => ⟨c, tt, cut_put (fun z => by rw [← z, upd_same] at he; cases he) upd_same, cut_put (fun z => hne (by rw [← z]; exact ncH)) (sN _ _ hc3), hts'.cut (fun z => hne (by rw [← z]; exact ntH)) he⟩) ⟨hl, sm, FitT.of gts prt⟩
      · refine ⟨_, rfl, _, _, rfl, rfl, (by show (0 : Int) < _; decide), rfl, _, rfl, ite2 (fun _ => ?_) (fun _ => ?_)⟩
        · refine ⟨by show 2 ≤ sizeLine; decide, fun t1 a1 => ⟨by show 1 ≤ sizeLine; decide, fun l1 b1 => ?_⟩⟩
          obtain ⟨sA, hA, nA⟩ := mkT1 a1 b1
          generalize upd (upd H2 t1 (.tup [.int 2, .int 5])) l1 (.lst [.ref t1]) = HA at sA hA ⊢
          refine ⟨by show 2 ≤ sizeLine; decide, fun t2 a2 => ⟨by show 2 ≤ sizeLine; decide, fun t3 a3 => ⟨by show 2 ≤ sizeLine; decide, fun l2 b2 => ?_⟩⟩⟩
          obtain ⟨sB, hB, nB⟩ := mkT2 a2 a3 b2
          generalize upd (upd (upd HA t2 (.tup [.int 1, .int 5])) t3 (.tup [.int 1, .int 4])) l2 (.lst [.ref t2, .ref t3]) = HB at sB hB ⊢
          refine ⟨by show 2 ≤ sizeLine; decide, fun t4 a4 => ⟨by show 2 ≤ sizeLine; decide, fun t5 a5 => ⟨by show 2 ≤ sizeLine; decide, fun l3 b3 => ?_⟩⟩⟩
          obtain ⟨sC, hC, nC⟩ := mkT2 a4 a5 b3
          generalize upd (upd (upd HB t4 (.tup [.int 1, .int 5])) t5 (.tup [.int 13, .int 4])) l3 (.lst [.ref t4, .ref t5]) = HC at sC hC ⊢
          refine ⟨by show 2 ≤ sizeLine; decide, fun t6 a6 => ⟨by show 1 ≤ sizeLine; decide, fun l4 b4 => ?_⟩⟩
          obtain ⟨sD, hD, nD⟩ := mkT1 a6 b4
          generalize upd (upd HC t6 (.tup [.int 0, .int 5])) l4 (.lst [.ref t6]) = HD at sD hD ⊢
          refine ⟨by show 2 ≤ sizeLine; decide, fun t7 a7 => ⟨by show 2 ≤ sizeLine; decide, fun t8 a8 => ⟨by show 2 ≤ sizeLine; decide, fun t9 a9 => ⟨by show 3 ≤ sizeLine; decide, fun l5 b5 => ?_⟩⟩⟩⟩
          obtain ⟨sE, hE, nE⟩ := mkT3 a7 a8 a9 b5
          generalize upd (upd (upd (upd HD t7 (.tup [.int 1, .int 2])) t8 (.tup [.int 9, .int 2])) t9 (.tup [.int 3, .int 2])) l5 (.lst [.ref t7, .ref t8, .ref t9]) = HE at sE hE ⊢
          refine ⟨by show 5 ≤ sizeLine; decide, fun W nW => ?_⟩
          have sW := same_upd (o := .lst [.ref l1, .ref l2, .ref l3, .ref l4, .ref l5]) nW
          have hW : upd HE W (.lst [.ref l1, .ref l2, .ref l3, .ref l4, .ref l5]) W = some (.lst [.ref l1, .ref l2, .ref l3, .ref l4, .ref l5]) := upd_same
          have n1 : H2 l1 = none := nA
          have n2 : H2 l2 = none := sA.free nB
          have n3 : H2 l3 = none := (sA.trans sB).free nC
          have n4 : H2 l4 = none := ((sA.trans sB).trans sC).free nD
          have n5 : H2 l5 = none := (((sA.trans sB).trans sC).trans sD).free nE
          have g1 := ((((hA.same sB).same sC).same sD).same sE).same sW
          have g2 := (((hB.same sC).same sD).same sE).same sW
          have g3 := ((hC.same sD).same sE).same sW
          have g4 := (hD.same sE).same sW
          have g5 := hE.same sW
          have sAll : Same H2 _ := ((((sA.trans sB).trans sC).trans sD).trans sE).trans sW
          change ∃ x, _
          generalize upd HE W (.lst [.ref l1, .ref l2, .ref l3, .ref l4, .ref l5]) = H3 at hW g1 g2 g3 g4 g5 sAll ⊢
          clear hA hB hC hD hE sA sB sC sD sE sW a1 a2 a3 a4 a5 a6 a7 a8 a9 b1 b2 b3 b4 b5 nA nB nC nD nE nW
          obtain ⟨j, hj, ej⟩ := mod_at (i := n0 / 8) (n := 5) (by decide)
          obtain ⟨l, hl0, gl, nl⟩ : ∃ l, ([V.ref l1, .ref l2, .ref l3, .ref l4, .ref l5])[j]? = some (.ref l) ∧ TiersAt H3 l (badT j) ∧ H2 l = none := by
            match j, hj with
            | 0, _ => exact ⟨l1, rfl, g1, n1⟩
            | 1, _ => exact ⟨l2, rfl, g2, n2⟩
            | 2, _ => exact ⟨l3, rfl, g3, n3⟩
            | 3, _ => exact ⟨l4, rfl, g4, n4⟩
            | 4, _ => exact ⟨l5, rfl, g5, n5⟩
          refine ⟨_, rfl, _, rfl, _, rfl, _, _, rfl, rfl, ⟨by decide, by decide⟩, _, _, rfl, rfl, (by show (0 : Int) < _; decide), W, _, _, _, rfl, rfl, SqL.of hW, at_of ej hl0, by show 3 ≤ sizeLine; decide, fun v nv => ?_⟩
          have sN := same_upd (o := .tup [.str "many", .ref c, .ref l]) nv
          have hc3 := sAll _ _ hc
          have nlH : H l = none := s12.free nl (by rw [hd2]; exact fun z => nomatch z)
          have gl' := gl.same sN
          exact fin H3 v (.many ws (badT j)) _ _ (.of sAll) (sAll _ _ hd2) nv ⟨c, l, upd_same, sN _ _ hc3, gl'⟩ (fun e ds he hne => ⟨c, l, cut_put (fun z => by rw [← z, upd_same] at he; cases he) upd_same, cut_put (fun z => hne (by rw [← z]; exact ncH)) (sN _ _ hc3), gl'.cut (fun z => hne (by rw [← z]; exact nlH)) he⟩) ⟨hl, sm, badT_fit hj⟩
        · refine ⟨_, rfl, _, rfl, d, _, rfl, hd2, fun H3 ns3 p s3 hd3 p0 p1 => ?_⟩
          refine ⟨_, rfl, _, _, rfl, rfl, ⟨by decide, by decide⟩, by show 4 ≤ sizeLine; decide, fun e0 ne0 => ?_⟩
          obtain ⟨j, hj, ej⟩ := mod_at (i := n0 / 800) (n := 4) (by decide)
          obtain ⟨x, hx, x0, x1⟩ := menuK hj
          refine ⟨_, rfl, _, _, rfl, rfl, ⟨by decide, by decide⟩, _, _, rfl, rfl, (by show (0 : Int) < _; decide), e0, _, _, _, rfl, rfl, SqL.of upd_same, at_of ej hx, _, _, rfl, rfl, x0, by show 4 ≤ sizeLine; decide, fun v nv => ?_⟩
          have sE := same_upd (o := .lst [.int 3, .int 3, .int 9, .int 99]) ne0
          have hc3 := sE _ _ (s3 _ _ ncd hc)
          have hd3' := sE _ _ hd3
          generalize upd H3 e0 (.lst [.int 3, .int 3, .int 9, .int 99]) = H4 at sE hc3 hd3' nv ⊢
          have sN := same_upd (o := .tup [.str "add", .ref c, .int p, .int (n0 / 8 % x)]) nv
          have := Int.emod_nonneg (n0 / 8) (show x ≠ 0 by omega)
          have := Int.emod_lt_of_pos (n0 / 8) x0
          exact fin H4 v (.add ws p (n0 / 8 % x)) _ ns3 (s3.trans (.of sE)) hd3' nv ⟨c, upd_same, sN _ _ hc3⟩ (fun e ds he hne => ⟨c, cut_put (fun z => by rw [← z, upd_same] at he; cases he) upd_same, cut_put (fun z => hne (by rw [← z]; exact ncH)) (sN _ _ hc3)⟩) ⟨hl, sm, p0, p1, by omega, by omega⟩
end
/-! ### _law_turn -/
abbrev s_law_turn : Stmt := topS 98
abbrev N_law_turn : List Str := ["_law_draws_here", "_law_own", "_law_number", "_law_way", "_law_place", "_law_names_here", "_law_shop", "_law_offer", "_law_line"]
theorem sc_law_turn : FnScope N_law_turn ["_law_draws_here", "_law_own"] (defScope s_law_turn) := ⟨rfl, rfl, rfl, by decide +kernel, rfl, by decide +kernel, by decide +kernel⟩

/-- what a turn tells: the line, what is due, the names and the offers from then on -/
inductive Turn (xs : List Str) (os : List Ofr) : Str → List V → List Str → List Ofr → Prop
  | things (xs' : List Str) : GoodN xs' → xs' ≠ [] → Turn xs os (("things " : Str) ++ namesS xs') [.str "ok"] xs' []
  | non (line : Str) : xs = [] → line ∈ (["shop", "drop 0", "spare", "offer 1 x for 5", "cost nothing"] : List Str) → Turn xs os line [.str "things", .str ""] xs os
  | offer (o : Ofr) : xs ≠ [] → OffX xs.length o → gOf os o = true → Turn xs os (("offer " : Str) ++ offerS xs o) [.str "ok"] xs (os ++ [o])
  | bad (o : Ofr) : xs ≠ [] → OffX xs.length o → gOf os o = false → Turn xs os (("offer " : Str) ++ offerS xs o) [.str "offer", .int (os.length : Nat)] xs os
  | drop (n : Nat) : xs ≠ [] → n < 100 → (n : Int) = (os.length : Int) - 1 → Turn xs os (("drop " : Str) ++ numS n) [.str "ok"] xs os.dropLast
  | keep (n : Nat) : xs ≠ [] → n < 100 → ¬ (n : Int) = (os.length : Int) - 1 → Turn xs os (("drop " : Str) ++ numS n) [.str "place", .str ""] xs os
def But2 (d O : Addr) (H H' : Hp) : Prop := ∀ b o, b ≠ d → b ≠ O → H b = some o → H' b = some o
theorem But2.trans {d O : Addr} {H H1 H2 : Hp} (a : But2 d O H H1) (b : But2 d O H1 H2) : But2 d O H H2 := fun c o n1 n2 e => b c o n1 n2 (a c o n1 n2 e)
theorem But2.d {d O : Addr} {H H' : Hp} (s : SameBut d H H') : But2 d O H H' := fun c o n1 _ e => s c o n1 e
theorem But2.o {d O : Addr} {H H' : Hp} (s : SameBut O H H') : But2 d O H H' := fun c o _ n2 e => s c o n2 e
theorem But2.s {d O : Addr} {H H' : Hp} (s : Same H H') : But2 d O H H' := fun c o _ _ e => s c o e
theorem But2.free {d O b : Addr} {H H' : Hp} (s : But2 d O H H') (hd : H' d ≠ none) (hO : H' O ≠ none) (n : H' b = none) : H b = none := by
  cases e : H b with
  | none => rfl
  | some o =>
    have n1 : b ≠ d := fun z => hd (by rw [← z]; exact n)
    have n2 : b ≠ O := fun z => hO (by rw [← z]; exact n)
    rw [s b o n1 n2 e] at n
    cases n
/-! apart from two -/
section
variable {e d : Addr} {H : Hp}
theorem lst_both {b : Addr} {o o' : HO} (h : cutH e H b = some o) (h' : cutH d H b = some o') : cutH e (cutH d H) b = some o ∧ o' = o := by
  obtain ⟨n1, h1⟩ := cut_some h
  obtain ⟨n2, h2⟩ := cut_some h'
  refine ⟨cut_put n1 (cut_put n2 h1), ?_⟩
  exact Option.some.inj (h2.symm.trans h1)
theorem TiersAt.cut2 {t : Addr} {ts : List (Int × Int)} (h : TiersAt (cutH e H) t ts) (h' : TiersAt (cutH d H) t ts) : TiersAt (cutH e (cutH d H)) t ts := by
  obtain ⟨us, g1, g2, g3⟩ := h
  obtain ⟨us', g1', g2', g3'⟩ := h'
  obtain ⟨k1, k2⟩ := lst_both g1 g1'
  injection k2 with k2
  have eu : us' = us := (List.map_inj_right fun a b e => V.ref.inj e).mp k2
  subst eu
  exact ⟨us', k1, g2, fun i u tt a b => (lst_both (g3 i u tt a b) (g3' i u tt a b)).1⟩
theorem OfrAt.cut2 {v : Addr} : ∀ {o : Ofr}, OfrAt (cutH e H) v o → OfrAt (cutH d H) v o → OfrAt (cutH e (cutH d H)) v o
  | .pack c p, ⟨b, h1, h2⟩, ⟨b', h1', h2'⟩ => by
    obtain ⟨k1, k2⟩ := lst_both h1 h1'
    injection k2 with k2
    injection k2 with _ k2
    injection k2 with k2 _
    injection k2 with k2
    subst k2
    exact ⟨_, k1, (lst_both h2 h2').1⟩
  | .many c ts, ⟨b, t, h1, h2, h3⟩, ⟨b', t', h1', h2', h3'⟩ => by
    obtain ⟨k1, k2⟩ := lst_both h1 h1'
    injection k2 with k2
    injection k2 with _ k2
    injection k2 with k2 k3
    injection k2 with k2
    injection k3 with k3 _
    injection k3 with k3
    subst k2
    subst k3
    exact ⟨_, _, k1, (lst_both h2 h2').1, h3.cut2 h3'⟩
  | .add c p k, ⟨b, h1, h2⟩, ⟨b', h1', h2'⟩ => by
    obtain ⟨k1, k2⟩ := lst_both h1 h1'
    injection k2 with k2
    injection k2 with _ k2
    injection k2 with k2 _
    injection k2 with k2
    subst k2
    exact ⟨_, k1, (lst_both h2 h2').1⟩
theorem ShopAt.cut2 {S : Addr} {os : List Ofr} (h : ShopAt (cutH e H) S os) (h' : ShopAt (cutH d H) S os) : ShopAt (cutH e (cutH d H)) S os := by
  obtain ⟨vs, g1, g2, g3⟩ := h
  obtain ⟨vs', g1', g2', g3'⟩ := h'
  obtain ⟨k1, k2⟩ := lst_both g1 g1'
  injection k2 with k2
  have eu : vs' = vs := (List.map_inj_right fun a b e => V.ref.inj e).mp k2
  subst eu
  exact ⟨vs', k1, g2, fun i v o a b => (g3 i v o a b).cut2 (g3' i v o a b)⟩
end
/-- names and offers that stand apart from e -/
def OwnE (H : Hp) (e A S : Addr) (xs : List Str) (os : List Ofr) : Prop := cutH e H A = some (LS xs) ∧ ShopAt (cutH e H) S os
theorem OwnE.but2 {H H' : Hp} {d O e A S : Addr} {xs : List Str} {os : List Ofr} (s : But2 d O H H') (hd : OwnE H d A S xs os) (hO : OwnE H O A S xs os) (he : OwnE H e A S xs os) : OwnE H' e A S xs os := by
  refine ⟨cut_put (cut_some he.1).1 (s _ _ (cut_some hd.1).1 (cut_some hO.1).1 (cut_some he.1).2), ?_⟩
  have h2 := he.2.cut2 hd.2
  have h3 : ShopAt (cutH O H) S os := hO.2
  -- apart from e and from d, and from O
  have h4 := ShopAt.cut2 (e := e) (d := O) he.2 h3
  have h5 : ShopAt (cutH O (cutH e H)) S os := h4.ke fun b o h _ => by
    obtain ⟨n1, h⟩ := cut_some h
    obtain ⟨n2, h⟩ := cut_some h
    exact cut_put n2 (cut_put n1 h)
  have h6 : ShopAt (cutH d (cutH e H)) S os := h2.ke fun b o h _ => by
    obtain ⟨n1, h⟩ := cut_some h
    obtain ⟨n2, h⟩ := cut_some h
    exact cut_put n2 (cut_put n1 h)
  refine (ShopAt.cut2 h6 h5).ke fun b o h _ => ?_
  obtain ⟨n1, h⟩ := cut_some h
  obtain ⟨n2, h⟩ := cut_some h
  obtain ⟨n3, h⟩ := cut_some h
  exact cut_put n3 (s b o n1 n2 h)
theorem menuD {L : Int} (h0 : 0 ≤ L) (h8 : L ≤ 8) {j : Nat} (h : j < 4) : ∃ n : Nat, ([V.int (if L - 1 > 0 then L - 1 else 0), .int L, .int 99, .int 0] : List V)[j]? = some (.int (n : Int)) ∧ n < 100 :=
  match j, h with
  | 0, _ => by
    by_cases z : L - 1 > 0
    · refine ⟨(L - 1).toNat, ?_, by omega⟩
      rw [if_pos z, show (((L - 1).toNat : Nat) : Int) = L - 1 by omega]
      rfl
    · refine ⟨0, ?_, by decide⟩
      rw [if_neg z]
      rfl
  | 1, _ => ⟨L.toNat, by rw [show ((L.toNat : Nat) : Int) = L by omega]; rfl, by omega⟩
  | 2, _ => ⟨99, rfl, by decide⟩
  | 3, _ => ⟨0, rfl, by decide⟩
def sp_turn : Sp := fun vs H Q _ => ∃ (d O A S : Addr) (ns : List Int) (xs : List Str) (os : List Ofr), vs = [.ref d, .ref O] ∧ H d = some (LI ns) ∧ H O = some (.lst [.ref A, .ref S]) ∧ OwnE H d A S xs os ∧ OwnE H O A S xs os ∧ os.length ≤ 8 ∧ GoodN xs ∧
  ∀ H' q ue A' S' line due xs' os' ns', But2 d O H H' → H q = none → H ue = none → H' q = some (.lst [.str line, .ref ue]) → H' ue = some (.lst due) → Turn xs os line due xs' os' → H' d = some (LI ns') → H' O = some (.lst [.ref A', .ref S']) →
    (∀ e ds, H e = some (.lst ds) → OwnE H e A S xs os → OwnE H' e A' S' xs' os') → Q (.ref q) H'
section
variable {P : Program} {w : World} {K : PySem.W.Frag} {mg : Str → Option Value} {base : Heap} {T : List Addr}
theorem ok_turn {f f1 f2 f3 f4 f5 : Addr} {fd fd1 fd2 fd3 fd4 fd5 : FuncData} {k : Nat} (M : Names mg) (D : Def K mg "_law_turn" s_law_turn ["_law_draws_here", "_law_own"] f fd) (D_law_pop : Def K mg "_law_pop" s_law_pop ["_law_draws_here"] f1 fd1) (G_law_pop : FnOk P w K mg base CX0 k f1 fd1 ["_law_draws_here"] sp_pop) (D_law_names : Def K mg "_law_names" s_law_names ["_law_draws_here", "_law_many"] f2 fd2) (G_law_names : FnOk P w K mg base CX0 k f2 fd2 ["_law_draws_here", "_law_many"] sp_law_names)
    (D_law_offered : Def K mg "_law_offered" s_law_offered ["_law_draws_here", "_law_many"] f3 fd3) (G_law_offered : FnOk P w K mg base CX0 k f3 fd3 ["_law_draws_here", "_law_many"] sp_offered) (D_law_offer_text : Def K mg "_law_offer_text" s_law_offer_text ["_law_names_here", "_law_offer"] f4 fd4) (G_law_offer_text : FnOk P w K mg base CX0 k f4 fd4 ["_law_names_here", "_law_offer"] sp_show_offer) (D_law_good_offer : Def K mg "_law_good_offer" s_law_good_offer ["_law_shop", "_law_offer"] f5 fd5) (G_law_good_offer : FnOk P w K mg base CX0 k f5 fd5 ["_law_shop", "_law_offer"] sp_goffer) :
    FnOk P w K mg base CX0 (k + 1) f fd ["_law_draws_here", "_law_own"] sp_turn := by
  refine D.F.ok sc_law_turn (fun vs H Q E h => ?_) (fun cdv A outer s H vs Q E hr h => ?_)
  · obtain ⟨d, O, A, S, ns, xs, os, rfl, _⟩ := h
    rfl
  · obtain ⟨d, O, A0, S, ns, xs, os, rfl, hd, hO, Id, IO, h8, g, q⟩ := h
    have ndO : d ≠ O := fun z => by
      rw [z, hO] at hd
      injection hd with hd
      injection hd with hd
      cases ns with
      | nil => cases hd
      | cons n r => injection hd with e _; cases e
    refine ⟨_, (pss_cons (ps_set (i := 2) sc_law_turn.nd rfl (Or.inl rfl) (pe_call G_law_pop hr (by rfl) D_law_pop.g D_law_pop.F.kp D_law_pop.b .nil pass0 (pa_cons (pv 0) pa_nil)))
  (pss_cons (ps_asg (pv 1) (pg_lst rfl (pgs_cons (pg_name (i := 5) sc_law_turn.nd rfl (Or.inl rfl)) (pgs_cons (pg_name (i := 6) sc_law_turn.nd rfl (Or.inl rfl)) pgs_nil))))
  (pss_cons (ps_set (i := 3) sc_law_turn.nd rfl (Or.inl rfl) (pe_op op_mod (pv 2) pe_int))
  (pss_cons (ps_if (PW.pt (pw_or (pt_cmpR op_eq (pv 3) pe_int (nomark _)) (pw_or1 (PW.pt (pw_and (pt_cmpR (op_eqD hr.units) (pv 5) (pe_lst pa_nil) (nomark _)) (pw_and1 (pt_cmpR op_gt (pe_op op_mod (pe_op op_fdiv (pv 2) pe_int) pe_int) pe_int (nomark _))))))))
   (pss_cons (ps_asg (pe_call G_law_names hr (by rfl) D_law_names.g D_law_names.F.kp D_law_names.b .nil pass0 (pa_cons (pv 0) (pa_cons (pe_op op_add pe_int (pe_op op_mod (pe_call G_law_pop hr (by rfl) D_law_pop.g D_law_pop.F.kp D_law_pop.b .nil pass0 (pa_cons (pv 0) pa_nil)) pe_int)) pa_nil))) (pg_sub (pv 1) pe_int set_list))
  (pss_cons (ps_asg (pe_lst pa_nil) (pg_sub (pv 1) pe_int set_list))
  (pss_one (ps_ret (pe_lst (pa_cons (pe_op op_add_str pe_str (pe_join pe_str (pe_ix ix_list (pv 1) pe_int (fun _ _ => rfl)))) (pa_cons (pe_lst (pa_cons pe_str pa_nil)) pa_nil)))))))
   pss_nil)
  (pss_cons (ps_if (pt_cmpR (op_eqD hr.units) (pv 5) (pe_lst pa_nil) (nomark _))
   (pss_one (ps_ret (pe_lst (pa_cons (pe_ix ix_list (pe_lst (pa_cons pe_str (pa_cons pe_str (pa_cons pe_str (pa_cons pe_str (pa_cons pe_str pa_nil)))))) (pe_op op_mod (pe_op op_fdiv (pv 2) pe_int) pe_int) (fun _ _ => rfl)) (pa_cons (pe_lst (pa_cons pe_str (pa_cons pe_str pa_nil))) pa_nil)))))
   pss_nil)
  (pss_cons (ps_if (pt_cmpR op_lt (pv 3) pe_int (nomark _))
   (pss_cons (ps_set (i := 7) sc_law_turn.nd rfl (Or.inl rfl) (pe_call G_law_offered hr (by rfl) D_law_offered.g D_law_offered.F.kp D_law_offered.b .nil pass0 (pa_cons (pv 0) (pa_cons (pe_callB call_len_seq (by rfl) M.len (by decide +kernel) (pa_cons (pv 5) pa_nil)) pa_nil))))
  (pss_cons (ps_set (i := 8) sc_law_turn.nd rfl (Or.inl rfl) (pe_op op_add_str pe_str (pe_call G_law_offer_text hr (by rfl) D_law_offer_text.g D_law_offer_text.F.kp D_law_offer_text.b .nil pass0 (pa_cons (pv 5) (pa_cons (pv 7) pa_nil)))))
  (pss_cons (ps_if (pt_not (pt_val (pe_call G_law_good_offer hr (by rfl) D_law_good_offer.g D_law_good_offer.F.kp D_law_good_offer.b .nil pass0 (pa_cons (pv 6) (pa_cons (pv 7) pa_nil)))))
   (pss_one (ps_ret (pe_lst (pa_cons (pv 8) (pa_cons (pe_lst (pa_cons pe_str (pa_cons (pe_callB call_len_seq (by rfl) M.len (by decide +kernel) (pa_cons (pv 6) pa_nil)) pa_nil))) pa_nil)))))
   pss_nil)
  (pss_cons (ps_asg (pe_op op_cat (pv 6) (pe_lst (pa_cons (pv 7) pa_nil))) (pg_sub (pv 1) pe_int set_list))
  (pss_one (ps_ret (pe_lst (pa_cons (pv 8) (pa_cons (pe_lst (pa_cons pe_str pa_nil)) pa_nil)))))))))
   pss_nil)
  (pss_cons (ps_set (i := 4) sc_law_turn.nd rfl (Or.inl rfl) (pe_ix ix_list (pe_lst (pa_cons (pe_callB (call_max2 rfl) (by rfl) M.max (by decide +kernel) (pa_cons pe_int (pa_cons (pe_op op_sub (pe_callB call_len_seq (by rfl) M.len (by decide +kernel) (pa_cons (pv 6) pa_nil)) pe_int) pa_nil))) (pa_cons (pe_callB call_len_seq (by rfl) M.len (by decide +kernel) (pa_cons (pv 6) pa_nil)) (pa_cons pe_int (pa_cons pe_int pa_nil))))) (pe_op op_mod (pe_op op_fdiv (pv 2) pe_int) pe_int) (fun _ _ => rfl)))
  (pss_cons (ps_if (pt_cmpR op_ne (pv 4) (pe_op op_sub (pe_callB call_len_seq (by rfl) M.len (by decide +kernel) (pa_cons (pv 6) pa_nil)) pe_int) (nomark _))
   (pss_one (ps_ret (pe_lst (pa_cons (pe_op op_add_str pe_str (pe_callTy call_str_int (by rfl) M.str (by decide +kernel) (pa_cons (pv 4) pa_nil))) (pa_cons (pe_lst (pa_cons pe_str (pa_cons pe_str pa_nil))) pa_nil)))))
   pss_nil)
  (pss_cons (ps_asg (pe_slice sl_list (pv 6) po_none (po_some (pe_un un_neg pe_int))) (pg_sub (pv 1) pe_int set_list))
  (pss_one (ps_ret (pe_lst (pa_cons (pe_op op_add_str pe_str (pe_callTy call_str_int (by rfl) M.str (by decide +kernel) (pa_cons (pv 4) pa_nil))) (pa_cons (pe_lst (pa_cons pe_str pa_nil)) pa_nil)))))))))))))), ?_⟩
    refine ⟨_, rfl, d, ns, rfl, hd, fun H1 s1 hd1 => ?_⟩
    generalize ns.headD 0 = n0
    generalize ns.tail = ns1 at hd1
    have hO1 := s1 _ _ ndO.symm hO
    refine ⟨_, rfl, O, _, rfl, SqL.of hO1, rfl, _, _, rfl, _, _, rfl, rfl, ?_⟩
    have b1 : But2 d O H H1 := .d s1
    have fr : ∀ {H' : Hp} {ns' : List Int} {x y : V} {b : Addr}, But2 d O H H' → H' d = some (LI ns') → H' O = some (.lst [x, y]) → H' b = none → H b = none := fun s h1 h2 n => s.free (by rw [h1]; exact fun z => nomatch z) (by rw [h2]; exact fun z => nomatch z) n
    -- what stands of names and offers
    have hA : ∀ {H' : Hp}, But2 d O H H' → H' A0 = some (LS xs) := fun s => s _ _ (cut_some Id.1).1 (cut_some IO.1).1 (cut_some Id.1).2
    have own : ∀ {H' : Hp}, But2 d O H H' → ∀ e ds, H e = some (.lst ds) → OwnE H e A0 S xs os → OwnE H' e A0 S xs os := fun s e ds _ he => OwnE.but2 s Id IO he
    have nmA : ∀ {H' : Hp}, But2 d O H H' → ∀ {e0 : Addr}, H' e0 = some (.lst []) → ∃ dd ee, Dp K H' (.ref A0) dd ∧ Dp K H' (.ref e0) ee ∧ SeqAt.shaped dd = true ∧ SeqAt.shaped ee = true ∧ PyData.eqv dd ee = decide (xs = []) := fun {_} s {_} he => ⟨_, .list [], dp_strs (SqL.of (hA s)), .lst (SqL.of he) .nil, shaped_strs g.signs, by decide +kernel, eqv_nil_strs xs⟩
    refine ⟨_, rfl, _, _, rfl, rfl, (by show (0 : Int) < _; decide), ?_⟩
    have l7 : ("things " : Str).length = 7 := by decide +kernel
    have l6 : ("offer " : Str).length = 6 := by decide +kernel
    have l5 : ("drop " : Str).length = 5 := by decide +kernel
    have lb : (" " : Str).length = 1 := by decide +kernel
    by_cases w0 : n0 % 12 = 0
    · refine ⟨_, rfl, rfl, true, congrArg V.bl (decide_eq_true (congrArg V.int w0)), ?_⟩
      have bT := b1
      have hdT := hd1
      have hOT := hO1
      refine ⟨_, rfl, _, rfl, d, _, rfl, hdT, fun Ha sa hda => ?_⟩
      generalize ns1.headD 0 = x0
      generalize ns1.tail = ns2 at hda
      obtain ⟨m, hm1, hm4, em⟩ := draw4 x0
      refine ⟨_, _, rfl, rfl, (by show (0 : Int) < _; decide), _, _, rfl, rfl, ?_⟩
      refine ⟨d, _, m, by show [V.ref d, V.int (1 + x0 % 4)] = _; rw [em], hda, hm1, hm4, fun Hb p xs' ns3 sb np npd hp hdb hlx gX => ?_⟩
      have ba := bT.trans ((But2.d sa).trans (.d sb))
      have hOa := sa _ _ ndO.symm hOT
      have hOb := sb _ _ ndO.symm hOa
      have npH : H p = none := fr (bT.trans (.d sa)) hda hOa np
      have npO : p ≠ O := (ne_of_none hOa np).symm
      refine ⟨_, rfl, O, _, 0, 0, rfl, rfl, hOb, rfl, ?_⟩
      have oc : SameBut O Hb (upd Hb O (.lst ([.ref A0, .ref S].set 0 (.ref p)))) := .upd
      have bc := ba.trans (.o oc)
      have hdc : upd Hb O (.lst ([.ref A0, .ref S].set 0 (.ref p))) d = some (LI ns3) := by rw [upd_ne ndO]; exact hdb
      have hOc : upd Hb O (.lst ([.ref A0, .ref S].set 0 (.ref p))) O = some (.lst [.ref p, .ref S]) := upd_same
      have hpc := oc _ _ npO hp
      generalize upd Hb O (.lst ([.ref A0, .ref S].set 0 (.ref p))) = Hc at oc bc hdc hOc hpc ⊢
      refine ⟨Nat.zero_le _, fun N nN => ?_⟩
      have sN := same_upd (o := .lst []) nN
      have hN : upd Hc N (.lst []) N = some (.lst []) := upd_same
      have bd := bc.trans (.s sN)
      have hdd := sN _ _ hdc
      have hOd := sN _ _ hOc
      have hpd := sN _ _ hpc
      have nNO : N ≠ O := (ne_of_none hOc nN).symm
      have nNH : H N = none := fr bc hdc hOc nN
      change ∃ x, _
      generalize upd Hc N (.lst []) = Hd at sN hN bd hdd hOd hpd ⊢
      refine ⟨_, rfl, O, _, 1, 1, rfl, rfl, hOd, rfl, ?_⟩
      have oe : SameBut O Hd (upd Hd O (.lst ([.ref p, .ref S].set 1 (.ref N)))) := .upd
      have be := bd.trans (.o oe)
      have hde : upd Hd O (.lst ([.ref p, .ref S].set 1 (.ref N))) d = some (LI ns3) := by rw [upd_ne ndO]; exact hdd
      have hOe : upd Hd O (.lst ([.ref p, .ref S].set 1 (.ref N))) O = some (.lst [.ref p, .ref N]) := upd_same
      have hpe := oe _ _ npO hpd
      have hNe := oe _ _ nNO hN
      generalize upd Hd O (.lst ([.ref p, .ref S].set 1 (.ref N))) = He at be hde hOe hpe hNe ⊢
      have nl := names_len gX
      have sumn : (xs'.map (·.length)).sum ≤ xs'.length * 8 := sum_lenN gX.short
      have ne' : xs' ≠ [] := fun z => by rw [z, List.length_nil] at hlx; omega
      refine ⟨⟨_, rfl⟩, _, rfl, O, _, _, _, rfl, rfl, SqL.of hOe, atI_nat (j := 0) rfl, _, p, xs', rfl, rfl, .inl (SqL.of hpe), by rw [lb]; omega, ?_⟩
      rw [TL.join_eq]
      refine ⟨_, _, rfl, rfl, szL (by rw [l7]; show 7 + (namesS xs').length ≤ _; omega), by show 1 ≤ sizeLine; decide, fun ue nue => ⟨by show 2 ≤ sizeLine; decide, fun qq nq => ?_⟩⟩
      have t7 := same_upd (o := .lst [.str "ok"]) nue
      have t8 := same_upd (o := .lst [.str (("things " : Str) ++ namesS xs'), .ref ue]) nq
      have bE := be.trans (.s (t7.trans t8))
      exact q _ qq ue p N _ _ xs' [] _ bE (fr (be.trans (.s t7)) (t7 _ _ hde) (t7 _ _ hOe) nq) (fr be hde hOe nue) upd_same (t8 _ _ upd_same) (.things xs' gX ne') ((t7.trans t8) _ _ hde) ((t7.trans t8) _ _ hOe) fun e ds he hw => ⟨cut_put (fun z => by rw [← z, npH] at he; cases he) ((t7.trans t8) _ _ hpe), [], cut_put (fun z => by rw [← z, nNH] at he; cases he) ((t7.trans t8) _ _ hNe), rfl, fun i v o h => by simp at h⟩
    · refine ⟨_, rfl, rfl, false, congrArg V.bl (decide_eq_false (fun z => w0 (V.int.inj z))), ?_⟩
      refine ⟨_, rfl, Nat.zero_le _, fun e0 ne0 => ?_⟩
      have s2 := same_upd (o := .lst []) ne0
      have he0 : upd H1 e0 (.lst []) e0 = some (.lst []) := upd_same
      have b2 : But2 d O H (upd H1 e0 (.lst [])) := b1.trans (.s s2)
      have hd2 := s2 _ _ hd1
      have hO2 := s2 _ _ hO1
      generalize upd H1 e0 (.lst []) = H2 at b2 hd2 hO2 he0 s2 ⊢
      obtain ⟨dd, ee, q1, q2, q3, q4, q5⟩ := nmA b2 he0
      refine ⟨dd, ee, q1, q2, q3, q4, ?_⟩
      rw [q5]
      by_cases xe : xs = []
      · refine ⟨true, by rw [decide_eq_true xe], ?_⟩
        refine ⟨_, rfl, _, _, rfl, rfl, ⟨by decide, by decide⟩, _, _, rfl, rfl, (by show (0 : Int) < _; decide), _, _, rfl, rfl, _, rfl, ite2 (fun _ => ?_) (fun _ => ?_)⟩
        · have bT := b2
          have hdT := hd2
          have hOT := hO2
          refine ⟨_, rfl, _, rfl, d, _, rfl, hdT, fun Ha sa hda => ?_⟩
          generalize ns1.headD 0 = x0
          generalize ns1.tail = ns2 at hda
          obtain ⟨m, hm1, hm4, em⟩ := draw4 x0
          refine ⟨_, _, rfl, rfl, (by show (0 : Int) < _; decide), _, _, rfl, rfl, ?_⟩
          refine ⟨d, _, m, by show [V.ref d, V.int (1 + x0 % 4)] = _; rw [em], hda, hm1, hm4, fun Hb p xs' ns3 sb np npd hp hdb hlx gX => ?_⟩
          have ba := bT.trans ((But2.d sa).trans (.d sb))
          have hOa := sa _ _ ndO.symm hOT
          have hOb := sb _ _ ndO.symm hOa
          have npH : H p = none := fr (bT.trans (.d sa)) hda hOa np
          have npO : p ≠ O := (ne_of_none hOa np).symm
          refine ⟨_, rfl, O, _, 0, 0, rfl, rfl, hOb, rfl, ?_⟩
          have oc : SameBut O Hb (upd Hb O (.lst ([.ref A0, .ref S].set 0 (.ref p)))) := .upd
          have bc := ba.trans (.o oc)
          have hdc : upd Hb O (.lst ([.ref A0, .ref S].set 0 (.ref p))) d = some (LI ns3) := by rw [upd_ne ndO]; exact hdb
          have hOc : upd Hb O (.lst ([.ref A0, .ref S].set 0 (.ref p))) O = some (.lst [.ref p, .ref S]) := upd_same
          have hpc := oc _ _ npO hp
          generalize upd Hb O (.lst ([.ref A0, .ref S].set 0 (.ref p))) = Hc at oc bc hdc hOc hpc ⊢
          refine ⟨Nat.zero_le _, fun N nN => ?_⟩
          have sN := same_upd (o := .lst []) nN
          have hN : upd Hc N (.lst []) N = some (.lst []) := upd_same
          have bd := bc.trans (.s sN)
          have hdd := sN _ _ hdc
          have hOd := sN _ _ hOc
          have hpd := sN _ _ hpc
          have nNO : N ≠ O := (ne_of_none hOc nN).symm
          have nNH : H N = none := fr bc hdc hOc nN
          change ∃ x, _
          generalize upd Hc N (.lst []) = Hd at sN hN bd hdd hOd hpd ⊢
          refine ⟨_, rfl, O, _, 1, 1, rfl, rfl, hOd, rfl, ?_⟩
          have oe : SameBut O Hd (upd Hd O (.lst ([.ref p, .ref S].set 1 (.ref N)))) := .upd
          have be := bd.trans (.o oe)
          have hde : upd Hd O (.lst ([.ref p, .ref S].set 1 (.ref N))) d = some (LI ns3) := by rw [upd_ne ndO]; exact hdd
          have hOe : upd Hd O (.lst ([.ref p, .ref S].set 1 (.ref N))) O = some (.lst [.ref p, .ref N]) := upd_same
          have hpe := oe _ _ npO hpd
          have hNe := oe _ _ nNO hN
          generalize upd Hd O (.lst ([.ref p, .ref S].set 1 (.ref N))) = He at be hde hOe hpe hNe ⊢
          have nl := names_len gX
          have sumn : (xs'.map (·.length)).sum ≤ xs'.length * 8 := sum_lenN gX.short
          have ne' : xs' ≠ [] := fun z => by rw [z, List.length_nil] at hlx; omega
          refine ⟨⟨_, rfl⟩, _, rfl, O, _, _, _, rfl, rfl, SqL.of hOe, atI_nat (j := 0) rfl, _, p, xs', rfl, rfl, .inl (SqL.of hpe), by rw [lb]; omega, ?_⟩
          rw [TL.join_eq]
          refine ⟨_, _, rfl, rfl, szL (by rw [l7]; show 7 + (namesS xs').length ≤ _; omega), by show 1 ≤ sizeLine; decide, fun ue nue => ⟨by show 2 ≤ sizeLine; decide, fun qq nq => ?_⟩⟩
          have t7 := same_upd (o := .lst [.str "ok"]) nue
          have t8 := same_upd (o := .lst [.str (("things " : Str) ++ namesS xs'), .ref ue]) nq
          have bE := be.trans (.s (t7.trans t8))
          exact q _ qq ue p N _ _ xs' [] _ bE (fr (be.trans (.s t7)) (t7 _ _ hde) (t7 _ _ hOe) nq) (fr be hde hOe nue) upd_same (t8 _ _ upd_same) (.things xs' gX ne') ((t7.trans t8) _ _ hde) ((t7.trans t8) _ _ hOe) fun e ds he hw => ⟨cut_put (fun z => by rw [← z, npH] at he; cases he) ((t7.trans t8) _ _ hpe), [], cut_put (fun z => by rw [← z, nNH] at he; cases he) ((t7.trans t8) _ _ hNe), rfl, fun i v o h => by simp at h⟩
        · refine ⟨_, rfl, Nat.zero_le _, fun e1 ne1 => ?_⟩
          have s3 := same_upd (o := .lst []) ne1
          have he1 : upd H2 e1 (.lst []) e1 = some (.lst []) := upd_same
          have b3 : But2 d O H (upd H2 e1 (.lst [])) := b2.trans (.s s3)
          have hd3 := s3 _ _ hd2
          have hO3 := s3 _ _ hO2
          generalize upd H2 e1 (.lst []) = H3 at b3 hd3 hO3 he1 s3 ⊢
          obtain ⟨dd, ee, q1, q2, q3, q4, q5⟩ := nmA b3 he1
          refine ⟨dd, ee, q1, q2, q3, q4, ?_⟩
          rw [q5]
          refine ⟨true, by rw [decide_eq_true xe], ?_⟩
          refine ⟨by show 5 ≤ sizeLine; decide, fun e2 ne2 => ?_⟩
          obtain ⟨j, hj, ej⟩ := mod_at (i := n0 / 36) (n := 5) (by decide)
          obtain ⟨line, hline, mem⟩ : ∃ line : Str, ([V.str "shop", .str "drop 0", .str "spare", .str "offer 1 x for 5", .str "cost nothing"])[j]? = some (.str line) ∧ line ∈ (["shop", "drop 0", "spare", "offer 1 x for 5", "cost nothing"] : List Str) := by
            match j, hj with
            | 0, _ => exact ⟨_, rfl, by simp⟩
            | 1, _ => exact ⟨_, rfl, by simp⟩
            | 2, _ => exact ⟨_, rfl, by simp⟩
            | 3, _ => exact ⟨_, rfl, by simp⟩
            | 4, _ => exact ⟨_, rfl, by simp⟩
          refine ⟨_, rfl, _, _, rfl, rfl, ⟨by decide, by decide⟩, _, _, rfl, rfl, (by show (0 : Int) < _; decide), e2, _, _, _, rfl, rfl, SqL.of upd_same, at_of ej hline, by show 2 ≤ sizeLine; decide, fun ue nue => ⟨by show 2 ≤ sizeLine; decide, fun qq nq => ?_⟩⟩
          have s4 := same_upd (o := .lst [.str "shop", .str "drop 0", .str "spare", .str "offer 1 x for 5", .str "cost nothing"]) ne2
          have b4 := b3.trans (.s s4)
          have hd4 := s4 _ _ hd3
          have hO4 := s4 _ _ hO3
          generalize upd H3 e2 (.lst [.str "shop", .str "drop 0", .str "spare", .str "offer 1 x for 5", .str "cost nothing"]) = H4 at s4 b4 hd4 hO4 nue nq ⊢
          have t7 := same_upd (o := .lst [.str "things", .str ""]) nue
          have t8 := same_upd (o := .lst [.str line, .ref ue]) nq
          have bE := b4.trans (.s (t7.trans t8))
          exact q _ qq ue A0 S _ _ xs os _ bE (fr (b4.trans (.s t7)) (t7 _ _ hd4) (t7 _ _ hO4) nq) (fr b4 hd4 hO4 nue) upd_same (t8 _ _ upd_same) (.non line xe mem) ((t7.trans t8) _ _ hd4) ((t7.trans t8) _ _ hO4) (own bE)
      · refine ⟨false, by rw [decide_eq_false xe], ?_⟩
        -- no names are asked for
        refine ⟨_, rfl, Nat.zero_le _, fun e1 ne1 => ?_⟩
        have s3 := same_upd (o := .lst []) ne1
        have he1 : upd H2 e1 (.lst []) e1 = some (.lst []) := upd_same
        have b3 : But2 d O H (upd H2 e1 (.lst [])) := b2.trans (.s s3)
        have hd3 := s3 _ _ hd2
        have hO3 := s3 _ _ hO2
        generalize upd H2 e1 (.lst []) = H3 at b3 hd3 hO3 he1 s3 ⊢
        obtain ⟨dd, ee, q1, q2, q3, q4, q5⟩ := nmA b3 he1
        refine ⟨dd, ee, q1, q2, q3, q4, ?_⟩
        rw [q5]
        refine ⟨false, by rw [decide_eq_false xe], ?_⟩
        have lx4 := g.few
        have lx1 : 1 ≤ xs.length := by
          cases xs with
          | nil => exact absurd rfl xe
          | cons a r => simp
        refine ⟨_, rfl, _, _, rfl, rfl, _, rfl, ite2 (fun _ => ?_) (fun _ => ?_)⟩
        · -- an offer
          refine ⟨_, rfl, _, rfl, A0, _, rfl, .inl (SqL.of (hA b3)), d, _, xs.length, by rw [List.length_map]; rfl, hd3, lx1, lx4, fun H4 v o ns4 s4 nv nvd ho hov fo hd4 => ?_⟩
          have b4 : But2 d O H H4 := b3.trans (.d s4)
          have hO4 := s4 _ _ ndO.symm hO3
          have rd : ReadO xs o := fo.fit rfl
          refine ⟨_, rfl, _, rfl, A0, v, xs, o, rfl, hA b4, ho, g, rd.1, fun H5 s5 => ?_⟩
          have b5 : But2 d O H H5 := b4.trans (.s s5)
          have lo := rd.1.len g
          refine ⟨_, _, rfl, rfl, szL (by rw [l6]; omega), ?_⟩
          have hd5 := s5 _ _ hd4
          have hO5 := s5 _ _ hO4
          have hS5 : ShopAt H5 S os := (OwnE.but2 b5 Id IO Id).2.same cut_le
          refine ⟨_, rfl, _, rfl, S, v, os, o, rfl, hS5, ho.same s5, h8, (fun c p k e => by subst e; exact fo.2.2.2.2.1), (fun c ts e => by subst e; exact ⟨fo.2.2.pos, fo.2.2.few⟩), fun H6 s6 => ?_⟩
          have b6 : But2 d O H H6 := b5.trans (.s s6)
          have hd6 := s6 _ _ hd5
          have hO6 := s6 _ _ hO5
          obtain ⟨vs, k1, k2, k3⟩ := id (hS5.same s6)
          cases hg : gOf os o with
          | false =>
            refine ⟨false, rfl, ?_⟩
            refine ⟨_, rfl, _, rfl, S, _, rfl, .inl (SqL.of k1), by show 2 ≤ sizeLine; decide, fun ue nue => ⟨by show 2 ≤ sizeLine; decide, fun qq nq => ?_⟩⟩
            have s7 := same_upd (o := .lst [.str "offer", .int ((vs.map V.ref).length : Nat)]) nue
            have s8 := same_upd (o := .lst [.str (("offer " : Str) ++ offerS xs o), .ref ue]) nq
            have b8 := b6.trans (.s (s7.trans s8))
            refine q _ qq ue A0 S _ _ xs os _ b8 (fr (b6.trans (.s s7)) (s7 _ _ hd6) (s7 _ _ hO6) nq) (fr b6 hd6 hO6 nue) upd_same (s8 _ _ upd_same) ?_ ((s7.trans s8) _ _ hd6) ((s7.trans s8) _ _ hO6) (own b8)
            rw [List.length_map, k2]
            exact .bad o xe fo hg
          | true =>
            refine ⟨true, rfl, ?_⟩
            refine ⟨_, rfl, _, rfl, by show 1 ≤ sizeLine; decide, fun l1 nl1 => ?_⟩
            have s7 := same_upd (o := .lst [.ref v]) nl1
            have hl1 : upd H6 l1 (.lst [.ref v]) l1 = some (.lst [.ref v]) := upd_same
            have k17 := s7 _ _ k1
            have b7 := b6.trans (.s s7)
            have hd7 := s7 _ _ hd6
            have hO7 := s7 _ _ hO6
            generalize upd H6 l1 (.lst [.ref v]) = H7 at s7 hl1 k17 b7 hd7 hO7 ⊢
            refine ⟨S, l1, _, _, rfl, rfl, k17, hl1, szL (by rw [List.length_map]; show vs.length + 1 ≤ _; omega), fun N nN => ?_⟩
            have s8 := same_upd (o := .lst (vs.map V.ref ++ [.ref v])) nN
            have hN : upd H7 N (.lst (vs.map V.ref ++ [.ref v])) N = some (.lst ((vs ++ [v]).map V.ref)) := by rw [upd_same, List.map_append]; rfl
            have b8 := b7.trans (.s s8)
            have hd8 := s8 _ _ hd7
            have hO8 := s8 _ _ hO7
            have nNO : N ≠ O := (ne_of_none hO7 nN).symm
            have nNH : H N = none := fr b7 hd7 hO7 nN
            generalize upd H7 N (.lst (vs.map V.ref ++ [.ref v])) = H8 at s8 hN b8 hd8 hO8 ⊢
            refine ⟨_, rfl, O, _, 1, 1, rfl, rfl, hO8, rfl, ?_⟩
            have o9 : SameBut O H8 (upd H8 O (.lst [.ref A0, .ref N])) := .upd
            have b9 : But2 d O H (upd H8 O (.lst ([.ref A0, .ref S].set 1 (.ref N)))) := b8.trans (.o o9)
            have hd9 : upd H8 O (.lst ([.ref A0, .ref S].set 1 (.ref N))) d = some (LI ns4) := by rw [upd_ne ndO]; exact hd8
            have hO9 : upd H8 O (.lst ([.ref A0, .ref S].set 1 (.ref N))) O = some (.lst [.ref A0, .ref N]) := upd_same
            have hN9 : upd H8 O (.lst ([.ref A0, .ref S].set 1 (.ref N))) N = some (.lst ((vs ++ [v]).map V.ref)) := by rw [upd_ne nNO]; exact hN
            have s49 : SameBut O H4 (upd H8 O (.lst ([.ref A0, .ref S].set 1 (.ref N)))) := (SameBut.of (((s5.trans s6).trans s7).trans s8)).trans o9
            have own9 : ∀ e ds, H e = some (.lst ds) → OwnE H e A0 S xs os → OwnE (upd H8 O (.lst ([.ref A0, .ref S].set 1 (.ref N)))) e A0 N xs (os ++ [o]) := fun e ds he hw => by
              obtain ⟨w1, w2⟩ := OwnE.but2 b9 Id IO hw
              refine ⟨w1, ?_⟩
              have nNe : N ≠ e := fun z => by rw [← z, nNH] at he; cases he
              obtain ⟨vs', m1, m2, m3⟩ := w2
              have nSO : S ≠ O := by
                obtain ⟨vs0, k0, _⟩ := IO.2
                exact (cut_some k0).1
              have kS9 : upd H8 O (.lst ([.ref A0, .ref S].set 1 (.ref N))) S = some (.lst (vs.map V.ref)) := by rw [upd_ne nSO]; exact s8 _ _ k17
              have ev : vs' = vs := by
                have x := (cut_some m1).2.symm.trans kS9
                injection x with x
                injection x with x
                exact (List.map_inj_right fun a b e => V.ref.inj e).mp x
              subst ev
              have he3 : ∃ ds', H3 e = some (.lst ds') := by
                by_cases z1 : e = d
                · exact ⟨_, by rw [z1]; exact hd3⟩
                · by_cases z2 : e = O
                  · exact ⟨_, by rw [z2]; exact hO3⟩
                  · exact ⟨ds, b3 _ _ z1 z2 he⟩
              obtain ⟨ds', he3⟩ := he3
              have ho9 : OfrAt (cutH e (upd H8 O (.lst ([.ref A0, .ref S].set 1 (.ref N))))) v o := ((hov e ds' he3).cut2 (hov O _ hO3)).ke fun b oo h _ => by
                obtain ⟨n1, h⟩ := cut_some h
                obtain ⟨n2, h⟩ := cut_some h
                exact cut_put n1 (s49 _ _ n2 h)
              have w3 : ShopAt (cutH e (upd H8 O (.lst ([.ref A0, .ref S].set 1 (.ref N))))) S os := ⟨vs', m1, m2, m3⟩
              obtain ⟨vs2, p1, p2⟩ := w3.al
              have ev2 : vs2 = vs' := by
                have x := p1.symm.trans m1
                injection x with x
                injection x with x
                exact (List.map_inj_right fun a b e => V.ref.inj e).mp x
              subst ev2
              exact ShopAt.of_al (cut_put nNe hN9) (p2.app (.one ho9))
            generalize upd H8 O (.lst ([.ref A0, .ref S].set 1 (.ref N))) = H9 at b9 hd9 hO9 hN9 own9 ⊢
            refine ⟨_, rfl, by show 1 ≤ sizeLine; decide, fun ue nue => ⟨by show 2 ≤ sizeLine; decide, fun qq nq => ?_⟩⟩
            have t7 := same_upd (o := .lst [.str "ok"]) nue
            have t8 := same_upd (o := .lst [.str (("offer " : Str) ++ offerS xs o), .ref ue]) nq
            have bE := b9.trans (.s (t7.trans t8))
            refine q _ qq ue A0 N _ _ xs (os ++ [o]) _ bE (fr (b9.trans (.s t7)) (t7 _ _ hd9) (t7 _ _ hO9) nq) (fr b9 hd9 hO9 nue) upd_same (t8 _ _ upd_same) (.offer o xe fo hg) ((t7.trans t8) _ _ hd9) ((t7.trans t8) _ _ hO9) fun e ds he hw => ?_
            obtain ⟨w1, w2⟩ := own9 e ds he hw
            exact ⟨(cut_mono (t7.trans t8)) _ _ w1, w2.same (cut_mono (t7.trans t8))⟩
        · -- a place to be dropped
          have hS3 : ShopAt H3 S os := (OwnE.but2 b3 Id IO Id).2.same cut_le
          obtain ⟨vs, k1, k2, k3⟩ := id hS3
          have L0 : (0 : Int) ≤ (((vs.map V.ref).length : Nat) : Int) := by omega
          have L8 : (((vs.map V.ref).length : Nat) : Int) ≤ 8 := by rw [List.length_map]; omega
          have nSO : S ≠ O := by
            obtain ⟨vs0, k0, _⟩ := IO.2
            exact (cut_some k0).1
          refine ⟨_, rfl, S, _, rfl, .inl (SqL.of k1), _, _, rfl, rfl, _, _, rfl, _, rfl, S, _, rfl, .inl (SqL.of k1), by show 4 ≤ sizeLine; decide, fun e2 ne2 => ?_⟩
          obtain ⟨j, hj, ej⟩ := mod_at (i := n0 / 12) (n := 4) (by decide)
          obtain ⟨n, hx, hn⟩ := menuD L0 L8 hj
          refine ⟨_, rfl, _, _, rfl, rfl, ⟨by decide, by decide⟩, _, _, rfl, rfl, (by show (0 : Int) < _; decide), e2, _, _, _, rfl, rfl, SqL.of upd_same, at_of ej hx, ?_⟩
          have s4 := same_upd (o := .lst [.int (if (((vs.map V.ref).length : Nat) : Int) - 1 > 0 then (((vs.map V.ref).length : Nat) : Int) - 1 else 0), .int (((vs.map V.ref).length : Nat) : Int), .int 99, .int 0]) ne2
          have b4 := b3.trans (.s s4)
          have hd4 := s4 _ _ hd3
          have hO4 := s4 _ _ hO3
          have k14 := s4 _ _ k1
          generalize upd H3 e2 (.lst [.int (if (((vs.map V.ref).length : Nat) : Int) - 1 > 0 then (((vs.map V.ref).length : Nat) : Int) - 1 else 0), .int (((vs.map V.ref).length : Nat) : Int), .int 99, .int 0]) = H4 at s4 b4 hd4 hO4 k14 ⊢
          have ln : (numS n).length ≤ 12 := num12 (by omega)
          refine ⟨_, rfl, _, rfl, S, _, rfl, .inl (SqL.of k14), _, _, rfl, rfl, rfl, ?_⟩
          by_cases z : (n : Int) = (os.length : Int) - 1
          · have ez : (n : Int) = (((vs.map V.ref).length : Nat) : Int) - 1 := by rw [List.length_map, k2]; exact z
            refine ⟨false, by rw [decide_eq_true (congrArg V.int ez)]; rfl, ?_⟩
            refine ⟨_, rfl, 1, rfl, -1, rfl, S, _, rfl, SqL.of k14, fun N nN => ?_⟩
            rw [cut_but, ← List.map_dropLast]
            have s5 := same_upd (o := .lst (vs.dropLast.map V.ref)) nN
            have hN : upd H4 N (.lst (vs.dropLast.map V.ref)) N = some (.lst (vs.dropLast.map V.ref)) := upd_same
            have b5 := b4.trans (.s s5)
            have hd5 := s5 _ _ hd4
            have hO5 := s5 _ _ hO4
            have k15 := s5 _ _ k14
            have nNO : N ≠ O := (ne_of_none hO4 nN).symm
            have nNH : H N = none := fr b4 hd4 hO4 nN
            change ∃ x, _
            generalize upd H4 N (.lst (vs.dropLast.map V.ref)) = H5 at s5 hN b5 hd5 hO5 k15 ⊢
            refine ⟨_, rfl, O, _, 1, 1, rfl, rfl, hO5, rfl, ?_⟩
            have b9 : But2 d O H (upd H5 O (.lst ([.ref A0, .ref S].set 1 (.ref N)))) := b5.trans (.o .upd)
            have hd9 : upd H5 O (.lst ([.ref A0, .ref S].set 1 (.ref N))) d = some (LI ns1) := by rw [upd_ne ndO]; exact hd5
            have hO9 : upd H5 O (.lst ([.ref A0, .ref S].set 1 (.ref N))) O = some (.lst [.ref A0, .ref N]) := upd_same
            have hN9 : upd H5 O (.lst ([.ref A0, .ref S].set 1 (.ref N))) N = some (.lst (vs.dropLast.map V.ref)) := by rw [upd_ne nNO]; exact hN
            have kS9 : upd H5 O (.lst ([.ref A0, .ref S].set 1 (.ref N))) S = some (.lst (vs.map V.ref)) := by rw [upd_ne nSO]; exact k15
            have own9 : ∀ e ds, H e = some (.lst ds) → OwnE H e A0 S xs os → OwnE (upd H5 O (.lst ([.ref A0, .ref S].set 1 (.ref N)))) e A0 N xs os.dropLast := fun e ds he hw => by
              obtain ⟨w1, w2⟩ := OwnE.but2 b9 Id IO hw
              refine ⟨w1, ?_⟩
              have nNe : N ≠ e := fun z => by rw [← z, nNH] at he; cases he
              obtain ⟨vs2, p1, p2⟩ := w2.al
              have ev2 : vs2 = vs := by
                have x := (cut_some p1).2.symm.trans kS9
                injection x with x
                injection x with x
                exact (List.map_inj_right fun a b e => V.ref.inj e).mp x
              subst ev2
              have alT := p2.take (vs2.length - 1)
              rw [← List.dropLast_eq_take, show vs2.length - 1 = os.length - 1 by omega, ← List.dropLast_eq_take] at alT
              exact ShopAt.of_al (cut_put nNe hN9) alT
            generalize upd H5 O (.lst ([.ref A0, .ref S].set 1 (.ref N))) = H9 at b9 hd9 hO9 own9 ⊢
            refine ⟨_, rfl, _, rfl, lt100_log hn, ?_⟩
            refine ⟨_, _, rfl, rfl, szL (by rw [l5]; show _ + (numS n).length ≤ _; omega), by show 1 ≤ sizeLine; decide, fun ue nue => ⟨by show 2 ≤ sizeLine; decide, fun qq nq => ?_⟩⟩
            have t7 := same_upd (o := .lst [.str "ok"]) nue
            have t8 := same_upd (o := .lst [.str (("drop " : Str) ++ numS n), .ref ue]) nq
            have bE := b9.trans (.s (t7.trans t8))
            refine q _ qq ue A0 N _ _ xs os.dropLast _ bE (fr (b9.trans (.s t7)) (t7 _ _ hd9) (t7 _ _ hO9) nq) (fr b9 hd9 hO9 nue) upd_same (t8 _ _ upd_same) (.drop n xe hn z) ((t7.trans t8) _ _ hd9) ((t7.trans t8) _ _ hO9) fun e ds he hw => ?_
            obtain ⟨w1, w2⟩ := own9 e ds he hw
            exact ⟨(cut_mono (t7.trans t8)) _ _ w1, w2.same (cut_mono (t7.trans t8))⟩
          · have ez : ¬ (V.int (n : Int) = V.int ((((vs.map V.ref).length : Nat) : Int) - 1)) := fun y => z (by have := V.int.inj y; rw [List.length_map, k2] at this; exact this)
            refine ⟨true, by rw [decide_eq_false ez]; rfl, ?_⟩
            refine ⟨_, rfl, _, rfl, lt100_log hn, ?_⟩
            refine ⟨_, _, rfl, rfl, szL (by rw [l5]; show _ + (numS n).length ≤ _; omega), by show 2 ≤ sizeLine; decide, fun ue nue => ⟨by show 2 ≤ sizeLine; decide, fun qq nq => ?_⟩⟩
            have t7 := same_upd (o := .lst [.str "place", .str ""]) nue
            have t8 := same_upd (o := .lst [.str (("drop " : Str) ++ numS n), .ref ue]) nq
            have bE := b4.trans (.s (t7.trans t8))
            exact q _ qq ue A0 S _ _ xs os _ bE (fr (b4.trans (.s t7)) (t7 _ _ hd4) (t7 _ _ hO4) nq) (fr b4 hd4 hO4 nue) upd_same (t8 _ _ upd_same) (.keep n xe hn z) ((t7.trans t8) _ _ hd4) ((t7.trans t8) _ _ hO4) (own bE)
end
/-! ### shops as data -/
def dTier (t : Int × Int) : PyData := .tuple [.int t.1, .int t.2]
def dOfr : Ofr → PyData
  | .pack c p => .tuple [.str "pack", dInts c, .int p]
  | .many c ts => .tuple [.str "many", dInts c, .list (ts.map dTier)]
  | .add c p k => .tuple [.str "add", dInts c, .int p, .int k]
abbrev dShop (os : List Ofr) : PyData := .list (os.map dOfr)
theorem dp_tiers {K : PySem.W.Frag} {H : Hp} : ∀ {us : List Addr} {ts : List (Int × Int)}, us.length = ts.length → (∀ (i : Nat) u (t : Int × Int), us[i]? = some u → ts[i]? = some t → H u = some (.tup [.int t.1, .int t.2])) → DpAll K H (us.map V.ref) (ts.map dTier)
  | [], [], _, _ => .nil
  | [], _ :: _, h, _ => by simp at h
  | _ :: _, [], h, _ => by simp at h
  | u :: us, t :: ts, hl, h => .cons (.tup (SqT.of (h 0 u t rfl rfl)) (.cons (.int _) (.cons (.int _) .nil))) (dp_tiers (by simpa using hl) fun i u' t' a b => h (i + 1) u' t' a b)
theorem TiersAt.dp {K : PySem.W.Frag} {H : Hp} {a : Addr} {ts : List (Int × Int)} (h : TiersAt H a ts) : Dp K H (.ref a) (.list (ts.map dTier)) := by
  obtain ⟨us, h1, h2, h3⟩ := h
  exact .lst (SqL.of h1) (dp_tiers h2 h3)
theorem OfrAt.dp {K : PySem.W.Frag} {H : Hp} {a : Addr} : ∀ {o : Ofr}, OfrAt H a o → Dp K H (.ref a) (dOfr o)
  | .pack c p, ⟨b, h1, h2⟩ => .tup (SqT.of h1) (.cons (.str _) (.cons (dp_ints (SqL.of h2)) (.cons (.int _) .nil)))
  | .many c ts, ⟨b, t, h1, h2, h3⟩ => .tup (SqT.of h1) (.cons (.str _) (.cons (dp_ints (SqL.of h2)) (.cons h3.dp .nil)))
  | .add c p k, ⟨b, h1, h2⟩ => .tup (SqT.of h1) (.cons (.str _) (.cons (dp_ints (SqL.of h2)) (.cons (.int _) (.cons (.int _) .nil))))
theorem dp_ofrs {K : PySem.W.Frag} {H : Hp} : ∀ {vs : List Addr} {os : List Ofr}, Al (OfrAt H) vs os → DpAll K H (vs.map V.ref) (os.map dOfr)
  | [], [], _ => .nil
  | [], _ :: _, h => h.elim
  | _ :: _, [], h => h.elim
  | _ :: _, _ :: _, h => .cons h.1.dp (dp_ofrs h.2)
theorem ShopAt.dp {K : PySem.W.Frag} {H : Hp} {a : Addr} {os : List Ofr} (h : ShopAt H a os) : Dp K H (.ref a) (dShop os) := by
  obtain ⟨vs, h1, al⟩ := h.al
  exact .lst (SqL.of h1) (dp_ofrs al)
theorem lay_tiers : ∀ ts : List (Int × Int), PyData.canLayAll0 (ts.map dTier) = true
  | [] => by simp [PyData.canLayAll0]
  | t :: r => by
    have ih := lay_tiers r
    simp [PyData.canLayAll0, PyData.canLay0, dTier, ih]
theorem depth_tiers : ∀ ts : List (Int × Int), PyData.depthAll (ts.map dTier) ≤ 1
  | [] => by simp [PyData.depthAll]
  | t :: r => by
    have ih := depth_tiers r
    simp only [List.map_cons, PyData.depthAll, PyData.depth, dTier]
    omega
theorem lay_ofr (o : Ofr) : PyData.canLay0 (dOfr o) = true := by
  cases o with
  | pack c p =>
    have := lay_ints c
    simp [dOfr, PyData.canLayAll0, PyData.canLay0, this]
    decide +kernel
  | many c ts =>
    have := lay_ints c
    have h2 := lay_tiers ts
    simp [dOfr, PyData.canLayAll0, PyData.canLay0, this, h2]
    decide +kernel
  | add c p k =>
    have := lay_ints c
    simp [dOfr, PyData.canLayAll0, PyData.canLay0, this]
    decide +kernel
theorem depth_ofr (o : Ofr) : PyData.depth (dOfr o) ≤ 4 := by
  cases o with
  | pack c p =>
    have := depth_ints c
    simp only [dOfr, PyData.depth, PyData.depthAll, this]
    omega
  | many c ts =>
    have := depth_ints c
    have h2 := depth_tiers ts
    simp only [dOfr, PyData.depth, PyData.depthAll, this]
    omega
  | add c p k =>
    have := depth_ints c
    simp only [dOfr, PyData.depth, PyData.depthAll, this]
    omega
theorem lay_ofrs : ∀ os : List Ofr, PyData.canLayAll0 (os.map dOfr) = true
  | [] => by simp [PyData.canLayAll0]
  | o :: r => by
    have ih := lay_ofrs r
    have h1 := lay_ofr o
    simp [PyData.canLayAll0, ih, h1]
theorem depth_ofrs : ∀ os : List Ofr, PyData.depthAll (os.map dOfr) ≤ 4
  | [] => by simp [PyData.depthAll]
  | o :: r => by
    have ih := depth_ofrs r
    have h1 := depth_ofr o
    simp only [List.map_cons, PyData.depthAll]
    omega
theorem shaped_shop (os : List Ofr) : SeqAt.shaped (dShop os) = true := by
  unfold SeqAt.shaped
  have h1 : PyData.canLay0 (dShop os) = true := by
    simp only [PyData.canLay0]
    exact lay_ofrs os
  have h2 : PyData.depth (dShop os) ≤ 64 := by
    have := depth_ofrs os
    simp only [PyData.depth]
    omega
  rw [h1, decide_eq_true h2]
  rfl
/-! ### _law_shop_text, _law_seen -/
abbrev s_law_shop_text : Stmt := topS 97
abbrev N_law_shop_text : List Str := ["_law_names_here", "_law_shop", "_law_offer"]
theorem sc_law_shop_text : FnScope N_law_shop_text ["_law_names_here", "_law_shop"] (defScope s_law_shop_text) := ⟨rfl, rfl, rfl, by decide +kernel, rfl, by decide +kernel, by decide +kernel⟩

abbrev s_law_seen : Stmt := topS 99
abbrev N_law_seen : List Str := ["_law_desk", "_law_own", "_law_due"]
theorem sc_law_seen : FnScope N_law_seen ["_law_desk", "_law_own"] (defScope s_law_seen) := ⟨rfl, rfl, rfl, by decide +kernel, rfl, by decide +kernel, by decide +kernel⟩

theorem eqv_offers (os : List Ofr) : PyData.eqv (dShop os) (.list []) = decide (os = []) := by
  cases os with
  | nil => rfl
  | cons o r => rfl
theorem num_signs (n : Nat) : Signs (numS n) := fun c hc => by
  rw [tl_numS] at hc
  have : ¬ (c < 48 ∨ 57 < c) := fun z => TL.numL_free z hc
  omega
theorem Signs.app {x y : Str} (h : Signs x) (k : Signs y) : Signs (x ++ y) := fun c hc => by
  rw [TL.tl_append] at hc
  exact (List.mem_append.mp hc).elim (h c) (k c)
theorem word_signs : Signs (" for " : Str) ∧ Signs (": " : Str) ∧ Signs ("many " : Str) ∧ Signs ("with " : Str) ∧ Signs (", " : Str) ∧ Signs (" | " : Str) ∧ Signs ("none" : Str) ∧ Signs ("things" : Str) ∧ Signs ("" : Str) := by
  unfold Signs
  decide +kernel
theorem show_ok {xs : List Str} (g : GoodN xs) (c : List Int) : Signs (showM xs c) := fun d hd => by
  have := show_signs g d hd
  omega
theorem sold_signs {xs : List Str} (g : GoodN xs) (c : List Int) (p : Int) : Signs (soldS xs c p) := ((show_ok g c).app word_signs.1).app (num_signs _)
theorem tiers_signs : ∀ ts : List (Int × Int), Signs (tiersS ts)
  | [] => fun c hc => by cases hc
  | [t] => (((num_signs _).app word_signs.1).app (num_signs _) : Signs (tierS t))
  | t :: u :: r => by
    have h : Signs (tierS t ++ (", " : Str) ++ tiersS (u :: r)) := ((((num_signs _).app word_signs.1).app (num_signs _) : Signs (tierS t)).app word_signs.2.2.2.2.1).app (tiers_signs (u :: r))
    exact h
theorem offer_signs {xs : List Str} (g : GoodN xs) : ∀ o : Ofr, Signs (offerS xs o)
  | .pack c p => sold_signs g c p
  | .many c ts => word_signs.2.2.1.app (((show_ok g c).app word_signs.2.1).app (tiers_signs ts))
  | .add c p k => word_signs.2.2.2.1.app (((num_signs _).app word_signs.2.1).app (sold_signs g c p))
theorem shop_signs {xs : List Str} (g : GoodN xs) (os : List Ofr) : Signs (shopS xs os) := by
  have key : ∀ ps : List Str, (∀ p ∈ ps, Signs p) → Signs (Str.join (" | " : Str) ps) := by
    intro ps
    induction ps with
    | nil => intro _ c hc; cases hc
    | cons p r ih =>
      intro h
      cases r with
      | nil => exact h p List.mem_cons_self
      | cons u t =>
        have : Signs (p ++ (" | " : Str) ++ Str.join (" | " : Str) (u :: t)) := ((h p List.mem_cons_self).app word_signs.2.2.2.2.2.1).app (ih fun x hx => h x (List.mem_cons_of_mem _ hx))
        exact this
  unfold shopS orNone
  split
  · exact word_signs.2.2.2.2.2.2.1
  · exact key _ fun p hp => by
      obtain ⟨o, _, rfl⟩ := List.mem_map.mp hp
      exact offer_signs g o
def sp_shop_text : Sp := fun vs H Q _ => ∃ (a S : Addr) (xs : List Str) (os : List Ofr), vs = [.ref a, .ref S] ∧ H a = some (LS xs) ∧ ShopAt H S os ∧ GoodN xs ∧ (∀ o ∈ os, TellO xs o) ∧ os.length ≤ 8 ∧ ∀ H', Same H H' → Q (.str (shopS xs os)) H'
section
variable {P : Program} {w : World} {K : PySem.W.Frag} {mg : Str → Option Value} {base : Heap} {T : List Addr} {C : Addr}
theorem ok_shop_text {f f1 : Addr} {fd fd1 : FuncData} {k : Nat} (M : Names mg) (D : Def K mg "_law_shop_text" s_law_shop_text ["_law_names_here", "_law_shop"] f fd) (D_law_offer_text : Def K mg "_law_offer_text" s_law_offer_text ["_law_names_here", "_law_offer"] f1 fd1) (G_law_offer_text : FnOk P w K mg base CX0 k f1 fd1 ["_law_names_here", "_law_offer"] sp_show_offer) : FnOk P w K mg base CX0 (k + 1) f fd ["_law_names_here", "_law_shop"] sp_shop_text := by
  refine D.F.ok sc_law_shop_text (fun vs H Q E h => ?_) (fun cdv A outer s H vs Q E hr h => ?_)
  · obtain ⟨a, S, xs, os, rfl, _⟩ := h
    rfl
  · obtain ⟨a, S, xs, os, rfl, ha, hS, g, tl, h8, q⟩ := h
    refine ⟨_, (pss_cons (ps_if (pt_cmpR (op_eqD hr.units) (pv 1) (pe_lst pa_nil) (nomark _))
   (pss_one (ps_ret pe_str))
   pss_nil)
  (pss_one (ps_ret (pe_join pe_str (pe_lc (own := [("_law_offer", 2)]) (by rfl) sc_law_shop_text.nd (pi_list (pv 1)) (blkOk_by (own := [("_law_offer", 2)]) (N := N_law_shop_text) (sc := defScope s_law_shop_text) (by decide +kernel)) (fun _ _ _ _ _ => (pg_name (i := 2) sc_law_shop_text.nd rfl (Or.inl rfl))) (fun _ _ _ _ _ => pts_nil) (fun _ _ _ _ _ => (pe_call G_law_offer_text hr (by rfl) D_law_offer_text.g D_law_offer_text.F.kp D_law_offer_text.b .nil pass0 (pa_cons (pv 0) (pa_cons (pv 2) pa_nil))))))))), ?_⟩
    refine ⟨_, rfl, Nat.zero_le _, fun e ne => ?_⟩
    have se : Same H (upd H e (.lst [])) := same_upd ne
    have he : upd H e (.lst []) e = some (.lst []) := upd_same
    generalize upd H e (.lst []) = H1 at se he ⊢
    refine ⟨_, .list [], (hS.same se).dp, .lst (SqL.of he) .nil, shaped_shop os, by decide +kernel, ?_⟩
    rw [eqv_offers]
    by_cases z : os = []
    · refine ⟨true, by rw [decide_eq_true z], ?_⟩
      have en : shopS xs os = ("none" : Str) := by rw [z]; rfl
      rw [en] at q
      exact q _ se
    · refine ⟨false, by rw [decide_eq_false z], ?_⟩
      have nm : os.map (offerS xs) ≠ [] := fun y => z (List.map_eq_nil_iff.mp y)
      have en : shopS xs os = Str.join (" | " : Str) (os.map (offerS xs)) := if_neg nm
      have l3 : (" | " : Str).length = 3 := by decide +kernel
      have pl : ∀ p ∈ os.map (offerS xs), p.length ≤ 200 := fun p hp => by
        obtain ⟨o, ho, rfl⟩ := List.mem_map.mp hp
        exact (tl o ho).len g
      have sumN := sum_lenN pl
      rw [List.length_map] at sumN
      obtain ⟨vs, k1, k2, k3⟩ := id (hS.same se)
      refine ⟨⟨_, rfl⟩, _, rfl, S, rfl, ⟨_, SqL.of k1⟩, fun B nB => lc_list (xs := vs.map V.ref) (fun i H' => Same H1 H' ∧ H' B = some (LS ((os.take i).map (offerS xs)))) ⟨same_upd nB, upd_same⟩ (fun i H' _ hp => SqL.of (hp.1 _ _ k1)) (fun i x H2 hx hp => ?_) (fun H2 hp => ?_)⟩
      · obtain ⟨s2, hB⟩ := hp
        have hi : i < os.length := by
          have := (List.getElem?_eq_some_iff.mp hx).1
          rw [List.length_map] at this
          omega
        obtain ⟨v, o, g1, g2, g3⟩ := ShopAt.get (H := H1) (a := S) k2 hi
        rw [g3] at hx
        cases Option.some.inj hx
        refine ⟨rfl, _, rfl, _, rfl, a, v, xs, o, rfl, s2 _ _ (se _ _ ha), (k3 i v o g1 g2).same s2, g, tl o (List.mem_of_getElem? g2), fun H3 s3 => ?_⟩
        refine ⟨_, s3 _ _ hB, szL' (by rw [List.length_map, List.length_map, List.length_take]; omega), sm_new (s2.trans s3) nB, ?_⟩
        rw [upd_same, ls_app, take_succ_at g2, List.map_append]
        rfl
      · obtain ⟨s2, hB⟩ := hp
        rw [List.length_map, k2, List.take_length] at hB
        refine ⟨_, B, _, rfl, rfl, .inl (SqL.of hB), by rw [l3, List.length_map]; omega, ?_⟩
        rw [TL.join_eq, ← en]
        exact q _ (se.trans s2)
end
/-! ### a desk and what the law keeps of it; _law_seen -/
def spx_ans (T : List Addr) (C CN CPl : Addr) : Sp := fun vs H Q E => ((spx_a_things T C vs H Q E ∨ spx_a_offer T C CN vs H Q E) ∨ sp_a_shop T C vs H Q E) ∨ spx_a_drop T C CPl vs H Q E
theorem ans_monoE {T : List Addr} {C CN CPl : Addr} : ∀ vs H Q (E E' : XK), (∀ cls d H, E cls d H → E' cls d H) → spx_ans T C CN CPl vs H Q E → spx_ans T C CN CPl vs H Q E' := fun vs H Q E E' m h => by
  rcases h with ((h | h) | h) | h
  · exact .inl (.inl (.inl h))
  · obtain ⟨D, xs, os, o, e, dk, g, rd, h8, sz, hT, q1, q2, q3⟩ := h
    exact .inl (.inl (.inr ⟨D, xs, os, o, e, dk, g, rd, h8, sz, hT, q1, fun z H' e a b c => m _ _ _ (q2 z H' e a b c), fun n z fb H' e a b c => m _ _ _ (q3 n z fb H' e a b c)⟩))
  · exact .inl (.inr h)
  · obtain ⟨D, xs, os, n, e, hn, dk, h8, hT, q1, q2⟩ := h
    exact .inr ⟨D, xs, os, n, e, hn, dk, h8, hT, q1, fun z H' a => m _ _ _ (q2 z H' a)⟩
theorem ans_monoQ {T : List Addr} {C CN CPl : Addr} : ∀ vs H (Q Q' : VK) (E : XK), (∀ v H, Q v H → Q' v H) → spx_ans T C CN CPl vs H Q E → spx_ans T C CN CPl vs H Q' E := fun vs H Q Q' E m h => by
  rcases h with ((h | h) | h) | h
  · obtain ⟨D, dx, S, nv, xs, e, hD, g, ne, hT, q⟩ := h
    exact .inl (.inl (.inl ⟨D, dx, S, nv, xs, e, hD, g, ne, hT, fun H' c f => m _ _ (q H' c f)⟩))
  · obtain ⟨D, xs, os, o, e, dk, g, rd, h8, sz, hT, q1, q2, q3⟩ := h
    exact .inl (.inl (.inr ⟨D, xs, os, o, e, dk, g, rd, h8, sz, hT, fun a b H' c f => m _ _ (q1 a b H' c f), q2, q3⟩))
  · obtain ⟨D, xs, os, tx, e, dk, ok, hT, q⟩ := h
    exact .inl (.inr ⟨D, xs, os, tx, e, dk, ok, hT, fun H' c => m _ _ (q H' c)⟩)
  · obtain ⟨D, xs, os, n, e, hn, dk, h8, hT, q1, q2⟩ := h
    exact .inr ⟨D, xs, os, n, e, hn, dk, h8, hT, fun z H' c f => m _ _ (q1 z H' c f), q2⟩
structure DeskSt (C : Addr) (Z : List Addr) (D O : Addr) (xs : List Str) (os : List Ofr) (H : Hp) : Prop where
  own : ∃ A S, H O = some (.lst [.ref A, .ref S]) ∧ ∀ e ∈ Z, OwnE H e A S xs os
  desk : (xs = [] ∧ os = [] ∧ ∃ dx S', H D = some (.ins C dx (deskF .non S'))) ∨ (xs ≠ [] ∧ ∀ e ∈ Z, DeskAt C (cutH e H) D xs os)
  g : GoodN xs
  gd : Good os
  off : ∀ o ∈ os, OffX xs.length o
theorem OffX.fitO {m : Nat} : ∀ {o : Ofr}, OffX m o → FitO m o
  | .pack _ _, h => h
  | .many _ _, ⟨h1, h2, h3⟩ => ⟨h1, h2, fun t ht => ⟨(h3.each t ht).2.2.1, (h3.each t ht).2.2.2⟩⟩
  | .add _ _ _, ⟨h1, h2, h3, h4, _⟩ => ⟨h1, h2, h3, h4⟩
theorem DeskSt.ok {C : Addr} {Z : List Addr} {D O : Addr} {xs : List Str} {os : List Ofr} {H : Hp} (h : DeskSt C Z D O xs os H) (ne : xs ≠ []) : DeskOk xs os := ⟨h.g, ne, h.gd, fun o ho => (h.off o ho).fitO⟩
theorem OwnE.ke {H H' : Hp} {e A S : Addr} {xs : List Str} {os : List Ofr} (k : Ke H H') (h : OwnE H e A S xs os) : OwnE H' e A S xs os := ⟨k.cut.lst h.1, h.2.ke k.cut⟩
theorem DeskSt.ke {C : Addr} {Z : List Addr} {D O : Addr} {xs : List Str} {os : List Ofr} {H H' : Hp} (k : Ke H H') (h : DeskSt C Z D O xs os H) : DeskSt C Z D O xs os H' := by
  obtain ⟨A, S, h1, h2⟩ := h.own
  refine ⟨⟨A, S, k.lst h1, fun e he => (h2 e he).ke k⟩, ?_, h.g, h.gd, h.off⟩
  rcases h.desk with ⟨a, b, dx, S', c⟩ | ⟨a, b⟩
  · exact .inl ⟨a, b, dx, S', k _ _ c (fun _ z => nomatch z)⟩
  · exact .inr ⟨a, fun e he => (b e he).ke k.cut⟩
def sp_seen (T : List Addr) (C : Addr) : Sp := fun vs H Q _ => ∃ (Z : List Addr) (D O d : Addr) (xs : List Str) (os : List Ofr), vs = [.ref D, .ref O] ∧ DeskSt C Z D O xs os H ∧ d ∈ Z ∧ Tb T H ∧ ∀ H', Ext T H H' → Q (.bl true) H'
section
variable {P : Program} {w : World} {K : PySem.W.Frag} {mg : Str → Option Value} {base : Heap} {T : List Addr} {C cl CN cp ct ch CP : Addr}
theorem ok_seen {f f1 f2 : Addr} {fd fd1 fd2 : FuncData} {k : Nat} (M : Names mg) (OT : OneOf K cl CN cp ct ch CP ch 4) (D : Def K mg "_law_seen" s_law_seen ["_law_desk", "_law_own"] f fd) (D_law_says : Def K mg "_law_says" s_law_says ["_law_desk", "_law_line"] f1 fd1) (G_law_says : FnOk P w K mg base CX0 k f1 fd1 ["_law_desk", "_law_line"] (sp_says K (spx_ans T C CN cp) C cl CN cp ct ch CP))
    (D_law_shop_text : Def K mg "_law_shop_text" s_law_shop_text ["_law_names_here", "_law_shop"] f2 fd2) (G_law_shop_text : FnOk P w K mg base CX0 k f2 fd2 ["_law_names_here", "_law_shop"] sp_shop_text) : FnOk P w K mg base CX0 (k + 1) f fd ["_law_desk", "_law_own"] (sp_seen T C) := by
  refine D.F.ok sc_law_seen (fun vs H Q E h => ?_) (fun cdv A outer s H vs Q E hr h => ?_)
  · obtain ⟨Z, D, O, d, xs, os, rfl, _⟩ := h
    rfl
  · obtain ⟨Z, D, O, d, xs, os, rfl, st, hdZ, hT, q⟩ := h
    obtain ⟨A0, S, hO, ow⟩ := id st.own
    obtain ⟨hAc, hSc⟩ := ow d hdZ
    have hA := (cut_some hAc).2
    have hS : ShopAt H S os := hSc.same cut_le
    have h8 := st.gd.1
    refine ⟨_, (pss_cons (ps_set (i := 2) sc_law_seen.nd rfl (Or.inl rfl) (pe_lst (pa_cons pe_str (pa_cons pe_str pa_nil))))
  (pss_cutI (ps_if (pt_cmpR (op_neD hr.units) (pe_ix ix_list (pv 1) pe_int (fun _ _ => rfl)) (pe_lst pa_nil) (nomark _))
   (pss_one (ps_set (i := 2) sc_law_seen.nd rfl (Or.inl rfl) (pe_lst (pa_cons (pe_call G_law_shop_text hr (by rfl) D_law_shop_text.g D_law_shop_text.F.kp D_law_shop_text.b .nil pass0 (pa_cons (pe_ix ix_list (pv 1) pe_int (fun _ _ => rfl)) (pa_cons (pe_ix ix_list (pv 1) pe_int (fun _ _ => rfl)) pa_nil))) pa_nil))))
   pss_nil)
  (pss_one (ps_ret (pe_cmpR (op_eqD hr.units) (pe_call G_law_says hr (by rfl) D_law_says.g D_law_says.F.kp D_law_says.b .nil pass0 (pa_cons (pv 0) (pa_cons pe_str pa_nil))) (pv 2) (nomark _)))))), ?_⟩
    refine ⟨by show 2 ≤ sizeLine; decide, fun u nu => ?_⟩
    have s1 := same_upd (o := .lst [.str "things", .str ""]) nu
    have hu : upd H u (.lst [.str "things", .str ""]) u = some (LS ["things", ""]) := upd_same
    generalize upd H u (.lst [.str "things", .str ""]) = H1 at s1 hu ⊢
    refine ⟨fun σ' H' => ∃ u' : Addr, ∃ us : List Str, σ' = [some (.ref D), some (.ref O), some (.ref u')] ∧ Same H H' ∧ H' u' = some (LS us) ∧ us = (if xs = [] then (["things", ""] : List Str) else [shopS xs os]), ?_, fun σ' H' hI => ?_⟩
    · refine ⟨_, rfl, O, _, _, _, rfl, rfl, SqL.of (s1 _ _ hO), atI_nat (j := 0) rfl, Nat.zero_le _, fun e ne => ?_⟩
      have s2 := s1.trans (same_upd (o := .lst []) ne)
      have hu2 := (same_upd (o := .lst []) ne) _ _ hu
      have he : upd H1 e (.lst []) e = some (.lst []) := upd_same
      generalize upd H1 e (.lst []) = H2 at s2 hu2 he ⊢
      refine ⟨_, .list [], dp_strs (SqL.of (s2 _ _ hA)), .lst (SqL.of he) .nil, shaped_strs st.g.signs, by decide +kernel, ?_⟩
      rw [eqv_nil_strs]
      by_cases xe : xs = []
      · refine ⟨false, by rw [decide_eq_true xe]; rfl, ?_⟩
        exact ⟨u, _, rfl, s2, hu2, by rw [if_pos xe]⟩
      · refine ⟨true, by rw [decide_eq_false xe]; rfl, ?_⟩
        refine ⟨_, rfl, O, _, _, _, rfl, rfl, SqL.of (s2 _ _ hO), atI_nat (j := 0) rfl, _, rfl, O, _, _, _, rfl, rfl, SqL.of (s2 _ _ hO), atI_nat (j := 1) rfl, A0, S, xs, os, rfl, s2 _ _ hA, hS.same s2, st.g, fun o ho => ((st.off o ho).fit rfl).1, h8, fun H3 s3 => ⟨by show 1 ≤ sizeLine; decide, fun u2 nu2 => ?_⟩⟩
        exact ⟨u2, [shopS xs os], rfl, (s2.trans s3).trans (same_upd nu2), upd_same, by rw [if_neg xe]⟩
    obtain ⟨u', us, rfl, s2, hu2, eu⟩ := hI
    have E2 : Ext T H H' := .same s2 hT
    have st2 := st.ke E2.ke
    have pt : Txt.partition ("shop" : Str) (" " : Str) = (("shop" : Str), Str.empty, Str.empty) := by decide +kernel
    have last : ∀ (H3 : Hp) (p : Addr), Ext T H H3 → H3 u' = some (LS us) → H3 p = some (LS us) → (∀ x ∈ us, Signs x) → Q (.bl (PyData.eqv (.list (us.map PyData.str)) (.list (us.map PyData.str)))) H3 := fun H3 p e _ _ sg => by
      rw [eqv_self (shaped_strs sg)]
      exact q H3 e
    rcases st2.desk with ⟨xe, oe, dx, S', hD⟩ | ⟨xe, dks⟩
    · rw [if_pos xe] at eu
      subst eu
      have sg : ∀ x ∈ (["things", ""] : List Str), Signs x := fun x hx => by
        simp only [List.mem_cons, List.not_mem_nil, or_false] at hx
        rcases hx with rfl | rfl
        · exact word_signs.2.2.2.2.2.2.2.1
        · exact word_signs.2.2.2.2.2.2.2.2
      refine ⟨_, rfl, D, "shop", rfl, ?_⟩
      refine ⟨D, dx, S', .non, "shop", "shop", Str.empty, Str.empty, rfl, hD, pt, by decide +kernel, by decide +kernel, .inl ⟨rfl, by decide +kernel, by decide +kernel, fun H3 s3 => ⟨ch, 4, rfl, OT, .inr ⟨by decide, rfl, fun H4 p s4 np hp => ?_⟩⟩⟩⟩
      have s34 := s3.trans s4
      refine ⟨_, rfl, _, _, dp_strs (xs := ["things", ""]) (SqL.of hp), dp_strs (SqL.of (s34 _ _ hu2)), shaped_strs sg, shaped_strs sg, ?_⟩
      exact last H4 p (E2.trans (.same s34 E2.t1)) (s34 _ _ hu2) hp sg
    · rw [if_neg xe] at eu
      subst eu
      have sg : ∀ x ∈ [shopS xs os], Signs x := fun x hx => by
        rw [List.mem_singleton.mp hx]
        exact shop_signs st.g os
      have dk := (dks d hdZ).all
      obtain ⟨dx, na, Sd, hD, _, _⟩ := id dk
      refine ⟨_, rfl, D, "shop", rfl, ?_⟩
      refine ⟨D, dx, Sd, .ref na, "shop", "shop", Str.empty, Str.empty, rfl, hD, pt, by decide +kernel, by decide +kernel, .inr ⟨(fun z => nomatch z), fun _ => rfl, fun H3 s3 => .inl (.inr ⟨D, xs, os, _, rfl, dk.ke (.of s3), st.ok xe, tb_same s3 E2.t1, fun H4 e4 => ⟨_, rfl, fun p np => ?_⟩⟩)⟩⟩
      have E4 : Ext T H' H4 := (Ext.same s3 E2.t1).trans e4
      have hu4 := E4.lst hu2
      have s5 := same_upd (o := .lst [.str (shopS xs os)]) np
      refine ⟨_, rfl, _, _, dp_strs (xs := [shopS xs os]) (SqL.of upd_same), dp_strs (SqL.of (s5 _ _ hu4)), shaped_strs sg, shaped_strs sg, ?_⟩
      exact last _ p (E2.trans (E4.trans (.same s5 E4.t1))) (s5 _ _ hu4) upd_same sg
end
/-! ### offers that can stand: goodB and firstBad against Good -/
theorem good_tiers_true {ts : List (Int × Int)} (g : GoodT ts) : goodB ts = true := by
  have pos := g.pos
  have few := g.few
  have lb : (begs ts).length = ts.length := List.length_map ..
  have gb : ∀ (i : Nat) t, ts[i]? = some t → (begs ts).getD i 0 = t.1 := fun i t h => by
    unfold begs
    rw [List.getD_eq_getElem?_getD, List.getElem?_map, h]
    rfl
  have at_ : ∀ i, i < ts.length → ∃ t, ts[i]? = some t ∧ (begs ts).getD i 0 = t.1 := fun i hi => ⟨_, List.getElem?_eq_getElem hi, gb i _ (List.getElem?_eq_getElem hi)⟩
  obtain ⟨t0, h0, e0⟩ := at_ 0 (by omega)
  obtain ⟨t1, h1, e1⟩ := at_ (ts.length - 1) (by omega)
  have one := g.one t0 h0
  have most := g.most t1 (List.mem_of_getElem? h1)
  unfold goodB
  rw [decide_eq_true pos, decide_eq_true few, e0, decide_eq_true one, e1, decide_eq_true most, Bool.true_and, Bool.true_and, Bool.true_and, Bool.true_and]
  unfold riseB
  rw [List.all_eq_true]
  intro i hi
  have hi2 := List.mem_range.mp hi
  rw [List.length_drop, lb] at hi2
  obtain ⟨a, ha, ea⟩ := at_ i (by omega)
  obtain ⟨b, hb, eb⟩ := at_ (i + 1) (by omega)
  have := g.rise i a b ha hb
  refine decide_eq_true ?_
  have e : ((begs ts).drop 1).getD i 0 = (begs ts).getD (i + 1) 0 := by
    rw [List.getD_eq_getElem?_getD, List.getElem?_drop, Nat.add_comm 1 i, ← List.getD_eq_getElem?_getD]
  rw [ea, e, eb]
  exact this
theorem good_stand {os : List Ofr} {i : Nat} : ∀ {o : Ofr}, GoodO os i o → standO os i o = true
  | .pack _ _, _ => rfl
  | .many _ ts, h => good_tiers_true h
  | .add _ _ _, ⟨j, e, hj, c, p, h⟩ => by
    show namesB os i _ = true
    subst e
    unfold namesB packB
    rw [Int.toNat_natCast, h, decide_eq_true (by omega), decide_eq_true (by omega)]
    rfl
theorem packB_pre {os : List Ofr} {o : Ofr} {j k : Nat} (hk : k < j) (hj : j ≤ os.length) : packB (os.take j ++ [o]) k = packB os k := by
  unfold packB
  rw [List.getElem?_append_left (by rw [List.length_take]; omega), List.getElem?_take, if_pos hk]
theorem standB_pre {os : List Ofr} (g : Good os) {o : Ofr} {i j : Nat} (hi : i < j) (hj : j ≤ os.length) : standB (os.take j ++ [o]) i = true := by
  have h := List.getElem?_eq_getElem (show i < os.length by omega)
  have h' : (os.take j ++ [o])[i]? = some os[i] := by rw [List.getElem?_append_left (by rw [List.length_take]; omega), List.getElem?_take, if_pos hi, h]
  rw [standB_at h']
  have gs := good_stand (g.2 i _ h)
  cases e : os[i] with
  | pack c p => rfl
  | many c ts => rw [e] at gs; exact gs
  | add c p k =>
    rw [e] at gs
    have gs' : namesB os i k = true := gs
    show namesB (os.take j ++ [o]) i k = true
    unfold namesB at gs' ⊢
    rw [Bool.and_eq_true, Bool.and_eq_true] at gs' ⊢
    obtain ⟨⟨g1, g2⟩, g3⟩ := gs'
    have g1' := of_decide_eq_true g1
    have g2' := of_decide_eq_true g2
    refine ⟨⟨g1, g2⟩, ?_⟩
    rw [packB_pre (by omega) hj]
    exact g3
theorem first_pre {os : List Ofr} (g : Good os) {o : Ofr} {j : Nat} (hj : j ≤ os.length) (hb : standO (os.take j ++ [o]) j o = false) : firstBad (os.take j ++ [o]) = some j := by
  refine find_range_some (by rw [List.length_append, List.length_take]; show j < min j os.length + 1; omega) (fun i hi => by rw [standB_pre g hi hj]; rfl) ?_
  rw [standB_at (o := o) (by rw [List.getElem?_append_right (by rw [List.length_take]; omega), List.length_take, Nat.min_eq_left hj, Nat.sub_self]; rfl), hb]
  rfl
theorem goodB_good {ts : List (Int × Int)} (h : goodB ts = true) : GoodT ts := by
  unfold goodB at h
  rw [Bool.and_eq_true, Bool.and_eq_true, Bool.and_eq_true, Bool.and_eq_true] at h
  obtain ⟨⟨⟨⟨h1, h2⟩, h3⟩, h4⟩, h5⟩ := h
  have pos := of_decide_eq_true h1
  have few := of_decide_eq_true h2
  have one := of_decide_eq_true h3
  have last := of_decide_eq_true h4
  have lb : (begs ts).length = ts.length := List.length_map ..
  have gb : ∀ (i : Nat) t, ts[i]? = some t → (begs ts).getD i 0 = t.1 := fun i t h => by
    unfold begs
    rw [List.getD_eq_getElem?_getD, List.getElem?_map, h]
    rfl
  have rise : ∀ (i : Nat) a b, ts[i]? = some a → ts[i + 1]? = some b → a.1 < b.1 := fun i a b ha hb => by
    unfold riseB at h5
    rw [List.all_eq_true] at h5
    have hi : i + 1 < ts.length := (List.getElem?_eq_some_iff.mp hb).1
    have := of_decide_eq_true (h5 i (List.mem_range.mpr (by rw [List.length_drop, lb]; omega)))
    have e : ((begs ts).drop 1).getD i 0 = (begs ts).getD (i + 1) 0 := by
      rw [List.getD_eq_getElem?_getD, List.getElem?_drop, Nat.add_comm 1 i, ← List.getD_eq_getElem?_getD]
    rw [e, gb i a ha, gb (i + 1) b hb] at this
    exact this
  refine ⟨pos, few, fun t ht => by rw [gb 0 t ht] at one; exact one, fun t ht => ?_, rise⟩
  obtain ⟨i, hi, e⟩ := List.getElem_of_mem ht
  have main : ∀ k i t, i + k = ts.length - 1 → ts[i]? = some t → t.1 ≤ 12 := fun k => by
    induction k with
    | zero =>
      intro i t hk h
      rw [gb (ts.length - 1) t (by rw [← hk]; exact h)] at last
      exact last
    | succ k ih =>
      intro i t hk h
      have h' := List.getElem?_eq_getElem (show i + 1 < ts.length by omega)
      have l1 := ih (i + 1) _ (by omega) h'
      have l2 := rise i _ _ h h'
      omega
  exact main (ts.length - 1 - i) i t (by omega) (by rw [List.getElem?_eq_getElem hi, e])
theorem stand_good {os : List Ofr} {i : Nat} : ∀ {o : Ofr}, standO os i o = true → GoodO os i o
  | .pack _ _, _ => trivial
  | .many _ ts, h => goodB_good h
  | .add _ _ k, h => by
    have h' : namesB os i k = true := h
    unfold namesB packB at h'
    rw [Bool.and_eq_true, Bool.and_eq_true] at h'
    obtain ⟨⟨h1, h2⟩, h3⟩ := h'
    have p1 := of_decide_eq_true h1
    have p2 := of_decide_eq_true h2
    refine ⟨k.toNat, by omega, by omega, ?_⟩
    cases e : os[k.toNat]? with
    | none => rw [e] at h3; cases h3
    | some o =>
      cases o with
      | pack c p => exact ⟨c, p, rfl⟩
      | many c ts => rw [e] at h3; cases h3
      | add c p k => rw [e] at h3; cases h3
theorem GoodO.app {os : List Ofr} {i : Nat} {o' : Ofr} : ∀ {o : Ofr}, GoodO os i o → GoodO (os ++ [o']) i o
  | .pack _ _, _ => trivial
  | .many _ _, h => h
  | .add _ _ _, ⟨j, e, hj, c, p, h⟩ => ⟨j, e, hj, c, p, by rw [List.getElem?_append_left (List.getElem?_eq_some_iff.mp h).1]; exact h⟩
theorem Good.app {os : List Ofr} {o : Ofr} (g : Good os) (h : gOf os o = true) : Good (os ++ [o]) := by
  unfold gOf at h
  rw [Bool.and_eq_true] at h
  have l := of_decide_eq_true h.1
  refine ⟨by rw [List.length_append]; show os.length + 1 ≤ 8; omega, fun i x hx => ?_⟩
  by_cases hi : i < os.length
  · rw [List.getElem?_append_left hi] at hx
    exact (g.2 i x hx).app
  · rw [List.getElem?_append_right (by omega)] at hx
    cases e : i - os.length with
    | succ k => rw [e] at hx; cases hx
    | zero =>
      rw [e] at hx
      cases Option.some.inj hx
      have : i = os.length := by omega
      subst this
      exact (stand_good h.2).app
theorem Good.take {os : List Ofr} (g : Good os) (n : Nat) : Good (os.take n) := by
  refine ⟨by rw [List.length_take]; have := g.1; omega, fun i x hx => ?_⟩
  rw [List.getElem?_take] at hx
  by_cases hi : i < n
  · rw [if_pos hi] at hx
    have h := g.2 i x hx
    cases x with
    | pack c p => trivial
    | many c ts => exact h
    | add c p k =>
      obtain ⟨j, e, hj, c', p', h'⟩ := h
      exact ⟨j, e, hj, c', p', by rw [List.getElem?_take, if_pos (by omega)]; exact h'⟩
  · rw [if_neg hi] at hx
    cases hx
theorem Good.dropLast {os : List Ofr} (g : Good os) : Good os.dropLast := by
  rw [List.dropLast_eq_take]
  exact g.take _
theorem stand_app {os : List Ofr} {o' : Ofr} : ∀ {o : Ofr}, standO (os ++ [o']) os.length o = standO os os.length o
  | .pack _ _ => rfl
  | .many _ _ => rfl
  | .add _ _ k => by
    show namesB _ _ _ = namesB _ _ _
    unfold namesB
    by_cases h1 : 0 ≤ k
    · by_cases h2 : k < (os.length : Int)
      · unfold packB
        rw [List.getElem?_append_left (by omega)]
      · rw [decide_eq_false h2, Bool.and_false, Bool.false_and, Bool.false_and]
    · rw [decide_eq_false h1, Bool.false_and, Bool.false_and, Bool.false_and]
theorem first_bad {os : List Ofr} (g : Good os) {o : Ofr} (h : gOf os o = false) (l : os.length < 8) : firstBad (os ++ [o]) = some os.length := by
  unfold gOf at h
  rw [decide_eq_true l, Bool.true_and] at h
  have := first_pre g (o := o) (j := os.length) (Nat.le_refl _) (by rw [List.take_length, stand_app]; exact h)
  rwa [List.take_length] at this
theorem first_good {os : List Ofr} (g : Good os) {o : Ofr} (h : gOf os o = true) : firstBad (os ++ [o]) = none ∧ os.length < 8 := by
  have g' := g.app h
  refine ⟨find_range_none fun i hi => ?_, by have := g'.1; rw [List.length_append] at this; exact this⟩
  have e := List.getElem?_eq_getElem hi
  rw [standB_at e, good_stand (g'.2 i _ e)]
  rfl
theorem OffX.size {m : Nat} : ∀ {o : Ofr}, OffX m o → ∀ c ts, o = .many c ts → ts.length ≤ 1000
  | .pack _ _, _, _, _, e => by cases e
  | .add _ _ _, _, _, _, e => by cases e
  | .many _ _, ⟨_, _, h⟩, _, _, e => by
    cases e
    have := h.few
    omega
/-! ### what a turn's line is told -/
theorem say_part {v u : Str} (e : v = u ++ (" " : Str)) (h : 32 ∉ TL.tl u) (t : Str) : Txt.partition (v ++ t) (" " : Str) = (u, (" " : Str), t) := by
  subst e
  exact TL.partition_app tl_blank h
theorem same_chg {T : List Addr} {D : Addr} {H H1 H2 : Hp} (s : Same H H1) (hT : Tb T H) (c : Chg T D H1 H2) : Chg T D H H2 := (Chg.ext (.same s hT)).trans c
def DeskZ (C : Addr) (Z : List Addr) (D : Addr) (xs : List Str) (os : List Ofr) (H : Hp) : Prop := (xs = [] ∧ os = [] ∧ ∃ dx S', H D = some (.ins C dx (deskF .non S'))) ∨ (xs ≠ [] ∧ ∀ e ∈ Z, DeskAt C (cutH e H) D xs os)
theorem DeskZ.ke {C : Addr} {Z : List Addr} {D : Addr} {xs : List Str} {os : List Ofr} {H H' : Hp} (k : Ke H H') (h : DeskZ C Z D xs os H) : DeskZ C Z D xs os H' := by
  rcases h with ⟨a, b, dx, S', c⟩ | ⟨a, b⟩
  · exact .inl ⟨a, b, dx, S', k _ _ c (fun _ z => nomatch z)⟩
  · exact .inr ⟨a, fun e he => (b e he).ke k.cut⟩
theorem DeskZ.ins {C : Addr} {Z : List Addr} {D d : Addr} {xs : List Str} {os : List Ofr} {H : Hp} (hd : d ∈ Z) (h : DeskZ C Z D xs os H) : ∃ dx nv S, H D = some (.ins C dx (deskF nv S)) := by
  rcases h with ⟨_, _, dx, S', c⟩ | ⟨_, b⟩
  · exact ⟨dx, _, S', c⟩
  · obtain ⟨dx, na, S, c, _⟩ := (b d hd).all
    exact ⟨dx, _, S, c⟩
section
variable {K : PySem.W.Frag} {T Z : List Addr} {C cl CN cp ct ch CP D d : Addr} {xs xs' : List Str} {os os' : List Ofr} {line : Str} {due : List V} {H : Hp} {Q : VK} {E : XK}
theorem says_turn (h : Turn xs os line due xs' os') (dk : DeskZ C Z D xs os H) (g : GoodN xs) (gd : Good os) (off : ∀ o ∈ os, OffX xs.length o) (hT : Tb T H) (hdZ : d ∈ Z) (hZ : ∀ e ∈ Z, ∃ ds, H e = some (.lst ds))
    (ON : OneOf K cl CN cp ct ch CP CN 1) (OP : OneOf K cl CN cp ct ch CP cp 2) (OT : OneOf K cl CN cp ct ch CP ch 4)
    (xN : PySem.W.exmOne K (.ref CN) (.ref ct) = some false) (xP : PySem.W.exmOne K (.ref cp) (.ref ct) = some false)
    (q : ∀ r H', H r = none → H' r = some (.lst due) → Chg T D H H' → DeskZ C Z D xs' os' H' → Q (.ref r) H') :
    sp_says K (spx_ans T C CN cp) C cl CN cp ct ch CP [.ref D, .str line] H Q E := by
  obtain ⟨dx0, nv0, S0, hD0⟩ := dk.ins hdZ
  have okv : ∀ {H2 : Hp} {t : Str}, due = [.str t] → Chg T D H H2 → DeskZ C Z D xs' os' H2 → ∃ t' : Str, V.str t = .str t' ∧ ∀ p, H2 p = none → Q (.ref p) (upd H2 p (.lst [.str t'])) := fun {H2 t} ed c z => by
    refine ⟨t, rfl, fun p np => ?_⟩
    have s := same_upd (o := .lst [.str t]) np
    exact q p _ (c.free p np) (by rw [ed]; exact upd_same) (c.trans (.ext (.same s c.t1))) (z.ke (.of s))
  cases h with
  | things xs2 g2 ne2 =>
    have l := names_len g2
    have l2 : ("things " : Str).length = 7 := by decide +kernel
    refine ⟨D, _, rfl, D, dx0, S0, nv0, _, "things", (" " : Str), namesS xs', rfl, hD0, say_part (by decide +kernel) (by decide +kernel) _, by rw [str_len_app]; omega, by decide +kernel, .inr ⟨fun _ => rfl, fun z => absurd z (by decide +kernel), fun H1 s => ?_⟩⟩
    refine .inl (.inl (.inl ⟨D, dx0, S0, nv0, xs', rfl, s _ _ hD0, g2, ne2, tb_same s hT, fun H2 c h2 => ?_⟩))
    refine okv rfl (same_chg s hT c) (.inr ⟨ne2, fun e he => ?_⟩)
    obtain ⟨ds, hds⟩ := hZ e he
    exact h2 e ds (s _ _ hds)
  | non _ xe mem =>
    rcases id dk with ⟨_, _, dx, S', hD⟩ | ⟨a, _⟩
    · have main : ∀ word bl tx : Str, Txt.partition line (" " : Str) = (word, bl, tx) → line.length ≤ 100000 → word ∈ wordsL → word ≠ ("things" : Str) → (reprText line).length ≤ 90000 → sp_says K (spx_ans T C CN cp) C cl CN cp ct ch CP [.ref D, .str line] H Q E := fun word bl tx hp hl hw nw hr => by
        refine ⟨D, _, rfl, D, dx, S', _, _, word, bl, tx, rfl, hD, hp, hl, hw, .inl ⟨rfl, nw, hr, fun H1 s => ⟨ch, 4, rfl, OT, .inr ⟨by decide, rfl, fun H3 p s3 np hp => ?_⟩⟩⟩⟩
        have E3 : Ext T H H3 := .same (s.trans s3) hT
        exact q p _ (s.free np) hp (.ext E3) (dk.ke E3.ke)
      simp only [List.mem_cons, List.not_mem_nil, or_false] at mem
      rcases mem with rfl | rfl | rfl | rfl | rfl
      · exact main "shop" Str.empty Str.empty (by decide +kernel) (by decide +kernel) (by decide +kernel) (by decide +kernel) (by decide +kernel)
      · exact main "drop" " " "0" (by decide +kernel) (by decide +kernel) (by decide +kernel) (by decide +kernel) (by decide +kernel)
      · exact main "spare" Str.empty Str.empty (by decide +kernel) (by decide +kernel) (by decide +kernel) (by decide +kernel) (by decide +kernel)
      · exact main "offer" " " "1 x for 5" (by decide +kernel) (by decide +kernel) (by decide +kernel) (by decide +kernel) (by decide +kernel)
      · exact main "cost" " " "nothing" (by decide +kernel) (by decide +kernel) (by decide +kernel) (by decide +kernel) (by decide +kernel)
    · exact absurd xe a
  | offer o xe fo hg =>
    rcases dk with ⟨a, _⟩ | ⟨_, dks⟩
    · exact absurd a xe
    have dk := (dks d hdZ).all
    obtain ⟨dx, na, S, hD, _, _⟩ := id dk
    have rd : ReadO xs o := fo.fit rfl
    have l := rd.1.len g
    have l2 : ("offer " : Str).length = 6 := by decide +kernel
    obtain ⟨fb, l8⟩ := first_good gd hg
    refine ⟨D, _, rfl, D, dx, S, _, _, "offer", (" " : Str), offerS xs o, rfl, hD, say_part (by decide +kernel) (by decide +kernel) _, by rw [str_len_app]; omega, by decide +kernel, .inr ⟨(fun z => nomatch z), fun z => absurd z (by decide +kernel), fun H1 s => ?_⟩⟩
    refine .inl (.inl (.inr ⟨D, xs, os, o, rfl, dk.ke (.of s), g, rd, gd.1, fun c ts hm => ?_, tb_same s hT, fun _ _ H2 c h2 => ?_, fun z => absurd z (by omega), fun n _ z => by rw [fb] at z; cases z⟩))
    · rcases List.mem_append.mp hm with hm | hm
      · exact (off _ hm).size c ts rfl
      · rw [List.mem_singleton] at hm
        exact fo.size c ts hm.symm
    · refine okv rfl (same_chg s hT c) (.inr ⟨xe, fun e he => ?_⟩)
      obtain ⟨ds, hds⟩ := hZ e he
      exact h2 e ds (s _ _ hds) ((dks e he).ke (.of (cut_mono s)))
  | bad o xe fo hg =>
    rcases id dk with ⟨a, _⟩ | ⟨_, dks⟩
    · exact absurd a xe
    have dk1 := (dks d hdZ).all
    obtain ⟨dx, na, S, hD, _, _⟩ := id dk1
    have rd : ReadO xs o := fo.fit rfl
    have l := rd.1.len g
    have l2 : ("offer " : Str).length = 6 := by decide +kernel
    have h8 := gd.1
    have out : ∀ {H1 H2 : Hp} {e : Addr} {n : Nat}, n = os.length → Same H H1 → Ext T H1 H2 → H1 e = none → H2 e = some (.xd [("place", .int (n : Nat))]) → PySem.W.exmOne K (.ref CN) (.ref ct) = some false ∧ ∃ (Da : Addr) (j : Nat), (Value.ref CN) = .ref Da ∧ OneOf K cl CN cp ct ch CP Da j ∧
        ((j = 1 ∧ Da = CN ∧ ∃ (e' : Addr) (n : Int), some e = some e' ∧ H2 e' = some (.xd [("place", .int n)]) ∧ ∀ H3 p, Same H2 H3 → H2 p = none → H3 p = some (.lst [.str "offer", .int n]) → Q (.ref p) H3) ∨
         (j ≠ 1 ∧ some e = none ∧ ∀ H3 p, Same H2 H3 → H2 p = none → H3 p = some (.lst [.str (kindW j), .str ""]) → Q (.ref p) H3)) := fun {H1 H2 e n} en s e2 ne he => by
      refine ⟨xN, CN, 1, rfl, ON, .inl ⟨rfl, rfl, e, _, rfl, he, fun H3 p s3 np hp => ?_⟩⟩
      have E3 : Ext T H H3 := ((Ext.same s hT).trans e2).trans (.same s3 e2.t1)
      exact q p _ (((Ext.same s hT).trans e2).free p np) (by rw [hp, en]) (.ext E3) (dk.ke E3.ke)
    refine ⟨D, _, rfl, D, dx, S, _, _, "offer", (" " : Str), offerS xs o, rfl, hD, say_part (by decide +kernel) (by decide +kernel) _, by rw [str_len_app]; omega, by decide +kernel, .inr ⟨(fun z => nomatch z), fun z => absurd z (by decide +kernel), fun H1 s => ?_⟩⟩
    refine .inl (.inl (.inr ⟨D, xs, os, o, rfl, dk1.ke (.of s), g, rd, gd.1, fun c ts hm => ?_, tb_same s hT, fun l8 fb => ?_, fun z H2 e e2 ne he => ?_, fun n l8 fb H2 e e2 ne he => ?_⟩))
    · rcases List.mem_append.mp hm with hm | hm
      · exact (off _ hm).size c ts rfl
      · rw [List.mem_singleton] at hm
        exact fo.size c ts hm.symm
    · rw [first_bad gd hg l8] at fb
      cases fb
    · exact out z.symm s e2 ne he
    · rw [first_bad gd hg l8] at fb
      exact out (Option.some.inj fb).symm s e2 ne he
  | drop n xe hn z =>
    rcases dk with ⟨a, _⟩ | ⟨_, dks⟩
    · exact absurd a xe
    have dk := (dks d hdZ).all
    obtain ⟨dx, na, S, hD, _, _⟩ := id dk
    have ln : (numS n).length ≤ 12 := num12 (by omega)
    have l2 : ("drop " : Str).length = 5 := by decide +kernel
    refine ⟨D, _, rfl, D, dx, S, _, _, "drop", (" " : Str), numS n, rfl, hD, say_part (by decide +kernel) (by decide +kernel) _, by rw [str_len_app]; omega, by decide +kernel, .inr ⟨(fun z => nomatch z), fun z => absurd z (by decide +kernel), fun H1 s => ?_⟩⟩
    refine .inr ⟨D, xs, os, n, rfl, hn, dk.ke (.of s), gd.1, tb_same s hT, fun _ H2 c h2 => ?_, fun nz => absurd z nz⟩
    refine okv rfl (same_chg s hT c) (.inr ⟨xe, fun e he => ?_⟩)
    obtain ⟨ds, hds⟩ := hZ e he
    exact h2 e ds (s _ _ hds) ((dks e he).ke (.of (cut_mono s)))
  | keep n xe hn z =>
    rcases id dk with ⟨a, _⟩ | ⟨_, dks⟩
    · exact absurd a xe
    have dk1 := (dks d hdZ).all
    obtain ⟨dx, na, S, hD, _, _⟩ := id dk1
    have ln : (numS n).length ≤ 12 := num12 (by omega)
    have l2 : ("drop " : Str).length = 5 := by decide +kernel
    refine ⟨D, _, rfl, D, dx, S, _, _, "drop", (" " : Str), numS n, rfl, hD, say_part (by decide +kernel) (by decide +kernel) _, by rw [str_len_app]; omega, by decide +kernel, .inr ⟨(fun z => nomatch z), fun z => absurd z (by decide +kernel), fun H1 s => ?_⟩⟩
    refine .inr ⟨D, xs, os, n, rfl, hn, dk1.ke (.of s), gd.1, tb_same s hT, fun y => absurd y z, fun _ H2 e2 => ?_⟩
    refine ⟨xP, cp, 2, rfl, OP, .inr ⟨by decide, rfl, fun H3 p s3 np hp => ?_⟩⟩
    have E3 : Ext T H H3 := ((Ext.same s hT).trans e2).trans (.same s3 e2.t1)
    exact q p _ (((Ext.same s hT).trans e2).free p np) hp (.ext E3) (dk.ke E3.ke)
end
/-! ### two desks and what the law keeps of each: what a change of one leaves of the other -/
theorem DeskAt.cut2 {C e d : Addr} {H : Hp} {D : Addr} {xs : List Str} {os : List Ofr} (h : DeskAt C (cutH e H) D xs os) (h' : DeskAt C (cutH d H) D xs os) : DeskAt C (cutH e (cutH d H)) D xs os := by
  obtain ⟨dx, na, S, g1, g2, g3⟩ := h
  obtain ⟨dx', na', S', g1', g2', g3'⟩ := h'
  obtain ⟨k1, k2⟩ := lst_both g1 g1'
  injection k2 with _ _ k2
  have e2 := k2
  unfold deskF at e2
  injection e2 with e3 e4
  injection e3 with _ e3
  injection e3 with e3
  injection e4 with e4 _
  injection e4 with _ e4
  injection e4 with e4
  subst e3
  subst e4
  exact ⟨dx, _, _, k1, (lst_both g2 g2').1, g3.cut2 g3'⟩
theorem DeskAt.but2 {C : Addr} {H H' : Hp} {d O e D : Addr} {xs : List Str} {os : List Ofr} (s : But2 d O H H') (hd : DeskAt C (cutH d H) D xs os) (hO : DeskAt C (cutH O H) D xs os) (he : DeskAt C (cutH e H) D xs os) : DeskAt C (cutH e H') D xs os := by
  have sw : ∀ {a b : Addr}, Same (cutH a (cutH b H)) (cutH b (cutH a H)) := fun {a b} c o h => by
    obtain ⟨n1, h⟩ := cut_some h
    obtain ⟨n2, h⟩ := cut_some h
    exact cut_put n2 (cut_put n1 h)
  have h1 : DeskAt C (cutH d (cutH e H)) D xs os := (he.cut2 hd).ke (.of sw)
  have h2 : DeskAt C (cutH O (cutH e H)) D xs os := (he.cut2 hO).ke (.of sw)
  refine (DeskAt.cut2 h1 h2).ke fun b o h _ => ?_
  obtain ⟨n1, h⟩ := cut_some h
  obtain ⟨n2, h⟩ := cut_some h
  obtain ⟨n3, h⟩ := cut_some h
  exact cut_put n3 (s b o n1 n2 h)
theorem DeskZ.but2 {C : Addr} {Z : List Addr} {H H' : Hp} {d O D : Addr} {ds dO : List V} {xs : List Str} {os : List Ofr} (s : But2 d O H H') (hd : H d = some (.lst ds)) (hO : H O = some (.lst dO)) (dz : d ∈ Z) (Oz : O ∈ Z) (h : DeskZ C Z D xs os H) : DeskZ C Z D xs os H' := by
  rcases h with ⟨a, b, dx, S', c⟩ | ⟨a, b⟩
  · exact .inl ⟨a, b, dx, S', s _ _ (fun z => by rw [z, hd] at c; cases c) (fun z => by rw [z, hO] at c; cases c) c⟩
  · exact .inr ⟨a, fun e he => .but2 s (b d dz) (b O Oz) (b e he)⟩
theorem DeskAt.chg {T : List Addr} {C D2 dx2 : Addr} {fs : List (Str × V)} {H H' : Hp} {e D : Addr} {ds : List V} {xs : List Str} {os : List Ofr} (c : Chg T D2 H H') (n : D ≠ D2) (hD2 : H D2 = some (.ins C dx2 fs)) (he : H e = some (.lst ds)) (h : DeskAt C (cutH e H) D xs os) : DeskAt C (cutH e H') D xs os := by
  obtain ⟨dx, na, S, g1, g2, g3⟩ := h
  have ne : D2 ≠ e := fun z => by rw [z, he] at hD2; cases hD2
  obtain ⟨n1, g1⟩ := cut_some g1
  obtain ⟨n2, g2⟩ := cut_some g2
  refine ⟨dx, na, S, cut_put n1 (c.ke _ _ n g1 (fun _ z => nomatch z)), cut_put n2 (c.lst (fun z => by rw [z, hD2] at g2; cases g2) g2), (g3.offI (cut_put ne hD2)).ke fun b o h m => ?_⟩
  obtain ⟨m1, h⟩ := cut_some h
  obtain ⟨m2, h⟩ := cut_some h
  exact cut_put m2 (c.ke b o m1 h m)
theorem OwnE.chg {T : List Addr} {C D2 dx2 : Addr} {fs : List (Str × V)} {H H' : Hp} {e A S : Addr} {ds : List V} {xs : List Str} {os : List Ofr} (c : Chg T D2 H H') (hD2 : H D2 = some (.ins C dx2 fs)) (he : H e = some (.lst ds)) (h : OwnE H e A S xs os) : OwnE H' e A S xs os := by
  obtain ⟨g2, g3⟩ := h
  have ne : D2 ≠ e := fun z => by rw [z, he] at hD2; cases hD2
  obtain ⟨n2, g2⟩ := cut_some g2
  refine ⟨cut_put n2 (c.lst (fun z => by rw [z, hD2] at g2; cases g2) g2), (g3.offI (cut_put ne hD2)).ke fun b o h m => ?_⟩
  obtain ⟨m1, h⟩ := cut_some h
  obtain ⟨m2, h⟩ := cut_some h
  exact cut_put m2 (c.ke b o m1 h m)
theorem DeskZ.chg {T : List Addr} {C D2 dx2 : Addr} {fs : List (Str × V)} {Z : List Addr} {H H' : Hp} {D : Addr} {xs : List Str} {os : List Ofr} (c : Chg T D2 H H') (n : D ≠ D2) (hD2 : H D2 = some (.ins C dx2 fs)) (hZ : ∀ e ∈ Z, ∃ ds, H e = some (.lst ds)) (h : DeskZ C Z D xs os H) : DeskZ C Z D xs os H' := by
  rcases h with ⟨a, b, dx, S', k⟩ | ⟨a, b⟩
  · exact .inl ⟨a, b, dx, S', c.ke _ _ n k (fun _ z => nomatch z)⟩
  · exact .inr ⟨a, fun e he => by
      obtain ⟨ds, hds⟩ := hZ e he
      exact (b e he).chg c n hD2 hds⟩
theorem Turn.stay {xs xs' : List Str} {os os' : List Ofr} {line : Str} {due : List V} (h : Turn xs os line due xs' os') (g : GoodN xs) (gd : Good os) (off : ∀ o ∈ os, OffX xs.length o) : GoodN xs' ∧ Good os' ∧ ∀ o ∈ os', OffX xs'.length o := by
  cases h with
  | things xs' g' ne => exact ⟨g', ⟨by decide, fun i o h => by cases h⟩, fun o h => by cases h⟩
  | non _ _ _ => exact ⟨g, gd, off⟩
  | offer o xe fo hg => exact ⟨g, gd.app hg, fun o' h => by
      rcases List.mem_append.mp h with h | h
      · exact off o' h
      · rw [List.mem_singleton.mp h]
        exact fo⟩
  | bad _ _ _ _ => exact ⟨g, gd, off⟩
  | drop _ _ _ _ => exact ⟨g, gd.dropLast, fun o h => off o (List.mem_of_mem_take (by rw [← List.dropLast_eq_take]; exact h))⟩
  | keep _ _ _ _ => exact ⟨g, gd, off⟩
/-- what is told is what is due, when both lists are compared -/
theorem Turn.due {xs xs' : List Str} {os os' : List Ofr} {line : Str} {due : List V} (h : Turn xs os line due xs' os') (gd : os.length ≤ 8) : (∃ us : List Str, due = us.map V.str ∧ ∀ u ∈ us, Signs u) ∨ due = [.str "offer", .int (os.length : Nat)] := by
  have ok : ∃ us : List Str, ([.str "ok"] : List V) = us.map V.str ∧ ∀ u ∈ us, Signs u := ⟨["ok"], rfl, fun u hu => by
    rw [List.mem_singleton.mp hu]
    unfold Signs
    decide +kernel⟩
  cases h with
  | things xs' g' ne => exact .inl ok
  | non _ _ _ => exact .inl ⟨["things", ""], rfl, fun u hu => by
      simp only [List.mem_cons, List.not_mem_nil, or_false] at hu
      rcases hu with rfl | rfl
      · exact word_signs.2.2.2.2.2.2.2.1
      · exact word_signs.2.2.2.2.2.2.2.2⟩
  | offer o xe fo hg => exact .inl ok
  | bad _ _ _ _ => exact .inr rfl
  | drop _ _ _ _ => exact .inl ok
  | keep _ _ _ _ => exact .inl ⟨["place", ""], rfl, fun u hu => by
      simp only [List.mem_cons, List.not_mem_nil, or_false] at hu
      rcases hu with rfl | rfl
      · unfold Signs
        decide +kernel
      · exact word_signs.2.2.2.2.2.2.2.2⟩
theorem Turn.data {xs xs' : List Str} {os os' : List Ofr} {line : Str} {due : List V} (h : Turn xs os line due xs' os') (gd : os.length ≤ 8) : ∃ dd : PyData, (∀ (K : PySem.W.Frag) (H : Hp) (a : Addr), H a = some (.lst due) → Dp K H (.ref a) dd) ∧ SeqAt.shaped dd = true := by
  rcases h.due gd with ⟨us, rfl, sg⟩ | rfl
  · exact ⟨_, fun K H a h => dp_strs (SqL.of h), shaped_strs sg⟩
  · have all : ∀ n : Nat, n < 9 → SeqAt.shaped (.list [.str ("offer" : Str), .int ((n : Nat) : Int)]) = true := by decide +kernel
    exact ⟨.list [.str ("offer" : Str), .int ((os.length : Nat) : Int)], fun K H a h => .lst (SqL.of h) (.cons (.str _) (.cons (.int _) .nil)), all _ (by omega)⟩
/-! ### the law: two desks that are told by turns -/
abbrev s_law : Stmt := topS 100
abbrev N_law : List Str := ["_law_script", "_law_draws_here", "_law_desks", "_law_owns", "_law_turn_here", "_law_at", "_law_line", "_law_due"]
theorem sc_law : FnScope N_law ["_law_script"] (defScope s_law) := ⟨rfl, rfl, rfl, by decide +kernel, rfl, by decide +kernel, by decide +kernel⟩

-- used defs only
structure In40 (T Z : List Addr) (C d LD LO D1 D2 O1 O2 : Addr) (H : Hp) : Prop where
  tt : Tb T H
  dd : ∃ ns, H d = some (LI ns)
  hD : H LD = some (.lst [.ref D1, .ref D2])
  hO : H LO = some (.lst [.ref O1, .ref O2])
  s1 : ∃ xs os, DeskSt C Z D1 O1 xs os H
  s2 : ∃ xs os, DeskSt C Z D2 O2 xs os H
theorem DeskSt.but2 {C : Addr} {Z : List Addr} {D O d O' : Addr} {ds dO : List V} {xs : List Str} {os : List Ofr} {H H' : Hp} (s : But2 d O' H H') (hd : H d = some (.lst ds)) (hO : H O' = some (.lst dO)) (dz : d ∈ Z) (Oz : O' ∈ Z) (n1 : O ≠ d) (n2 : O ≠ O') (h : DeskSt C Z D O xs os H) : DeskSt C Z D O xs os H' := by
  obtain ⟨A, S, h1, h2⟩ := h.own
  exact ⟨⟨A, S, s _ _ n1 n2 h1, fun e he => .but2 s (h2 d dz) (h2 O' Oz) (h2 e he)⟩, DeskZ.but2 s hd hO dz Oz h.desk, h.g, h.gd, h.off⟩
theorem In40.but {T : List Addr} {C d LD LO D1 D2 O1 O2 : Addr} {H H' : Hp} (h : In40 T [d, O1, O2] C d LD LO D1 D2 O1 O2 H) (s : SameBut d H H') (x1 : d ≠ O1) (x2 : d ≠ O2) (y1 : LD ≠ d) (y2 : LO ≠ d) (hd : ∃ ns, H' d = some (LI ns)) : In40 T [d, O1, O2] C d LD LO D1 D2 O1 O2 H' := by
  obtain ⟨ns, h0⟩ := h.dd
  obtain ⟨xs, os, a⟩ := h.s1
  obtain ⟨ys, ps, b⟩ := h.s2
  exact ⟨tb_but s h0 h.tt, hd, s _ _ y1 h.hD, s _ _ y2 h.hO, ⟨xs, os, a.but2 (.d s (O := d)) h0 h0 (by simp) (by simp) x1.symm x1.symm⟩, ⟨ys, ps, b.but2 (.d s (O := d)) h0 h0 (by simp) (by simp) x2.symm x2.symm⟩⟩
theorem DeskSt.chg {T : List Addr} {C D2 dx2 : Addr} {fs : List (Str × V)} {Z : List Addr} {D O : Addr} {xs : List Str} {os : List Ofr} {H H' : Hp} (c : Chg T D2 H H') (n : D ≠ D2) (hD2 : H D2 = some (.ins C dx2 fs)) (hZ : ∀ e ∈ Z, ∃ ds, H e = some (.lst ds)) (h : DeskSt C Z D O xs os H) : DeskSt C Z D O xs os H' := by
  obtain ⟨A, S, h1, h2⟩ := h.own
  exact ⟨⟨A, S, c.lst (fun z => by rw [z, hD2] at h1; cases h1) h1, fun e he => by
    obtain ⟨ds, hds⟩ := hZ e he
    exact (h2 e he).chg c hD2 hds⟩, DeskZ.chg c n hD2 hZ h.desk, h.g, h.gd, h.off⟩
def sp_lawB (K : PySem.W.Frag) (T : List Addr) : Sp := fun vs H Q _ => ∃ (a : Addr) (ns : List Int), vs = [.ref a] ∧ SqL K H a (ns.map V.int) ∧ ns.length ≤ 63 ∧ Tb T H ∧ ∀ H', Q (.bl true) H'
section
variable {P : Program} {w : World} {K : PySem.W.Frag} {mg : Str → Option Value} {base : Heap} {T : List Addr} {C cl CN cp ct ch CP : Addr}
theorem ok_lawB {f f1 f2 f3 f4 f5 f6 : Addr} {fd fd1 fd2 fd3 fd4 fd5 fd6 : FuncData} {k : Nat} (M : Names mg) (ON : OneOf K cl CN cp ct ch CP CN 1) (OP : OneOf K cl CN cp ct ch CP cp 2) (OT : OneOf K cl CN cp ct ch CP ch 4)
    (xN : PySem.W.exmOne K (.ref CN) (.ref ct) = some false) (xP : PySem.W.exmOne K (.ref cp) (.ref ct) = some false) (D : Def K mg "law" s_law ["_law_script"] f fd)
    (D_law_draws : Def K mg "_law_draws" s_law_draws ["_law_script", "_law_turn_here", "_law_many"] f1 fd1) (G_law_draws : FnOk P w K mg base CX0 (k + 1) f1 fd1 ["_law_script", "_law_turn_here", "_law_many"] (sp_draws K))
    (D_law_pop : Def K mg "_law_pop" s_law_pop ["_law_draws_here"] f2 fd2) (G_law_pop : FnOk P w K mg base CX0 (k + 1) f2 fd2 ["_law_draws_here"] sp_pop)
    (D_law_turn : Def K mg "_law_turn" s_law_turn ["_law_draws_here", "_law_own"] f3 fd3) (G_law_turn : FnOk P w K mg base CX0 (k + 1) f3 fd3 ["_law_draws_here", "_law_own"] sp_turn)
    (D_law_says : Def K mg "_law_says" s_law_says ["_law_desk", "_law_line"] f4 fd4) (G_law_says : FnOk P w K mg base CX0 (k + 1) f4 fd4 ["_law_desk", "_law_line"] (sp_says K (spx_ans T C CN cp) C cl CN cp ct ch CP))
    (D_law_seen : Def K mg "_law_seen" s_law_seen ["_law_desk", "_law_own"] f5 fd5) (G_law_seen : FnOk P w K mg base CX0 (k + 1) f5 fd5 ["_law_desk", "_law_own"] (sp_seen T C))
    (T_Desk : DeskT K mg C) (MK_Desk : Mk K C f6) (b_Desk_init : Binds K fd6 ["self"] []) (G_Desk_init : FnOk P w K mg base CX0 k f6 fd6 ["self"] (sp_dinit C)) :
    FnOk P w K mg base CX0 (k + 2) f fd ["_law_script"] (sp_lawB K T) := by
  refine D.F.ok sc_law (fun vs H Q E h => ?_) (fun cdv A outer s H vs Q E hr h => ?_)
  · obtain ⟨a, ns, rfl, _⟩ := h
    rfl
  · obtain ⟨a, ns, rfl, hS0, hlen, hT, q⟩ := h
    refine ⟨_, (pss_cons (ps_set (i := 1) sc_law.nd rfl (Or.inl rfl) (pe_call G_law_draws hr (by rfl) D_law_draws.g D_law_draws.F.kp D_law_draws.b .nil pass0 (pa_cons (pv 0) (pa_cons pe_int (pa_cons pe_int pa_nil)))))
  (pss_cons (ps_set (i := 2) sc_law.nd rfl (Or.inl rfl) (pe_lst (pa_cons (pe_make0 MK_Desk G_Desk_init hr (by rfl) T_Desk.mgC b_Desk_init .nil pass0) (pa_cons (pe_make0 MK_Desk G_Desk_init hr (by rfl) T_Desk.mgC b_Desk_init .nil pass0) pa_nil))))
  (pss_cons (ps_set (i := 3) sc_law.nd rfl (Or.inl rfl) (pe_lst (pa_cons (pe_lst (pa_cons (pe_lst pa_nil) (pa_cons (pe_lst pa_nil) pa_nil))) (pa_cons (pe_lst (pa_cons (pe_lst pa_nil) (pa_cons (pe_lst pa_nil) pa_nil))) pa_nil))))
  (pss_cons (ps_for PassesOwn.never rfl (pi_range1 (by rfl) M.range (pa_cons (pe_op op_mod (pe_call G_law_pop hr (by rfl) D_law_pop.g D_law_pop.F.kp D_law_pop.b .nil pass0 (pa_cons (pv 1) pa_nil)) pe_int) pa_nil)) (pg_name (i := 4) sc_law.nd rfl (Or.inl rfl))
   (pss_cons (ps_set (i := 5) sc_law.nd rfl (Or.inl rfl) (pe_callTy call_int1 (by rfl) M.int (by decide +kernel) (pa_cons (pe_cmpR op_eq (pe_op op_mod (pe_call G_law_pop hr (by rfl) D_law_pop.g D_law_pop.F.kp D_law_pop.b .nil pass0 (pa_cons (pv 1) pa_nil)) pe_int) pe_int (nomark _)) pa_nil)))
  (pss_cons (ps_asg (pe_call G_law_turn hr (by rfl) D_law_turn.g D_law_turn.F.kp D_law_turn.b .nil pass0 (pa_cons (pv 1) (pa_cons (pe_ix ix_list (pv 3) (pv 5) (fun _ _ => rfl)) pa_nil))) (pg_lst rfl (pgs_cons (pg_name (i := 6) sc_law.nd rfl (Or.inl rfl)) (pgs_cons (pg_name (i := 7) sc_law.nd rfl (Or.inl rfl)) pgs_nil))))
  (pss_cons (ps_if (pt_cmpR (op_neD hr.units) (pe_call G_law_says hr (by rfl) D_law_says.g D_law_says.F.kp D_law_says.b .nil pass0 (pa_cons (pe_ix ix_list (pv 2) (pv 5) (fun _ _ => rfl)) (pa_cons (pv 6) pa_nil))) (pv 7) (nomark _))
   (pss_one (ps_ret pe_bl))
   pss_nil)
  (pss_one (ps_if (PW.pt (pw_or (pt_not (pt_val (pe_call G_law_seen hr (by rfl) D_law_seen.g D_law_seen.F.kp D_law_seen.b .nil pass0 (pa_cons (pe_ix ix_list (pv 2) pe_int (fun _ _ => rfl)) (pa_cons (pe_ix ix_list (pv 3) pe_int (fun _ _ => rfl)) pa_nil))))) (pw_or1 (pt_not (pt_val (pe_call G_law_seen hr (by rfl) D_law_seen.g D_law_seen.F.kp D_law_seen.b .nil pass0 (pa_cons (pe_ix ix_list (pv 2) pe_int (fun _ _ => rfl)) (pa_cons (pe_ix ix_list (pv 3) pe_int (fun _ _ => rfl)) pa_nil))))))))
   (pss_one (ps_ret pe_bl))
   pss_nil))))))
  (pss_one (ps_ret pe_bl)))))), ?_⟩
    refine ⟨_, rfl, a, ns, 2, 300, rfl, hS0, by omega, by omega, by omega, fun H1 d ds s1 nd hd => ?_⟩
    have hT1 : Tb T H1 := tb_same s1 hT
    refine fun D1 dx1 n1 nx1 ne1 => ⟨D1, dx1, rfl, upd_same, fun H2 S1 sb2 nS1 hD1 hS1 => ⟨rfl, ?_⟩⟩
    have s2 : Same H1 H2 := fun b o h => sb2 b o (fun z => by rw [z, n1] at h; cases h) (by
      rw [upd_ne (fun z => by rw [z, n1] at h; cases h), upd_ne (fun z => by rw [z, nx1] at h; cases h)]
      exact h)
    refine fun D2 dx2 n2 nx2 ne2 => ⟨D2, dx2, rfl, upd_same, fun H3 S2 sb3 nS2 hD2 hS2 => ⟨rfl, ?_⟩⟩
    have s3 : Same H2 H3 := fun b o h => sb3 b o (fun z => by rw [z, n2] at h; cases h) (by
      rw [upd_ne (fun z => by rw [z, n2] at h; cases h), upd_ne (fun z => by rw [z, nx2] at h; cases h)]
      exact h)
    have n12 : D1 ≠ D2 := fun z => by rw [← z, hD1] at n2; cases n2
    have hD13 := s3 _ _ hD1
    have hd3 := (s2.trans s3) _ _ hd
    have hT3 := tb_same (s2.trans s3) hT1
    refine ⟨by show 2 ≤ sizeLine; decide, fun LD nLD => ?_⟩
    have s4 := same_upd (o := .lst [.ref D1, .ref D2]) nLD
    have hLD : upd H3 LD (.lst [.ref D1, .ref D2]) LD = some (.lst [.ref D1, .ref D2]) := upd_same
    have I4 := (⟨s4 _ _ hD13, s4 _ _ hD2, s4 _ _ hd3, tb_same s4 hT3, hLD, (ne_of_none hd3 nLD).symm⟩ : _ ∧ _ ∧ _ ∧ _ ∧ _ ∧ _)
    generalize upd H3 LD (.lst [.ref D1, .ref D2]) = H4 at I4 ⊢
    clear hLD s4 hD13 hd3 hT3 hT1 hT hS0 s1 s2 s3
    refine ⟨Nat.zero_le _, fun A1 nA1 => ⟨Nat.zero_le _, fun B1 nB1 => ⟨by show 2 ≤ sizeLine; decide, fun O1 nO1 => ⟨Nat.zero_le _, fun A2 nA2 => ⟨Nat.zero_le _, fun B2 nB2 => ⟨by show 2 ≤ sizeLine; decide, fun O2 nO2 => ⟨by show 2 ≤ sizeLine; decide, fun LO nLO => ?_⟩⟩⟩⟩⟩⟩⟩
    obtain ⟨hD1, hD2, hd, hT, hLD, y1⟩ := I4
    have q1 := same_upd (o := .lst []) nA1
    have k1 : upd H4 A1 (.lst []) A1 = some (.lst []) := upd_same
    generalize upd H4 A1 (.lst []) = H5 at q1 k1 nB1 nO1 nA2 nB2 nO2 nLO ⊢
    have q2 := same_upd (o := .lst []) nB1
    have k2 : upd H5 B1 (.lst []) B1 = some (.lst []) := upd_same
    generalize upd H5 B1 (.lst []) = H6 at q2 k2 nO1 nA2 nB2 nO2 nLO ⊢
    have q3 := same_upd (o := .lst [.ref A1, .ref B1]) nO1
    have k3 : upd H6 O1 (.lst [.ref A1, .ref B1]) O1 = some (.lst [.ref A1, .ref B1]) := upd_same
    generalize upd H6 O1 (.lst [.ref A1, .ref B1]) = H7 at q3 k3 nA2 nB2 nO2 nLO ⊢
    have q4 := same_upd (o := .lst []) nA2
    have k4 : upd H7 A2 (.lst []) A2 = some (.lst []) := upd_same
    generalize upd H7 A2 (.lst []) = H8 at q4 k4 nB2 nO2 nLO ⊢
    have q5 := same_upd (o := .lst []) nB2
    have k5 : upd H8 B2 (.lst []) B2 = some (.lst []) := upd_same
    generalize upd H8 B2 (.lst []) = H9 at q5 k5 nO2 nLO ⊢
    have q6 := same_upd (o := .lst [.ref A2, .ref B2]) nO2
    have k6 : upd H9 O2 (.lst [.ref A2, .ref B2]) O2 = some (.lst [.ref A2, .ref B2]) := upd_same
    generalize upd H9 O2 (.lst [.ref A2, .ref B2]) = HA at q6 k6 nLO ⊢
    have q7 := same_upd (o := .lst [.ref O1, .ref O2]) nLO
    have k7 : upd HA LO (.lst [.ref O1, .ref O2]) LO = some (.lst [.ref O1, .ref O2]) := upd_same
    generalize upd HA LO (.lst [.ref O1, .ref O2]) = HB at q7 k7 ⊢
    have d5 := q1 _ _ hd
    have d6 := q2 _ _ d5
    have d9 := (q3.trans (q4.trans q5)) _ _ d6
    have r57 := q6.trans q7
    have r47 := q5.trans r57
    have r37 := q4.trans r47
    have r27 := q3.trans r37
    have r17 := q2.trans r27
    have r07 := q1.trans r17
    have x1 : d ≠ O1 := ne_of_none d6 nO1
    have x2 : d ≠ O2 := ne_of_none d9 nO2
    have x3 : O1 ≠ O2 := ne_of_none ((q4.trans q5) _ _ k3) nO2
    have own1 : ∀ e ∈ [d, O1, O2], OwnE HB e A1 B1 [] [] := fun e he => by
      have na : A1 ≠ e := by
        simp only [List.mem_cons, List.not_mem_nil, or_false] at he
        rcases he with rfl | rfl | rfl
        · exact (ne_of_none hd nA1).symm
        · exact ne_of_none (q2 _ _ k1) nO1
        · exact ne_of_none ((q2.trans (q3.trans (q4.trans q5))) _ _ k1) nO2
      have nb : B1 ≠ e := by
        simp only [List.mem_cons, List.not_mem_nil, or_false] at he
        rcases he with rfl | rfl | rfl
        · exact (ne_of_none d5 nB1).symm
        · exact ne_of_none k2 nO1
        · exact ne_of_none ((q3.trans (q4.trans q5)) _ _ k2) nO2
      exact ⟨cut_put na (r17 _ _ k1), [], cut_put nb (r27 _ _ k2), rfl, fun i v o h _ => by cases h⟩
    have own2 : ∀ e ∈ [d, O1, O2], OwnE HB e A2 B2 [] [] := fun e he => by
      have d7 := q3 _ _ d6
      have na : A2 ≠ e := by
        simp only [List.mem_cons, List.not_mem_nil, or_false] at he
        rcases he with rfl | rfl | rfl
        · exact (ne_of_none d7 nA2).symm
        · exact (ne_of_none k3 nA2).symm
        · exact ne_of_none (q5 _ _ k4) nO2
      have nb : B2 ≠ e := by
        simp only [List.mem_cons, List.not_mem_nil, or_false] at he
        rcases he with rfl | rfl | rfl
        · exact (ne_of_none (q4 _ _ d7) nB2).symm
        · exact (ne_of_none (q4 _ _ k3) nB2).symm
        · exact ne_of_none k5 nO2
      exact ⟨cut_put na (r47 _ _ k4), [], cut_put nb (r57 _ _ k5), rfl, fun i v o h _ => by cases h⟩
    have good0 : Good [] := ⟨by decide, fun i o h => by cases h⟩
    have z1 : LD ≠ O1 := ne_of_none ((q1.trans q2) _ _ hLD) nO1
    have z2 : LD ≠ O2 := ne_of_none ((q1.trans (q2.trans (q3.trans (q4.trans q5)))) _ _ hLD) nO2
    have z3 : LO ≠ O1 := (ne_of_none ((q4.trans (q5.trans q6)) _ _ k3) nLO).symm
    have z4 : LO ≠ O2 := (ne_of_none k6 nLO).symm
    have y2 : LO ≠ d := (ne_of_none ((q3.trans (q4.trans (q5.trans q6))) _ _ d6) nLO).symm
    have goodn : GoodN [] := ⟨by decide, .nil, (fun x h => nomatch h), (fun x h => nomatch h), (fun x h => nomatch h)⟩
    have I0 : In40 T [d, O1, O2] C d LD LO D1 D2 O1 O2 HB := ⟨tb_same r07 hT, ⟨_, r07 _ _ hd⟩, r07 _ _ hLD, k7, ⟨[], [], ⟨_, _, r37 _ _ k3, own1⟩, .inl ⟨rfl, rfl, _, _, r07 _ _ hD1⟩, goodn, good0, fun o h => by cases h⟩, ⟨[], [], ⟨_, _, q7 _ _ k6, own2⟩, .inl ⟨rfl, rfl, _, _, r07 _ _ hD2⟩, goodn, good0, fun o h => by cases h⟩⟩
    clear own1 own2 q1 q2 q3 q4 q5 q6 q7 r57 r47 r37 r27 r17 r07 k1 k2 k3 k4 k5 k6 k7 nA1 nA2 nB1 nB2 nO1 nO2 nLO hd d5 d6 d9 hT hLD hD1 hD2
    obtain ⟨ms, hd⟩ := I0.dd
    refine ⟨_, rfl, d, ms, rfl, hd, fun HC bC hdC => ?_⟩
    obtain ⟨cnt, hcnt, ecnt⟩ := mod_at (i := ms.headD 0) (n := 21) (by decide)
    refine ⟨_, _, rfl, rfl, (by show (0 : Int) < _; decide), ?_⟩
    refine ⟨(cnt : Int), (by show [V.int (ms.headD 0 % 21)] = [V.int (cnt : Int)]; rw [show ms.headD 0 % 21 = (cnt : Int) from ecnt]), by omega, by omega, for_range (n := (cnt : Int).toNat) (fun _ σ H' => ∃ y4 y5 y6 y7 : Option V, σ = [some (.ref a), some (.ref d), some (.ref LD), some (.ref LO), y4, y5, y6, y7] ∧ In40 T [d, O1, O2] C d LD LO D1 D2 O1 O2 H') ⟨none, none, none, none, rfl, I0.but bC x1 x2 y1 y2 ⟨_, hdC⟩⟩ (fun i σ G0 hi hp => ?_) (fun σ G0 hp => ?_)⟩
    · obtain ⟨y4, y5, y6, y7, rfl, J0⟩ := hp
      obtain ⟨ks, hd0⟩ := J0.dd
      refine ⟨_, rfl, d, ks, rfl, hd0, fun G1 b1 hd1 => ?_⟩
      have J1 := J0.but b1 x1 x2 y1 y2 ⟨_, hd1⟩
      refine ⟨_, _, rfl, rfl, (by show (0 : Int) < _; decide), ?_⟩
      refine ⟨rfl, .inr ⟨_, rfl, ?_⟩⟩
      obtain ⟨j, ej, hj⟩ : ∃ j : Nat, (if decide (V.int (ks.headD 0 % 4) = V.int 0) then (1 : Int) else 0) = (j : Int) ∧ (j = 0 ∨ j = 1) := by
        by_cases z : decide (V.int (ks.headD 0 % 4) = V.int 0) = true
        · exact ⟨1, by rw [if_pos z]; rfl, .inr rfl⟩
        · exact ⟨0, by rw [if_neg z]; rfl, .inl rfl⟩
      have pick : ∃ Da Oa Db Ob : Addr, ([.ref D1, .ref D2] : List V)[j]? = some (.ref Da) ∧ ([.ref O1, .ref O2] : List V)[j]? = some (.ref Oa) ∧ Da ≠ Db ∧ Oa ≠ Ob ∧ d ≠ Oa ∧ d ≠ Ob ∧ Oa ∈ [d, O1, O2] ∧ Ob ∈ [d, O1, O2] ∧ LD ≠ Oa ∧ LO ≠ Oa ∧ (∃ xs os, DeskSt C [d, O1, O2] Da Oa xs os G1) ∧ (∃ xs os, DeskSt C [d, O1, O2] Db Ob xs os G1) ∧
          ∀ G2, (∃ xs os, DeskSt C [d, O1, O2] Da Oa xs os G2) → (∃ xs os, DeskSt C [d, O1, O2] Db Ob xs os G2) → (∃ xs os, DeskSt C [d, O1, O2] D1 O1 xs os G2) ∧ (∃ xs os, DeskSt C [d, O1, O2] D2 O2 xs os G2) := by
        rcases hj with rfl | rfl
        · exact ⟨D1, O1, D2, O2, rfl, rfl, n12, x3, x1, x2, by simp, by simp, z1, z3, J1.s1, J1.s2, fun _ a b => ⟨a, b⟩⟩
        · exact ⟨D2, O2, D1, O1, rfl, rfl, n12.symm, x3.symm, x2, x1, by simp, by simp, z2, z4, J1.s2, J1.s1, fun _ a b => ⟨b, a⟩⟩
      obtain ⟨Da, Oa, Db, Ob, eD, eO, nab, nO, dOa, dOb, Oaz, Obz, LDa, LOa, ⟨xs, os, sa⟩, ⟨ys, ps, sb⟩, back⟩ := pick
      change gName 5 (V.int (if decide (V.int (ks.headD 0 % 4) = V.int 0) then (1 : Int) else 0)) _ _ _
      rw [ej]
      obtain ⟨A, S, hOa, ow⟩ := id sa.own
      refine ⟨_, rfl, _, rfl, _, rfl, LO, _, _, _, rfl, rfl, SqL.of J1.hO, atI_nat (j := j) eO, ?_⟩
      refine ⟨d, Oa, A, S, _, xs, os, rfl, hd1, hOa, ow d (by simp), ow Oa Oaz, sa.gd.1, sa.g, fun G2 r ue A' S' line due xs' os' ns' b2 nr nue hr2 hue2 tn hd2 hO2 ow2 => ?_⟩
      obtain ⟨g', gd', off'⟩ := tn.stay sa.g sa.gd sa.off
      have sb2 : DeskSt C [d, O1, O2] Db Ob ys ps G2 := sb.but2 b2 hd1 hOa (by simp) Oaz dOb.symm nO.symm
      have dz2 : DeskZ C [d, O1, O2] Da xs os G2 := DeskZ.but2 b2 hd1 hOa (by simp) Oaz sa.desk
      have hZ1 : ∀ e ∈ [d, O1, O2], ∃ ds, G1 e = some (.lst ds) := fun e he => by
        simp only [List.mem_cons, List.not_mem_nil, or_false] at he
        rcases he with rfl | rfl | rfl
        · exact ⟨_, hd1⟩
        · obtain ⟨_, _, s0⟩ := J1.s1
          obtain ⟨_, _, h0, _⟩ := s0.own
          exact ⟨_, h0⟩
        · obtain ⟨_, _, s0⟩ := J1.s2
          obtain ⟨_, _, h0, _⟩ := s0.own
          exact ⟨_, h0⟩
      have own2 : ∃ A S, G2 Oa = some (.lst [.ref A, .ref S]) ∧ ∀ e ∈ [d, O1, O2], OwnE G2 e A S xs' os' := ⟨A', S', hO2, fun e he => by
        obtain ⟨ds, hds⟩ := hZ1 e he
        exact ow2 e ds hds (ow e he)⟩
      refine ⟨r, _, rfl, SqL.of hr2, rfl, ?_⟩
      refine ⟨_, _, rfl, _, _, rfl, rfl, ?_⟩
      have nLDd : LD ≠ d := y1
      have hLD2 := b2 _ _ nLDd LDa J1.hD
      have hLO2 := b2 _ _ y2 LOa J1.hO
      have hT2 : Tb T G2 := fun t ht => by
        obtain ⟨pq, w1, w2⟩ := J1.tt t ht
        exact ⟨pq, b2 _ _ (fun z => by rw [z, hd1] at w1; cases w1) (fun z => by rw [z, hOa] at w1; cases w1) w1, w2⟩
      have hZ2 : ∀ e ∈ [d, O1, O2], ∃ ds, G2 e = some (.lst ds) := fun e he => by
        by_cases z1 : e = d
        · exact ⟨_, by rw [z1]; exact hd2⟩
        · by_cases z2 : e = Oa
          · exact ⟨_, by rw [z2]; exact hO2⟩
          · obtain ⟨ds, hds⟩ := hZ1 e he
            exact ⟨ds, b2 _ _ z1 z2 hds⟩
      refine ⟨_, rfl, _, rfl, LD, _, _, _, rfl, rfl, SqL.of hLD2, atI_nat (j := j) eD, _, rfl, ?_⟩
      have key := fun Q E q => says_turn (K := K) (T := T) (Q := Q) (E := E) tn dz2 sa.g sa.gd sa.off hT2 (d := d) (by simp) hZ2 ON OP OT xN xP q
      unfold tNil
      refine key _ _ fun r2 G3 nr2 hr3 c3 dz3 => ?_
      obtain ⟨dxa, nva, Sa, hDa⟩ := dz2.ins (d := d) (by simp)
      have nl : ∀ {b : Addr} {ls : List V}, G2 b = some (.lst ls) → G3 b = some (.lst ls) := fun {b ls} h => c3.lst (fun z => by rw [z, hDa] at h; cases h) h
      obtain ⟨A2', S2', hO2', ow2'⟩ := own2
      have turned : DeskSt C [d, O1, O2] Da Oa xs' os' G3 := ⟨⟨A2', S2', nl hO2', fun e he => by
        obtain ⟨ds, hds⟩ := hZ2 e he
        exact (ow2' e he).chg c3 hDa hds⟩, dz3, g', gd', off'⟩
      have other : DeskSt C [d, O1, O2] Db Ob ys ps G3 := sb2.chg c3 nab.symm hDa hZ2
      obtain ⟨⟨xs1, os1, st1⟩, ⟨xs2, os2, st2⟩⟩ := back G3 ⟨_, _, turned⟩ ⟨_, _, other⟩
      have hT3 := c3.t1
      have hLD3 := nl hLD2
      have hLO3 := nl hLO2
      have hd3 := nl hd2
      obtain ⟨dd, dp, shp⟩ := tn.data sa.gd.1
      refine ⟨_, rfl, dd, dd, dp K G3 r2 hr3, dp K G3 ue (nl hue2), shp, shp, ?_⟩
      rw [eqv_self shp]
      refine ⟨false, rfl, ?_⟩
      refine ⟨_, rfl, LD, _, _, _, rfl, rfl, SqL.of hLD3, atI_nat (j := 0) rfl, _, rfl, LO, _, _, _, rfl, rfl, SqL.of hLO3, atI_nat (j := 0) rfl, [d, O1, O2], D1, O1, d, xs1, os1, rfl, st1, by simp, hT3, fun G4 e4 => ⟨true, rfl, ?_⟩⟩
      refine ⟨_, rfl, LD, _, _, _, rfl, rfl, SqL.of (e4.lst hLD3), atI_nat (j := 1) rfl, _, rfl, LO, _, _, _, rfl, rfl, SqL.of (e4.lst hLO3), atI_nat (j := 1) rfl, [d, O1, O2], D2, O2, d, xs2, os2, rfl, st2.ke e4.ke, by simp, e4.t1, fun G5 e5 => ⟨true, rfl, ?_⟩⟩
      have e45 := e4.trans e5
      exact ⟨_, _, _, _, rfl, e45.t1, ⟨_, e45.lst hd3⟩, e45.lst hLD3, e45.lst hLO3, ⟨_, _, st1.ke e45.ke⟩, ⟨_, _, st2.ke e45.ke⟩⟩
    · exact q _
end
/-! ### the class Desk with its refusals, put together -/
structure DeskE (K : PySem.W.Frag) (C : Addr) : Prop where
  mro : PySem.W.mroIn K C (.type "object") = some true
  eq_ : PySem.W.findIn K (.ref C) "__eq__" = some (some (.builtin "object.__eq__"))
structure DeskK (K : PySem.W.Frag) (w : World) (mg : Str → Option Value) (C aW aA aQ fc fb fv : Addr) : Prop where
  T : DeskT K mg C
  E : DeskE K C
  W : DeskW K w mg aW aA aQ fc fb fv
  ini : ∃ f fd, Mk K C f ∧ Fun K "__init__" "Desk.__init__" s_Desk_init f fd ∧ Binds K fd ["self"] []
  sy : ∃ f fd, Meth K C "say" f ∧ Fun K "say" "Desk.say" s_Desk_say f fd ∧ Binds K fd ["self", "line"] []
  an : ∃ f fd, Meth K C "answer" f ∧ Fun K "answer" "Desk.answer" s_Desk_answer f fd ∧ Binds K fd ["self", "word", "text"] []
  tk : ∃ f fd, Meth K C "take_names" f ∧ Fun K "take_names" "Desk.take_names" s_Desk_take_names f fd ∧ Binds K fd ["self", "names"] []
  pl : ∃ f fd, Meth K C "put_last" f ∧ Fun K "put_last" "Desk.put_last" s_Desk_put_last f fd ∧ Binds K fd ["self", "offer"] []
  dl : ∃ f fd, Meth K C "drop_last" f ∧ Fun K "drop_last" "Desk.drop_last" s_Desk_drop_last f fd ∧ Binds K fd ["self", "place"] []
/-! ### the law, from what the top has written -/
-- used defs only
def sp_law (K : PySem.W.Frag) (t1 t2 t3 : Addr) : Sp := fun vs H Q _ => ∃ (a : Addr) (ns : List Int), vs = [.ref a] ∧ SqL K H a (ns.map V.int) ∧ ns.length ≤ 63 ∧ GxR.TabG H t1 ∧ GxR.TabG H t2 ∧ GxR.TabG H t3 ∧ ∀ H', Q (.bl true) H'
section
variable {P : Program} {w : World} {K : PySem.W.Frag} {mg : Str → Option Value} {base : Heap}
theorem ok_law {f f_names_pack f_good_tiers f_can_stand f_look f_show_content f_show_offer f_show_shop f_made_of f_read_number f_read_names f_within_bounds f_read_thing f_read_content f_read_goods f_read_sold f_read_tier f_read_many f_read_add f_read_offer f_tell_shop f_law_draws f_law_pop f_law_want f_law_cases f_law_content f_law_price f_law_tiers f_law_names f_law_content_text f_law_offer_text f_law_offered f_law_tiers_good f_law_good_offer f_law_which f_law_says f_law_shop_text f_law_turn f_law_seen c1 t1 c2 t2 c3 t3 C aW aA aQ fc fb fv CN CP fI cl cp ct ch : Addr} {fd fd_names_pack fd_good_tiers fd_can_stand fd_look fd_show_content fd_show_offer fd_show_shop fd_made_of fd_read_number fd_read_names fd_within_bounds fd_read_thing fd_read_content fd_read_goods fd_read_sold fd_read_tier fd_read_many fd_read_add fd_read_offer fd_tell_shop fd_law_draws fd_law_pop fd_law_want fd_law_cases fd_law_content fd_law_price fd_law_tiers fd_law_names fd_law_content_text fd_law_offer_text fd_law_offered fd_law_tiers_good fd_law_good_offer fd_law_which fd_law_says fd_law_shop_text fd_law_turn fd_law_seen fdI : FuncData} (M : Names mg) (D : Def K mg "law" s_law ["_law_script"] f fd)
    (D_names_pack : Def K mg "names_pack" s_names_pack ["shop", "at"] f_names_pack fd_names_pack)
    (D_good_tiers : Def K mg "good_tiers" s_good_tiers ["tiers"] f_good_tiers fd_good_tiers)
    (D_can_stand : Def K mg "can_stand" s_can_stand ["shop", "at"] f_can_stand fd_can_stand)
    (D_look : Def K mg "look" s_look ["shop"] f_look fd_look)
    (D_show_content : Def K mg "show_content" s_show_content ["names", "content"] f_show_content fd_show_content)
    (D_show_offer : Def K mg "show_offer" s_show_offer ["names", "offer"] f_show_offer fd_show_offer)
    (D_show_shop : Def K mg "show_shop" s_show_shop ["names", "shop"] f_show_shop fd_show_shop)
    (D_made_of : Def K mg "made_of" s_made_of ["signs", "text", "most"] f_made_of fd_made_of)
    (D_read_number : Def K mg "read_number" s_read_number ["text", "figures"] f_read_number fd_read_number)
    (D_read_names : Def K mg "read_names" s_read_names ["text"] f_read_names fd_read_names)
    (D_within_bounds : Def K mg "within_bounds" s_within_bounds ["content"] f_within_bounds fd_within_bounds)
    (D_read_thing : Def K mg "read_thing" s_read_thing ["names", "text"] f_read_thing fd_read_thing)
    (D_read_content : Def K mg "read_content" s_read_content ["names", "text"] f_read_content fd_read_content)
    (D_read_goods : Def K mg "read_goods" s_read_goods ["names", "text"] f_read_goods fd_read_goods)
    (D_read_sold : Def K mg "read_sold" s_read_sold ["names", "text"] f_read_sold fd_read_sold)
    (D_read_tier : Def K mg "read_tier" s_read_tier ["text"] f_read_tier fd_read_tier)
    (D_read_many : Def K mg "read_many" s_read_many ["names", "text"] f_read_many fd_read_many)
    (D_read_add : Def K mg "read_add" s_read_add ["names", "text"] f_read_add fd_read_add)
    (D_read_offer : Def K mg "read_offer" s_read_offer ["names", "text"] f_read_offer fd_read_offer)
    (D_tell_shop : Def K mg "tell_shop" s_tell_shop ["names", "shop"] f_tell_shop fd_tell_shop)
    (D_law_draws : Def K mg "_law_draws" s_law_draws ["_law_script", "_law_turn_here", "_law_many"] f_law_draws fd_law_draws)
    (D_law_pop : Def K mg "_law_pop" s_law_pop ["_law_draws_here"] f_law_pop fd_law_pop)
    (D_law_want : Def K mg "_law_want" s_law_want ["_law_draws_here", "_law_many"] f_law_want fd_law_want)
    (D_law_cases : Def K mg "_law_cases" s_law_cases ["_law_want_here"] f_law_cases fd_law_cases)
    (D_law_content : Def K mg "_law_content" s_law_content ["_law_draws_here", "_law_many"] f_law_content fd_law_content)
    (D_law_price : Def K mg "_law_price" s_law_price ["_law_draws_here"] f_law_price fd_law_price)
    (D_law_tiers : Def K mg "_law_tiers" s_law_tiers ["_law_draws_here"] f_law_tiers fd_law_tiers)
    (D_law_names : Def K mg "_law_names" s_law_names ["_law_draws_here", "_law_many"] f_law_names fd_law_names)
    (D_law_content_text : Def K mg "_law_content_text" s_law_content_text ["_law_names_here", "_law_content_here"] f_law_content_text fd_law_content_text)
    (D_law_offer_text : Def K mg "_law_offer_text" s_law_offer_text ["_law_names_here", "_law_offer"] f_law_offer_text fd_law_offer_text)
    (D_law_offered : Def K mg "_law_offered" s_law_offered ["_law_draws_here", "_law_many"] f_law_offered fd_law_offered)
    (D_law_tiers_good : Def K mg "_law_tiers_good" s_law_tiers_good ["_law_tiers_here"] f_law_tiers_good fd_law_tiers_good)
    (D_law_good_offer : Def K mg "_law_good_offer" s_law_good_offer ["_law_shop", "_law_offer"] f_law_good_offer fd_law_good_offer)
    (D_law_which : Def K mg "_law_which" s_law_which ["_law_e"] f_law_which fd_law_which)
    (D_law_says : Def K mg "_law_says" s_law_says ["_law_desk", "_law_line"] f_law_says fd_law_says)
    (D_law_shop_text : Def K mg "_law_shop_text" s_law_shop_text ["_law_names_here", "_law_shop"] f_law_shop_text fd_law_shop_text)
    (D_law_turn : Def K mg "_law_turn" s_law_turn ["_law_draws_here", "_law_own"] f_law_turn fd_law_turn)
    (D_law_seen : Def K mg "_law_seen" s_law_seen ["_law_desk", "_law_own"] f_law_seen fd_law_seen)
    (hc1 : fd_good_tiers.code = .ref c1) (TB1 : GxR.TabB base mg c1 t1) (hc2 : fd_made_of.code = .ref c2) (TB2 : GxR.TabB base mg c2 t2) (hc3 : fd_read_names.code = .ref c3) (TB3 : GxR.TabB base mg c3 t3) (DK : DeskK K w mg C aW aA aQ fc fb fv)
    (XN : Exs K mg CN CP fI fdI) (Y : Five K mg cl CN cp ct ch CP) (ON : OneOf K cl CN cp ct ch CP CN 1) (OP : OneOf K cl CN cp ct ch CP cp 2) (OT : OneOf K cl CN cp ct ch CP ch 4) (xN : PySem.W.exmOne K (.ref CN) (.ref ct) = some false) (xP : PySem.W.exmOne K (.ref cp) (.ref ct) = some false) (PP : PlainC K mg "NoPlace" cp) (PT : PlainC K mg "NoThings" ch) :
    FnOk P w K mg base CX0 14 f fd ["_law_script"] (sp_law K t1 t2 t3) := by
  generalize hTT : [t1, t2, t3] = TT
  have m1 : t1 ∈ TT := by rw [← hTT]; simp
  have m2 : t2 ∈ TT := by rw [← hTT]; simp
  have m3 : t3 ∈ TT := by rw [← hTT]; simp
  obtain ⟨T_Desk, DE, DW, ⟨fi, fdi, MK_Desk, Fi, b_Desk_init⟩, ⟨fy, fdy, m_Desk_say, Fy, b_Desk_say⟩, ⟨fa, fda, m_Desk_answer, Fa, b_Desk_answer⟩, ⟨ft, fdt, m_Desk_take_names, Ft, b_Desk_take_names⟩, ⟨fp, fdp, m_Desk_put_last, Fp, b_Desk_put_last⟩, ⟨fq, fdq, m_Desk_drop_last, Fq, b_Desk_drop_last⟩⟩ := DK
  have RC : ∀ k, FnOk P w K mg base CX0 (k + 4) f_read_content fd_read_content ["names", "text"] (sp_read_content TT) := fun k => ok_read_content M D_read_content D_read_thing D_show_content D_within_bounds D_read_number D_made_of hc2 TB2 m2
  have RN : ∀ k, FnOk P w K mg base CX0 (k + 2) f_read_number fd_read_number ["text", "figures"] (sp_read_number TT) := fun k => ok_read_number M D_read_number D_made_of hc2 TB2 m2
  have RG : ∀ k, FnOk P w K mg base CX0 (k + 5) f_read_goods fd_read_goods ["names", "text"] (sp_read_goods TT) := fun k => ok_read_goods M D_read_goods D_read_content (RC k)
  have RT : ∀ k, FnOk P w K mg base CX0 (k + 5) f_read_tier fd_read_tier ["text"] (sp_read_tier TT) := fun k => ok_read_tier M D_read_tier D_read_number (RN (k + 2))
  have RS : ∀ k, FnOk P w K mg base CX0 (k + 6) f_read_sold fd_read_sold ["names", "text"] (sp_read_sold TT) := fun k => ok_read_sold M D_read_sold D_read_goods (RG k) D_read_number (RN (k + 3))
  have RM : ∀ k, FnOk P w K mg base CX0 (k + 6) f_read_many fd_read_many ["names", "text"] (sp_read_many TT) := fun k => ok_read_many M D_read_many D_read_goods (RG k) D_read_tier (RT k)
  have RA : ∀ k, FnOk P w K mg base CX0 (k + 7) f_read_add fd_read_add ["names", "text"] (sp_read_add TT) := fun k => ok_read_add M D_read_add D_read_sold (RS k) D_read_number (RN (k + 4))
  have RO : ∀ k, FnOk P w K mg base CX0 (k + 8) f_read_offer fd_read_offer ["names", "text"] (sp_read_offer TT) := fun k => ok_read_offer M D_read_offer D_read_many (RM (k + 1)) D_read_add (RA k) D_read_sold (RS (k + 1))
  have mk_show : ∀ k, FnOk P w K mg base CX0 (k + 4) f_show_shop fd_show_shop ["names", "shop"] (sp_show_shop TT) := fun k => ok_show_shop M D_show_shop D_show_offer D_show_content D_look D_can_stand D_names_pack D_good_tiers hc1 TB1 m1
  have mk_names : ∀ k, FnOk P w K mg base CX0 (k + 3) f_read_names fd_read_names ["text"] (sp_read_names TT) := fun k => ok_read_names M D_read_names D_made_of (ok_made_of M D_made_of hc2 TB2 m2) hc3 TB3 m3
  have mk_look : ∀ k, FnOk P w K mg base (L2.CX P w) (k + 3) f_look fd_look ["shop"] (spx_look CN TT) := fun k => okx_look M XN D_look D_can_stand D_names_pack D_good_tiers hc1 TB1 m1
  have mk_take : ∀ k, FnOk P w K mg base CX0 (k + 1) ft fdt ["self", "names"] (spx_take TT C) := fun k => okx_take M Ft T_Desk
  have mk_put : ∀ k, FnOk P w K mg base (L2.CX P w) (k + 4) fp fdp ["self", "offer"] (spx_put TT C CN) := fun k => okx_put M XN Fp T_Desk D_look (mk_look k)
  have mk_drop : ∀ k, FnOk P w K mg base (L2.CX P w) (k + 2) fq fdq ["self", "place"] (spx_drop TT C cp) := fun k => okx_drop M PP Fq T_Desk
  have mk_ans : ∀ k, FnOk P w K mg base (L2.CX P w) (k + 9) fa fda ["self", "word", "text"] (spx_ans TT C CN cp) := fun k =>
    FnOk.or (FnOk.or (FnOk.or (FnOk.lift (okx_a_things M Fa T_Desk D_read_names (mk_names (k + 5)) m_Desk_take_names b_Desk_take_names (mk_take (k + 7))))
      (okx_a_offer M Fa T_Desk D_read_offer (RO k) m_Desk_put_last b_Desk_put_last (mk_put (k + 4))))
      (FnOk.lift (ok_a_shop M Fa T_Desk D_tell_shop (ok_tell_shop M D_tell_shop D_show_shop (mk_show (k + 3))))))
      (okx_a_drop M Fa T_Desk D_read_number (RN (k + 6)) m_Desk_drop_last b_Desk_drop_last (mk_drop (k + 6)))
  have mk_say : ∀ k, FnOk P w K mg base (L2.CX P w) (k + 10) fy fdy ["self", "line"] (spx_say K (spx_ans TT C CN cp) C ch ct) := fun k => okx_say ans_monoE M PT Y.t Fy T_Desk DW m_Desk_answer b_Desk_answer (mk_ans k)
  have mk_says : ∀ k, FnOk P w K mg base CX0 (k + 11) f_law_says fd_law_says ["_law_desk", "_law_line"] (sp_says K (spx_ans TT C CN cp) C cl CN cp ct ch CP) := fun k => ok_says M XN Y D_law_says D_law_which (ok_which (k := k + 9) M Y D_law_which) T_Desk m_Desk_say b_Desk_say (mk_say k) ans_monoE ans_monoQ
  have mk_otext : ∀ k, FnOk P w K mg base CX0 (k + 2) f_law_offer_text fd_law_offer_text ["_law_names_here", "_law_offer"] sp_show_offer := fun k => ok_law_offer_text M D_law_offer_text D_law_content_text
  have G_law_seen : FnOk P w K mg base CX0 13 f_law_seen fd_law_seen ["_law_desk", "_law_own"] (sp_seen TT C) := ok_seen M OT D_law_seen D_law_says (mk_says 1) D_law_shop_text (ok_shop_text M D_law_shop_text D_law_offer_text (mk_otext 9))
  have G_law_pop : ∀ k, FnOk P w K mg base CX0 (k + 1) f_law_pop fd_law_pop ["_law_draws_here"] sp_pop := fun k => ok_pop D_law_pop
  have G_law_turn : FnOk P w K mg base CX0 13 f_law_turn fd_law_turn ["_law_draws_here", "_law_own"] sp_turn := ok_turn M D_law_turn D_law_pop (G_law_pop 11) D_law_names (ok_law_names (k := 10) M D_law_names D_law_pop) D_law_offered (ok_offered (k := 8) M D_law_offered D_law_content D_law_price D_law_tiers D_law_want D_law_pop D_law_cases) D_law_offer_text (mk_otext 10) D_law_good_offer (ok_goffer (k := 11) M D_law_good_offer D_law_tiers_good (ok_tgood (k := 10) M D_law_tiers_good))
  have G_law_draws : FnOk P w K mg base CX0 13 f_law_draws fd_law_draws ["_law_script", "_law_turn_here", "_law_many"] (sp_draws K) := ok_draws M D_law_draws
  refine FnOk.imp (ok_lawB (k := 12) M ON OP OT xN xP D D_law_draws G_law_draws D_law_pop (G_law_pop 12) D_law_turn G_law_turn D_law_says (mk_says 2) D_law_seen G_law_seen T_Desk MK_Desk b_Desk_init (ok_dinit (k := 11) M Fi T_Desk)) fun vs H Q E h => ?_
  obtain ⟨a, ns, rfl, hS0, hlen, hT1, hT2, hT3, q⟩ := h
  refine ⟨a, ns, rfl, hS0, hlen, fun t ht => ?_, q⟩
  rw [← hTT] at ht
  simp only [List.mem_cons, List.not_mem_nil, or_false] at ht
  rcases ht with rfl | rfl | rfl
  · exact hT1
  · exact hT2
  · exact hT3
end
/-! ### the end, with tables of code objects -/
theorem tabIn_of {K : PySem.W.Frag} {x : Str} {f c P : Addr} {oc e : Value} {od dd : Option Addr} {fd : FuncData} {sl sl' : Array (Option Value)} {vs : Array Value} (a : PySem.W.nsIn K mainGlobals x = some (some (.ref f))) (l : K.lookup f = some ⟨oc, od, .func fd, sl⟩) (hc : fd.code = .ref c)
    (lc : K.lookup c = some ⟨e, dd, .fields vs, sl'⟩) (hv : vs[11]? = some (.ref P)) : PySem.W.tabIn K x = some (c, P) := by
  unfold PySem.W.tabIn
  rw [a]
  simp only [l, hc, lc, hv]
theorem walk_ofG {l : PySem.W.OpenLaw} {n k : Nat} {q : Program} {loose : List Str} {XP : (Str → Option Value) → Heap → Prop} {YP : World → Heap → Prop} {d : DefRec} {K : Params → PySem.W.Frag} {CX : World → CXT} {x : Str}
    (hn : l.most = some n) (hn2 : n ≤ sizeLine) (hdf : d.params.defaults = []) (hr : Room k callerA) (hY : ∀ (w : World) (h : Heap), YP w h → (K w.params).In h)
    (F : ∀ (w : World) (mg : Str → Option Value) (fa : Addr) (h : Heap), (K w.params).In h → h.Ns mainGlobals mg → mg d.name = some (.ref fa) →
      (∀ (y : Str) (c P : Addr), ((recsOf q).find? fun e => e.name == y).isSome = true → PySem.W.tabIn (K w.params) y = some (c, P) → PySem.W.CodeHd h c P ∧ h.get? P = some { cls := .none, data := .fields #[] }) → LamX.LawAtS l w (K w.params) (CX w) k n x mg fa h)
    (hCX : ∀ (w : World) (H : Hp) (s : Shared) (e : Value) (s' : Shared), CX w [] H s (fun _ _ _ => False) e s' → False) :
    PySem.W.WalkO q loose XP YP l.row.toRowW d [] (fun f vs => PySem.call f vs) := by
  refine Att.attach_callB hn hdf fun w s₀ s₁ mg mb fa o pm cd doc a vs ns G Y ho hd hcd hmg hobj hints hlen hbits hg => ?_
  have KX := hY w _ Y
  obtain ⟨fd, cs, sp, hT, nT, C, hb, hsp, hF⟩ := F w mg fa _ KX G.T.g hmg fun y c P hy ht => by
    obtain ⟨dd, hdd⟩ := Option.isSome_iff_exists.mp hy
    exact PySem.W.tab_of G.T KX hdd ht
  exact LamX.law_callTs KX G.T.g G.T.b G.T.builtins G.T.nolimit hg hT nT C G.T.bmain hobj hints (Nat.le_trans hlen hn2) hr hF hb (fun H hH hS => hsp H a ns hlen hbits hH hS) fun H e s' => hCX w H s₁ e s'
/-! ### what the top has written -/
theorem all_mk {l : PySem.W.OpenLaw} {w : World} {q : Program} {K : PySem.W.Frag} {h : Heap} {mg : Str → Option Value} {fa f1 f2 f3 f4 f5 f6 f7 f8 f9 f10 f11 f12 f13 f14 f15 f16 f17 f18 f19 f20 f21 f22 f23 f24 f25 f26 f27 f28 f29 f30 f31 f32 f33 f34 f35 f36 f37 f38 f39 : Addr} (X : K.In h) (G : h.Ns mainGlobals mg) (hfa : mg "law" = some (.ref fa))
    (tabs : ∀ (y : Str) (c P : Addr), ((recsOf q).find? fun e => e.name == y).isSome = true → PySem.W.tabIn K y = some (c, P) → PySem.W.CodeHd h c P ∧ h.get? P = some { cls := .none, data := .fields #[] })
    {od1 an1 od2 an2 od3 an3 od4 an4 od5 an5 od6 an6 od7 an7 od8 an8 od9 an9 od10 an10 od11 an11 od12 an12 od13 an13 od14 an14 od15 an15 od16 an16 od17 an17 od18 an18 od19 an19 od20 an20 od21 an21 od22 an22 od23 an23 od24 an24 od25 an25 od26 an26 od27 an27 od28 an28 od29 an29 od30 an30 od31 an31 od32 an32 od33 an33 od34 an34 od35 an35 od36 an36 od37 an37 od38 an38 od39 an39 : Option Addr} {sl1 sl2 sl3 sl4 sl5 sl6 sl7 sl8 sl9 sl10 sl11 sl12 sl13 sl14 sl15 sl16 sl17 sl18 sl19 sl20 sl21 sl22 sl23 sl24 sl25 sl26 sl27 sl28 sl29 sl30 sl31 sl32 sl33 sl34 sl35 sl36 sl37 sl38 sl39 : Array (Option Value)} {oc1 kV1 dc1 pm1 ct1 cd1 oc2 kV2 dc2 pm2 ct2 cd2 oc3 kV3 dc3 pm3 ct3 oc4 kV4 dc4 pm4 ct4 cd4 oc5 kV5 dc5 pm5 ct5 cd5 oc6 kV6 dc6 pm6 ct6 cd6 oc7 kV7 dc7 pm7 ct7 cd7 oc8 kV8 dc8 pm8 ct8 cd8 oc9 kV9 dc9 pm9 ct9 oc10 kV10 dc10 pm10 ct10 cd10 oc11 kV11 dc11 pm11 ct11 oc12 kV12 dc12 pm12 ct12 cd12 oc13 kV13 dc13 pm13 ct13 cd13 oc14 kV14 dc14 pm14 ct14 cd14 oc15 kV15 dc15 pm15 ct15 cd15 oc16 kV16 dc16 pm16 ct16 cd16 oc17 kV17 dc17 pm17 ct17 cd17 oc18 kV18 dc18 pm18 ct18 cd18 oc19 kV19 dc19 pm19 ct19 cd19 oc20 kV20 dc20 pm20 ct20 cd20 oc21 kV21 dc21 pm21 ct21 cd21 oc22 kV22 dc22 pm22 ct22 cd22 oc23 kV23 dc23 pm23 ct23 cd23 oc24 kV24 dc24 pm24 ct24 cd24 oc25 kV25 dc25 pm25 ct25 cd25 oc26 kV26 dc26 pm26 ct26 cd26 oc27 kV27 dc27 pm27 ct27 cd27 oc28 kV28 dc28 pm28 ct28 cd28 oc29 kV29 dc29 pm29 ct29 cd29 oc30 kV30 dc30 pm30 ct30 cd30 oc31 kV31 dc31 pm31 ct31 cd31 oc32 kV32 dc32 pm32 ct32 cd32 oc33 kV33 dc33 pm33 ct33 cd33 oc34 kV34 dc34 pm34 ct34 cd34 oc35 kV35 dc35 pm35 ct35 cd35 oc36 kV36 dc36 pm36 ct36 cd36 oc37 kV37 dc37 pm37 ct37 cd37 oc38 kV38 dc38 pm38 ct38 cd38 oc39 kV39 dc39 pm39 ct39 cd39 : Value}
    {cT3 PT3 : Addr} {eT3 : Value} {dT3 : Option Addr} {vT3 : Array Value} {sT3 : Array (Option Value)}
    {cT9 PT9 : Addr} {eT9 : Value} {dT9 : Option Addr} {vT9 : Array Value} {sT9 : Array (Option Value)}
    {cT11 PT11 : Addr} {eT11 : Value} {dT11 : Option Addr} {vT11 : Array Value} {sT11 : Array (Option Value)}
    {CD aW aA aQ gD_init gD_say gD_answer gD_take_names gD_put_last gD_drop_last fX_tell_cost fX_tell_buy fX_tell_value : Addr} {odD_init anD_init odD_say anD_say odD_answer anD_answer odD_take_names anD_take_names odD_put_last anD_put_last odD_drop_last anD_drop_last odW odA : Option Addr} {slD_init slD_say slD_answer slD_take_names slD_put_last slD_drop_last slW slA : Array (Option Value)} {ocD_init kVD_init dcD_init pmD_init cdD_init ctD_init ocD_say kVD_say dcD_say pmD_say cdD_say ctD_say ocD_answer kVD_answer dcD_answer pmD_answer cdD_answer ctD_answer ocD_take_names kVD_take_names dcD_take_names pmD_take_names cdD_take_names ctD_take_names ocD_put_last kVD_put_last dcD_put_last pmD_put_last cdD_put_last ctD_put_last ocD_drop_last kVD_drop_last dcD_drop_last pmD_drop_last cdD_drop_last ctD_drop_last : Value} {itsW itsA : Array Value} {nW nA nQ : Nat} {esQ : Array DictEntry}
    (daD : PySem.W.nsIn K mainGlobals "Desk" = some (some (.ref CD)))
    (da_init : PySem.W.findIn K (.ref CD) "__init__" = some (some (.ref gD_init)))
    (di_init : PySem.W.isFn K (.ref gD_init) = true)
    (dl_init : K.lookup gD_init = some ⟨ocD_init, odD_init, .func (PySem.W.fnOf "__init__" "Desk.__init__" (defArgs s_Desk_init) (defBody s_Desk_init) (defScope s_Desk_init) .none kVD_init dcD_init pmD_init anD_init cdD_init ctD_init), slD_init⟩)
    (dc_init : PySem.W.codeIn K cdD_init "Desk.__init__" = true)
    (dk_init : PySem.W.keepIn K (.ref gD_init) = true)
    (da_say : PySem.W.findIn K (.ref CD) "say" = some (some (.ref gD_say)))
    (di_say : PySem.W.isFn K (.ref gD_say) = true)
    (dl_say : K.lookup gD_say = some ⟨ocD_say, odD_say, .func (PySem.W.fnOf "say" "Desk.say" (defArgs s_Desk_say) (defBody s_Desk_say) (defScope s_Desk_say) .none kVD_say dcD_say pmD_say anD_say cdD_say ctD_say), slD_say⟩)
    (dc_say : PySem.W.codeIn K cdD_say "Desk.say" = true)
    (dk_say : PySem.W.keepIn K (.ref gD_say) = true)
    (da_answer : PySem.W.findIn K (.ref CD) "answer" = some (some (.ref gD_answer)))
    (di_answer : PySem.W.isFn K (.ref gD_answer) = true)
    (dl_answer : K.lookup gD_answer = some ⟨ocD_answer, odD_answer, .func (PySem.W.fnOf "answer" "Desk.answer" (defArgs s_Desk_answer) (defBody s_Desk_answer) (defScope s_Desk_answer) .none kVD_answer dcD_answer pmD_answer anD_answer cdD_answer ctD_answer), slD_answer⟩)
    (dc_answer : PySem.W.codeIn K cdD_answer "Desk.answer" = true)
    (dk_answer : PySem.W.keepIn K (.ref gD_answer) = true)
    (da_take_names : PySem.W.findIn K (.ref CD) "take_names" = some (some (.ref gD_take_names)))
    (di_take_names : PySem.W.isFn K (.ref gD_take_names) = true)
    (dl_take_names : K.lookup gD_take_names = some ⟨ocD_take_names, odD_take_names, .func (PySem.W.fnOf "take_names" "Desk.take_names" (defArgs s_Desk_take_names) (defBody s_Desk_take_names) (defScope s_Desk_take_names) .none kVD_take_names dcD_take_names pmD_take_names anD_take_names cdD_take_names ctD_take_names), slD_take_names⟩)
    (dc_take_names : PySem.W.codeIn K cdD_take_names "Desk.take_names" = true)
    (dk_take_names : PySem.W.keepIn K (.ref gD_take_names) = true)
    (da_put_last : PySem.W.findIn K (.ref CD) "put_last" = some (some (.ref gD_put_last)))
    (di_put_last : PySem.W.isFn K (.ref gD_put_last) = true)
    (dl_put_last : K.lookup gD_put_last = some ⟨ocD_put_last, odD_put_last, .func (PySem.W.fnOf "put_last" "Desk.put_last" (defArgs s_Desk_put_last) (defBody s_Desk_put_last) (defScope s_Desk_put_last) .none kVD_put_last dcD_put_last pmD_put_last anD_put_last cdD_put_last ctD_put_last), slD_put_last⟩)
    (dc_put_last : PySem.W.codeIn K cdD_put_last "Desk.put_last" = true)
    (dk_put_last : PySem.W.keepIn K (.ref gD_put_last) = true)
    (da_drop_last : PySem.W.findIn K (.ref CD) "drop_last" = some (some (.ref gD_drop_last)))
    (di_drop_last : PySem.W.isFn K (.ref gD_drop_last) = true)
    (dl_drop_last : K.lookup gD_drop_last = some ⟨ocD_drop_last, odD_drop_last, .func (PySem.W.fnOf "drop_last" "Desk.drop_last" (defArgs s_Desk_drop_last) (defBody s_Desk_drop_last) (defScope s_Desk_drop_last) .none kVD_drop_last dcD_drop_last pmD_drop_last anD_drop_last cdD_drop_last ctD_drop_last), slD_drop_last⟩)
    (dc_drop_last : PySem.W.codeIn K cdD_drop_last "Desk.drop_last" = true)
    (dk_drop_last : PySem.W.keepIn K (.ref gD_drop_last) = true)
    (dpg : PySem.W.plainGet K CD Str.empty = true)
    (dhd : PySem.W.hasDictIn K CD = true)
    (dpo : PySem.W.plainOver K CD = true)
    (dsa : PySem.W.findIn K (.ref CD) "__setattr__" = some (some (.builtin "object.__setattr__")))
    (dmk : PySem.W.makesIn K CD = true)
    (dkc : PySem.W.keepIn K (.ref CD) = true)
    (dmo : PySem.W.mroIn K CD (.type "object") = some true)
    (deq : PySem.W.findIn K (.ref CD) "__eq__" = some (some (.builtin "object.__eq__")))
    (dn_names : PySem.W.findIn K (.ref CD) "names" = some none)
    (dn_shop : PySem.W.findIn K (.ref CD) "shop" = some none)
    (eaW : PySem.W.nsIn K mainGlobals "WORDS" = some (some (.ref aW)))
    (eaA : PySem.W.nsIn K mainGlobals "WORDS_ALONE" = some (some (.ref aA)))
    (eaQ : PySem.W.nsIn K mainGlobals "QUESTIONS" = some (some (.ref aQ)))
    (elW : K.lookup aW = some ⟨.type "tuple", odW, .seq itsW nW, slW⟩)
    (esW : itsW.size ≤ sizeLine)
    (evW : Vals [V.str "things", V.str "offer", V.str "drop", V.str "shop", V.str "cost", V.str "buy", V.str "value", V.str "spare"] itsW.toList)
    (elA : K.lookup aA = some ⟨.type "tuple", odA, .seq itsA nA, slA⟩)
    (esA : itsA.size ≤ sizeLine)
    (evA : Vals [V.str "shop", V.str "spare"] itsA.toList)
    (elQ : K.lookup aQ = some ⟨.type "dict", none, .dict esQ nQ, #[]⟩)
    (ekQ : PySem.W.KeysLit w.params esQ.toList)
    (eq_cost : PySem.W.nsIn K aQ "cost" = some (some (.ref fX_tell_cost)))
    (eq_buy : PySem.W.nsIn K aQ "buy" = some (some (.ref fX_tell_buy)))
    (eq_value : PySem.W.nsIn K aQ "value" = some (some (.ref fX_tell_value)))
    {C CP fI cNoLine cNoPlace cNoText cNoThings : Addr} {nmC qC : Str} {NC : Addr} {bsC : List Value} {snC : List Str} {subC : List Value} {abC : Bool} {colC : Option Bool} {ddC : Option Addr} {mC0 mC1 mC2 mC3 mC5 : Option Value} {odI anI : Option Addr} {slI : Array (Option Value)} {ocI kVI dcI pmI cdI ctI : Value}
    (xaC : PySem.W.nsIn K mainGlobals "NoOffer" = some (some (.ref C)))
    (xaP : PySem.W.nsIn K mainGlobals "PackError" = some (some (.ref CP)))
    (xL : K.lookup C = some (excClassObj nmC qC C NC bsC [.ref CP, .type "ValueError", .type "Exception", .type "BaseException", .type "object"] true snC subC abC colC ddC mC0 mC1 mC2 mC3 mC5 "ValueError.__new__"))
    (xsa : PySem.W.findIn K (.ref C) "__setattr__" = some (some (.builtin "object.__setattr__")))
    (xex : PySem.W.subIn K (.ref C) (.type "BaseException") = some true)
    (xty : PySem.W.typeIn K (.ref C) = some (.type "type"))
    (xkC : PySem.W.keepIn K (.ref C) = true)
    (xrP : PySem.W.readsIn K CP (.type "type") = true)
    (xgP : PySem.W.specialIn K (.ref CP) "__getattribute__" = some (some (.builtin "type.__getattribute__")))
    (xvP : PySem.W.findCls K (.ref CP) (.type "type") "__init__" = some (.val (.builtin "ValueError.__init__")))
    (xnp : PySem.W.findIn K (.ref C) "place" = some none)
    (xiC : PySem.W.findIn K (.ref C) "__init__" = some (some (.ref fI)))
    (xtI : PySem.W.typeIn K (.ref fI) = some (.type "function"))
    (xlI : K.lookup fI = some ⟨ocI, odI, .func (PySem.W.fnOf "__init__" "NoOffer.__init__" (defArgs s_ninit) (defBody s_ninit) (defScope s_ninit) .none kVI dcI pmI anI cdI ctI), slI⟩)
    (xcI : PySem.W.codeIn K cdI "NoOffer.__init__" = true)
    (xkI : PySem.W.keepIn K (.ref fI) = true)
    (xhg : PySem.W.findIn K (.ref C) "__getattribute__" = some (some (.builtin "BaseException.__getattribute__")))
    (xhk : PySem.W.findIn K (.ref C) "__getattr__" = some none)
    (xhd : PySem.W.hasDictIn K C = true)
    (xha : PySem.W.findIn K (.ref C) "__class__" = some (some (.builtin "object.__class__")))
    (xhn : PySem.W.specialIn K (.builtin "object.__class__") "__get__" = some (some (.builtin "getset_descriptor.__get__")))
    (xht : PySem.W.takesIn K (.builtin "object.__class__") = some true)
    (xhm : PySem.W.mroIn K C (.type "object") = some true)
    (xv : PySem.W.nsIn K mainGlobals "ValueError" = some none)
    (xkv : PySem.W.kitOne K (.ref C) (.type "ValueError") = some true)
    (xkp : PySem.W.kitOne K (.ref C) (.ref CP) = some true)
    (xkn : PySem.W.kitOne K (.ref C) (.ref C) = some true)
    (xem : PySem.W.exmOne K (.ref C) (.ref CP) = some true)
    (xaNoLine : PySem.W.nsIn K mainGlobals "NoLine" = some (some (.ref cNoLine)))
    (xkNoLine : PySem.W.kitOne K (.ref C) (.ref cNoLine) = some false)
    (xaNoPlace : PySem.W.nsIn K mainGlobals "NoPlace" = some (some (.ref cNoPlace)))
    (xkNoPlace : PySem.W.kitOne K (.ref C) (.ref cNoPlace) = some false)
    (xaNoText : PySem.W.nsIn K mainGlobals "NoText" = some (some (.ref cNoText)))
    (xkNoText : PySem.W.kitOne K (.ref C) (.ref cNoText) = some false)
    (xaNoThings : PySem.W.nsIn K mainGlobals "NoThings" = some (some (.ref cNoThings)))
    (xkNoThings : PySem.W.kitOne K (.ref C) (.ref cNoThings) = some false)
    (xnt : PySem.W.exmOne K (.ref C) (.ref cNoText) = some false)
    (peNoPlace : PySem.W.excIn K cNoPlace [.type "ValueError", .type "Exception", .type "BaseException", .type "object"] "ValueError.__new__" = true)
    (pkNoPlace : PySem.W.keepIn K (.ref cNoPlace) = true)
    (ptNoPlace : PySem.W.typeIn K (.ref cNoPlace) = some (.type "type"))
    (pgNoPlace : PySem.W.findIn K (.ref cNoPlace) "__getattribute__" = some (some (.builtin "BaseException.__getattribute__")))
    (phNoPlace : PySem.W.findIn K (.ref cNoPlace) "__getattr__" = some none)
    (pxNoPlace : PySem.W.subIn K (.ref cNoPlace) (.type "BaseException") = some true)
    (pdNoPlace : PySem.W.hasDictIn K cNoPlace = true)
    (paNoPlace : PySem.W.findIn K (.ref cNoPlace) "__class__" = some (some (.builtin "object.__class__")))
    (pmNoPlace : PySem.W.mroIn K cNoPlace (.type "object") = some true)
    (ppNoPlace : PySem.W.kitOne K (.ref cNoPlace) (.ref CP) = some true)
    (pvNoPlace : PySem.W.kitOne K (.ref cNoPlace) (.type "ValueError") = some true)
    (pqNoPlace : PySem.W.exmOne K (.ref cNoPlace) (.ref CP) = some true)
    (pnNoPlace : PySem.W.exmOne K (.ref cNoPlace) (.ref cNoText) = some false)
    (pfNoPlace_NoLine : PySem.W.kitOne K (.ref cNoPlace) (.ref cNoLine) = some false)
    (pfNoPlace_C : PySem.W.kitOne K (.ref cNoPlace) (.ref C) = some false)
    (pfNoPlace_NoPlace : PySem.W.kitOne K (.ref cNoPlace) (.ref cNoPlace) = some true)
    (pfNoPlace_NoText : PySem.W.kitOne K (.ref cNoPlace) (.ref cNoText) = some false)
    (pfNoPlace_NoThings : PySem.W.kitOne K (.ref cNoPlace) (.ref cNoThings) = some false)
    (peNoThings : PySem.W.excIn K cNoThings [.type "ValueError", .type "Exception", .type "BaseException", .type "object"] "ValueError.__new__" = true)
    (pkNoThings : PySem.W.keepIn K (.ref cNoThings) = true)
    (ptNoThings : PySem.W.typeIn K (.ref cNoThings) = some (.type "type"))
    (pgNoThings : PySem.W.findIn K (.ref cNoThings) "__getattribute__" = some (some (.builtin "BaseException.__getattribute__")))
    (phNoThings : PySem.W.findIn K (.ref cNoThings) "__getattr__" = some none)
    (pxNoThings : PySem.W.subIn K (.ref cNoThings) (.type "BaseException") = some true)
    (pdNoThings : PySem.W.hasDictIn K cNoThings = true)
    (paNoThings : PySem.W.findIn K (.ref cNoThings) "__class__" = some (some (.builtin "object.__class__")))
    (pmNoThings : PySem.W.mroIn K cNoThings (.type "object") = some true)
    (ppNoThings : PySem.W.kitOne K (.ref cNoThings) (.ref CP) = some true)
    (pvNoThings : PySem.W.kitOne K (.ref cNoThings) (.type "ValueError") = some true)
    (pqNoThings : PySem.W.exmOne K (.ref cNoThings) (.ref CP) = some true)
    (pnNoThings : PySem.W.exmOne K (.ref cNoThings) (.ref cNoText) = some false)
    (pfNoThings_NoLine : PySem.W.kitOne K (.ref cNoThings) (.ref cNoLine) = some false)
    (pfNoThings_C : PySem.W.kitOne K (.ref cNoThings) (.ref C) = some false)
    (pfNoThings_NoPlace : PySem.W.kitOne K (.ref cNoThings) (.ref cNoPlace) = some false)
    (pfNoThings_NoText : PySem.W.kitOne K (.ref cNoThings) (.ref cNoText) = some false)
    (pfNoThings_NoThings : PySem.W.kitOne K (.ref cNoThings) (.ref cNoThings) = some true)
    (a1 : PySem.W.nsIn K mainGlobals "law" = some (some (.ref f1))) (l1 : K.lookup f1 = some ⟨oc1, od1, .func (PySem.W.fnOf "law" "law" (defArgs s_law) (defBody s_law) (defScope s_law) .none kV1 dc1 pm1 an1 cd1 ct1), sl1⟩) (c1 : PySem.W.codeIn K cd1 "law" = true) (k1 : PySem.W.keepIn K (.ref f1) = true)
    (a2 : PySem.W.nsIn K mainGlobals "names_pack" = some (some (.ref f2))) (l2 : K.lookup f2 = some ⟨oc2, od2, .func (PySem.W.fnOf "names_pack" "names_pack" (defArgs s_names_pack) (defBody s_names_pack) (defScope s_names_pack) .none kV2 dc2 pm2 an2 cd2 ct2), sl2⟩) (c2 : PySem.W.codeIn K cd2 "names_pack" = true) (k2 : PySem.W.keepIn K (.ref f2) = true)
    (a3 : PySem.W.nsIn K mainGlobals "good_tiers" = some (some (.ref f3))) (l3 : K.lookup f3 = some ⟨oc3, od3, .func (PySem.W.fnOf "good_tiers" "good_tiers" (defArgs s_good_tiers) (defBody s_good_tiers) (defScope s_good_tiers) .none kV3 dc3 pm3 an3 (.ref cT3) ct3), sl3⟩) (c3 : PySem.W.codeIn K (.ref cT3) "good_tiers" = true) (k3 : PySem.W.keepIn K (.ref f3) = true)
    (a4 : PySem.W.nsIn K mainGlobals "can_stand" = some (some (.ref f4))) (l4 : K.lookup f4 = some ⟨oc4, od4, .func (PySem.W.fnOf "can_stand" "can_stand" (defArgs s_can_stand) (defBody s_can_stand) (defScope s_can_stand) .none kV4 dc4 pm4 an4 cd4 ct4), sl4⟩) (c4 : PySem.W.codeIn K cd4 "can_stand" = true) (k4 : PySem.W.keepIn K (.ref f4) = true)
    (a5 : PySem.W.nsIn K mainGlobals "look" = some (some (.ref f5))) (l5 : K.lookup f5 = some ⟨oc5, od5, .func (PySem.W.fnOf "look" "look" (defArgs s_look) (defBody s_look) (defScope s_look) .none kV5 dc5 pm5 an5 cd5 ct5), sl5⟩) (c5 : PySem.W.codeIn K cd5 "look" = true) (k5 : PySem.W.keepIn K (.ref f5) = true)
    (a6 : PySem.W.nsIn K mainGlobals "show_content" = some (some (.ref f6))) (l6 : K.lookup f6 = some ⟨oc6, od6, .func (PySem.W.fnOf "show_content" "show_content" (defArgs s_show_content) (defBody s_show_content) (defScope s_show_content) .none kV6 dc6 pm6 an6 cd6 ct6), sl6⟩) (c6 : PySem.W.codeIn K cd6 "show_content" = true) (k6 : PySem.W.keepIn K (.ref f6) = true)
    (a7 : PySem.W.nsIn K mainGlobals "show_offer" = some (some (.ref f7))) (l7 : K.lookup f7 = some ⟨oc7, od7, .func (PySem.W.fnOf "show_offer" "show_offer" (defArgs s_show_offer) (defBody s_show_offer) (defScope s_show_offer) .none kV7 dc7 pm7 an7 cd7 ct7), sl7⟩) (c7 : PySem.W.codeIn K cd7 "show_offer" = true) (k7 : PySem.W.keepIn K (.ref f7) = true)
    (a8 : PySem.W.nsIn K mainGlobals "show_shop" = some (some (.ref f8))) (l8 : K.lookup f8 = some ⟨oc8, od8, .func (PySem.W.fnOf "show_shop" "show_shop" (defArgs s_show_shop) (defBody s_show_shop) (defScope s_show_shop) .none kV8 dc8 pm8 an8 cd8 ct8), sl8⟩) (c8 : PySem.W.codeIn K cd8 "show_shop" = true) (k8 : PySem.W.keepIn K (.ref f8) = true)
    (a9 : PySem.W.nsIn K mainGlobals "made_of" = some (some (.ref f9))) (l9 : K.lookup f9 = some ⟨oc9, od9, .func (PySem.W.fnOf "made_of" "made_of" (defArgs s_made_of) (defBody s_made_of) (defScope s_made_of) .none kV9 dc9 pm9 an9 (.ref cT9) ct9), sl9⟩) (c9 : PySem.W.codeIn K (.ref cT9) "made_of" = true) (k9 : PySem.W.keepIn K (.ref f9) = true)
    (a10 : PySem.W.nsIn K mainGlobals "read_number" = some (some (.ref f10))) (l10 : K.lookup f10 = some ⟨oc10, od10, .func (PySem.W.fnOf "read_number" "read_number" (defArgs s_read_number) (defBody s_read_number) (defScope s_read_number) .none kV10 dc10 pm10 an10 cd10 ct10), sl10⟩) (c10 : PySem.W.codeIn K cd10 "read_number" = true) (k10 : PySem.W.keepIn K (.ref f10) = true)
    (a11 : PySem.W.nsIn K mainGlobals "read_names" = some (some (.ref f11))) (l11 : K.lookup f11 = some ⟨oc11, od11, .func (PySem.W.fnOf "read_names" "read_names" (defArgs s_read_names) (defBody s_read_names) (defScope s_read_names) .none kV11 dc11 pm11 an11 (.ref cT11) ct11), sl11⟩) (c11 : PySem.W.codeIn K (.ref cT11) "read_names" = true) (k11 : PySem.W.keepIn K (.ref f11) = true)
    (a12 : PySem.W.nsIn K mainGlobals "within_bounds" = some (some (.ref f12))) (l12 : K.lookup f12 = some ⟨oc12, od12, .func (PySem.W.fnOf "within_bounds" "within_bounds" (defArgs s_within_bounds) (defBody s_within_bounds) (defScope s_within_bounds) .none kV12 dc12 pm12 an12 cd12 ct12), sl12⟩) (c12 : PySem.W.codeIn K cd12 "within_bounds" = true) (k12 : PySem.W.keepIn K (.ref f12) = true)
    (a13 : PySem.W.nsIn K mainGlobals "read_thing" = some (some (.ref f13))) (l13 : K.lookup f13 = some ⟨oc13, od13, .func (PySem.W.fnOf "read_thing" "read_thing" (defArgs s_read_thing) (defBody s_read_thing) (defScope s_read_thing) .none kV13 dc13 pm13 an13 cd13 ct13), sl13⟩) (c13 : PySem.W.codeIn K cd13 "read_thing" = true) (k13 : PySem.W.keepIn K (.ref f13) = true)
    (a14 : PySem.W.nsIn K mainGlobals "read_content" = some (some (.ref f14))) (l14 : K.lookup f14 = some ⟨oc14, od14, .func (PySem.W.fnOf "read_content" "read_content" (defArgs s_read_content) (defBody s_read_content) (defScope s_read_content) .none kV14 dc14 pm14 an14 cd14 ct14), sl14⟩) (c14 : PySem.W.codeIn K cd14 "read_content" = true) (k14 : PySem.W.keepIn K (.ref f14) = true)
    (a15 : PySem.W.nsIn K mainGlobals "read_goods" = some (some (.ref f15))) (l15 : K.lookup f15 = some ⟨oc15, od15, .func (PySem.W.fnOf "read_goods" "read_goods" (defArgs s_read_goods) (defBody s_read_goods) (defScope s_read_goods) .none kV15 dc15 pm15 an15 cd15 ct15), sl15⟩) (c15 : PySem.W.codeIn K cd15 "read_goods" = true) (k15 : PySem.W.keepIn K (.ref f15) = true)
    (a16 : PySem.W.nsIn K mainGlobals "read_sold" = some (some (.ref f16))) (l16 : K.lookup f16 = some ⟨oc16, od16, .func (PySem.W.fnOf "read_sold" "read_sold" (defArgs s_read_sold) (defBody s_read_sold) (defScope s_read_sold) .none kV16 dc16 pm16 an16 cd16 ct16), sl16⟩) (c16 : PySem.W.codeIn K cd16 "read_sold" = true) (k16 : PySem.W.keepIn K (.ref f16) = true)
    (a17 : PySem.W.nsIn K mainGlobals "read_tier" = some (some (.ref f17))) (l17 : K.lookup f17 = some ⟨oc17, od17, .func (PySem.W.fnOf "read_tier" "read_tier" (defArgs s_read_tier) (defBody s_read_tier) (defScope s_read_tier) .none kV17 dc17 pm17 an17 cd17 ct17), sl17⟩) (c17 : PySem.W.codeIn K cd17 "read_tier" = true) (k17 : PySem.W.keepIn K (.ref f17) = true)
    (a18 : PySem.W.nsIn K mainGlobals "read_many" = some (some (.ref f18))) (l18 : K.lookup f18 = some ⟨oc18, od18, .func (PySem.W.fnOf "read_many" "read_many" (defArgs s_read_many) (defBody s_read_many) (defScope s_read_many) .none kV18 dc18 pm18 an18 cd18 ct18), sl18⟩) (c18 : PySem.W.codeIn K cd18 "read_many" = true) (k18 : PySem.W.keepIn K (.ref f18) = true)
    (a19 : PySem.W.nsIn K mainGlobals "read_add" = some (some (.ref f19))) (l19 : K.lookup f19 = some ⟨oc19, od19, .func (PySem.W.fnOf "read_add" "read_add" (defArgs s_read_add) (defBody s_read_add) (defScope s_read_add) .none kV19 dc19 pm19 an19 cd19 ct19), sl19⟩) (c19 : PySem.W.codeIn K cd19 "read_add" = true) (k19 : PySem.W.keepIn K (.ref f19) = true)
    (a20 : PySem.W.nsIn K mainGlobals "read_offer" = some (some (.ref f20))) (l20 : K.lookup f20 = some ⟨oc20, od20, .func (PySem.W.fnOf "read_offer" "read_offer" (defArgs s_read_offer) (defBody s_read_offer) (defScope s_read_offer) .none kV20 dc20 pm20 an20 cd20 ct20), sl20⟩) (c20 : PySem.W.codeIn K cd20 "read_offer" = true) (k20 : PySem.W.keepIn K (.ref f20) = true)
    (a21 : PySem.W.nsIn K mainGlobals "tell_shop" = some (some (.ref f21))) (l21 : K.lookup f21 = some ⟨oc21, od21, .func (PySem.W.fnOf "tell_shop" "tell_shop" (defArgs s_tell_shop) (defBody s_tell_shop) (defScope s_tell_shop) .none kV21 dc21 pm21 an21 cd21 ct21), sl21⟩) (c21 : PySem.W.codeIn K cd21 "tell_shop" = true) (k21 : PySem.W.keepIn K (.ref f21) = true)
    (a22 : PySem.W.nsIn K mainGlobals "_law_draws" = some (some (.ref f22))) (l22 : K.lookup f22 = some ⟨oc22, od22, .func (PySem.W.fnOf "_law_draws" "_law_draws" (defArgs s_law_draws) (defBody s_law_draws) (defScope s_law_draws) .none kV22 dc22 pm22 an22 cd22 ct22), sl22⟩) (c22 : PySem.W.codeIn K cd22 "_law_draws" = true) (k22 : PySem.W.keepIn K (.ref f22) = true)
    (a23 : PySem.W.nsIn K mainGlobals "_law_pop" = some (some (.ref f23))) (l23 : K.lookup f23 = some ⟨oc23, od23, .func (PySem.W.fnOf "_law_pop" "_law_pop" (defArgs s_law_pop) (defBody s_law_pop) (defScope s_law_pop) .none kV23 dc23 pm23 an23 cd23 ct23), sl23⟩) (c23 : PySem.W.codeIn K cd23 "_law_pop" = true) (k23 : PySem.W.keepIn K (.ref f23) = true)
    (a24 : PySem.W.nsIn K mainGlobals "_law_want" = some (some (.ref f24))) (l24 : K.lookup f24 = some ⟨oc24, od24, .func (PySem.W.fnOf "_law_want" "_law_want" (defArgs s_law_want) (defBody s_law_want) (defScope s_law_want) .none kV24 dc24 pm24 an24 cd24 ct24), sl24⟩) (c24 : PySem.W.codeIn K cd24 "_law_want" = true) (k24 : PySem.W.keepIn K (.ref f24) = true)
    (a25 : PySem.W.nsIn K mainGlobals "_law_cases" = some (some (.ref f25))) (l25 : K.lookup f25 = some ⟨oc25, od25, .func (PySem.W.fnOf "_law_cases" "_law_cases" (defArgs s_law_cases) (defBody s_law_cases) (defScope s_law_cases) .none kV25 dc25 pm25 an25 cd25 ct25), sl25⟩) (c25 : PySem.W.codeIn K cd25 "_law_cases" = true) (k25 : PySem.W.keepIn K (.ref f25) = true)
    (a26 : PySem.W.nsIn K mainGlobals "_law_content" = some (some (.ref f26))) (l26 : K.lookup f26 = some ⟨oc26, od26, .func (PySem.W.fnOf "_law_content" "_law_content" (defArgs s_law_content) (defBody s_law_content) (defScope s_law_content) .none kV26 dc26 pm26 an26 cd26 ct26), sl26⟩) (c26 : PySem.W.codeIn K cd26 "_law_content" = true) (k26 : PySem.W.keepIn K (.ref f26) = true)
    (a27 : PySem.W.nsIn K mainGlobals "_law_price" = some (some (.ref f27))) (l27 : K.lookup f27 = some ⟨oc27, od27, .func (PySem.W.fnOf "_law_price" "_law_price" (defArgs s_law_price) (defBody s_law_price) (defScope s_law_price) .none kV27 dc27 pm27 an27 cd27 ct27), sl27⟩) (c27 : PySem.W.codeIn K cd27 "_law_price" = true) (k27 : PySem.W.keepIn K (.ref f27) = true)
    (a28 : PySem.W.nsIn K mainGlobals "_law_tiers" = some (some (.ref f28))) (l28 : K.lookup f28 = some ⟨oc28, od28, .func (PySem.W.fnOf "_law_tiers" "_law_tiers" (defArgs s_law_tiers) (defBody s_law_tiers) (defScope s_law_tiers) .none kV28 dc28 pm28 an28 cd28 ct28), sl28⟩) (c28 : PySem.W.codeIn K cd28 "_law_tiers" = true) (k28 : PySem.W.keepIn K (.ref f28) = true)
    (a29 : PySem.W.nsIn K mainGlobals "_law_names" = some (some (.ref f29))) (l29 : K.lookup f29 = some ⟨oc29, od29, .func (PySem.W.fnOf "_law_names" "_law_names" (defArgs s_law_names) (defBody s_law_names) (defScope s_law_names) .none kV29 dc29 pm29 an29 cd29 ct29), sl29⟩) (c29 : PySem.W.codeIn K cd29 "_law_names" = true) (k29 : PySem.W.keepIn K (.ref f29) = true)
    (a30 : PySem.W.nsIn K mainGlobals "_law_content_text" = some (some (.ref f30))) (l30 : K.lookup f30 = some ⟨oc30, od30, .func (PySem.W.fnOf "_law_content_text" "_law_content_text" (defArgs s_law_content_text) (defBody s_law_content_text) (defScope s_law_content_text) .none kV30 dc30 pm30 an30 cd30 ct30), sl30⟩) (c30 : PySem.W.codeIn K cd30 "_law_content_text" = true) (k30 : PySem.W.keepIn K (.ref f30) = true)
    (a31 : PySem.W.nsIn K mainGlobals "_law_offer_text" = some (some (.ref f31))) (l31 : K.lookup f31 = some ⟨oc31, od31, .func (PySem.W.fnOf "_law_offer_text" "_law_offer_text" (defArgs s_law_offer_text) (defBody s_law_offer_text) (defScope s_law_offer_text) .none kV31 dc31 pm31 an31 cd31 ct31), sl31⟩) (c31 : PySem.W.codeIn K cd31 "_law_offer_text" = true) (k31 : PySem.W.keepIn K (.ref f31) = true)
    (a32 : PySem.W.nsIn K mainGlobals "_law_offered" = some (some (.ref f32))) (l32 : K.lookup f32 = some ⟨oc32, od32, .func (PySem.W.fnOf "_law_offered" "_law_offered" (defArgs s_law_offered) (defBody s_law_offered) (defScope s_law_offered) .none kV32 dc32 pm32 an32 cd32 ct32), sl32⟩) (c32 : PySem.W.codeIn K cd32 "_law_offered" = true) (k32 : PySem.W.keepIn K (.ref f32) = true)
    (a33 : PySem.W.nsIn K mainGlobals "_law_tiers_good" = some (some (.ref f33))) (l33 : K.lookup f33 = some ⟨oc33, od33, .func (PySem.W.fnOf "_law_tiers_good" "_law_tiers_good" (defArgs s_law_tiers_good) (defBody s_law_tiers_good) (defScope s_law_tiers_good) .none kV33 dc33 pm33 an33 cd33 ct33), sl33⟩) (c33 : PySem.W.codeIn K cd33 "_law_tiers_good" = true) (k33 : PySem.W.keepIn K (.ref f33) = true)
    (a34 : PySem.W.nsIn K mainGlobals "_law_good_offer" = some (some (.ref f34))) (l34 : K.lookup f34 = some ⟨oc34, od34, .func (PySem.W.fnOf "_law_good_offer" "_law_good_offer" (defArgs s_law_good_offer) (defBody s_law_good_offer) (defScope s_law_good_offer) .none kV34 dc34 pm34 an34 cd34 ct34), sl34⟩) (c34 : PySem.W.codeIn K cd34 "_law_good_offer" = true) (k34 : PySem.W.keepIn K (.ref f34) = true)
    (a35 : PySem.W.nsIn K mainGlobals "_law_which" = some (some (.ref f35))) (l35 : K.lookup f35 = some ⟨oc35, od35, .func (PySem.W.fnOf "_law_which" "_law_which" (defArgs s_law_which) (defBody s_law_which) (defScope s_law_which) .none kV35 dc35 pm35 an35 cd35 ct35), sl35⟩) (c35 : PySem.W.codeIn K cd35 "_law_which" = true) (k35 : PySem.W.keepIn K (.ref f35) = true)
    (a36 : PySem.W.nsIn K mainGlobals "_law_says" = some (some (.ref f36))) (l36 : K.lookup f36 = some ⟨oc36, od36, .func (PySem.W.fnOf "_law_says" "_law_says" (defArgs s_law_says) (defBody s_law_says) (defScope s_law_says) .none kV36 dc36 pm36 an36 cd36 ct36), sl36⟩) (c36 : PySem.W.codeIn K cd36 "_law_says" = true) (k36 : PySem.W.keepIn K (.ref f36) = true)
    (a37 : PySem.W.nsIn K mainGlobals "_law_shop_text" = some (some (.ref f37))) (l37 : K.lookup f37 = some ⟨oc37, od37, .func (PySem.W.fnOf "_law_shop_text" "_law_shop_text" (defArgs s_law_shop_text) (defBody s_law_shop_text) (defScope s_law_shop_text) .none kV37 dc37 pm37 an37 cd37 ct37), sl37⟩) (c37 : PySem.W.codeIn K cd37 "_law_shop_text" = true) (k37 : PySem.W.keepIn K (.ref f37) = true)
    (a38 : PySem.W.nsIn K mainGlobals "_law_turn" = some (some (.ref f38))) (l38 : K.lookup f38 = some ⟨oc38, od38, .func (PySem.W.fnOf "_law_turn" "_law_turn" (defArgs s_law_turn) (defBody s_law_turn) (defScope s_law_turn) .none kV38 dc38 pm38 an38 cd38 ct38), sl38⟩) (c38 : PySem.W.codeIn K cd38 "_law_turn" = true) (k38 : PySem.W.keepIn K (.ref f38) = true)
    (a39 : PySem.W.nsIn K mainGlobals "_law_seen" = some (some (.ref f39))) (l39 : K.lookup f39 = some ⟨oc39, od39, .func (PySem.W.fnOf "_law_seen" "_law_seen" (defArgs s_law_seen) (defBody s_law_seen) (defScope s_law_seen) .none kV39 dc39 pm39 an39 cd39 ct39), sl39⟩) (c39 : PySem.W.codeIn K cd39 "_law_seen" = true) (k39 : PySem.W.keepIn K (.ref f39) = true)
    (lc3 : K.lookup cT3 = some ⟨eT3, dT3, .fields vT3, sT3⟩) (hv3 : vT3[11]? = some (.ref PT3)) (nt3 : (K.lookup PT3).isNone = true) (rc3 : ((recsOf q).find? fun e => e.name == ("good_tiers" : Str)).isSome = true)
    (lc9 : K.lookup cT9 = some ⟨eT9, dT9, .fields vT9, sT9⟩) (hv9 : vT9[11]? = some (.ref PT9)) (nt9 : (K.lookup PT9).isNone = true) (rc9 : ((recsOf q).find? fun e => e.name == ("made_of" : Str)).isSome = true)
    (lc11 : K.lookup cT11 = some ⟨eT11, dT11, .fields vT11, sT11⟩) (hv11 : vT11[11]? = some (.ref PT11)) (nt11 : (K.lookup PT11).isNone = true) (rc11 : ((recsOf q).find? fun e => e.name == ("read_names" : Str)).isSome = true)
    (z1 : PySem.W.nsIn K mainGlobals "len" = some none)
    (z2 : PySem.W.nsIn K mainGlobals "range" = some none)
    (z3 : PySem.W.nsIn K mainGlobals "max" = some none)
    (z4 : PySem.W.nsIn K mainGlobals "list" = some none)
    (z5 : PySem.W.nsIn K mainGlobals "isinstance" = some none)
    (z6 : PySem.W.nsIn K mainGlobals "int" = some none)
    (z7 : PySem.W.nsIn K mainGlobals "bool" = some none)
    (z8 : PySem.W.nsIn K mainGlobals "enumerate" = some none)
    (z9 : PySem.W.nsIn K mainGlobals "all" = some none)
    (z10 : PySem.W.nsIn K mainGlobals "zip" = some none)
    (z11 : PySem.W.nsIn K mainGlobals "reversed" = some none)
    (z12 : PySem.W.nsIn K mainGlobals "sum" = some none)
    (z13 : PySem.W.nsIn K mainGlobals "sorted" = some none)
    (z14 : PySem.W.nsIn K mainGlobals "tuple" = some none)
    (z15 : PySem.W.nsIn K mainGlobals "any" = some none)
    (z16 : PySem.W.nsIn K mainGlobals "min" = some none)
    (z17 : PySem.W.nsIn K mainGlobals "str" = some none)
    (z18 : PySem.W.nsIn K mainGlobals "abs" = some none)
    (z19 : PySem.W.nsIn K mainGlobals "set" = some none)
    {tk1 : Tok} (q1 : PySem.W.nsIn K mainGlobals "MOST_TIERS" = some (some (.int 4 tk1)))
    {tk2 : Tok} (q2 : PySem.W.nsIn K mainGlobals "MOST_PIECES" = some (some (.int 12 tk2)))
    {tk3 : Tok} (q3 : PySem.W.nsIn K mainGlobals "FIGURES" = some (some (.str "0123456789" tk3)))
    {tk4 : Tok} (q4 : PySem.W.nsIn K mainGlobals "MOST_LESSER" = some (some (.int 400 tk4)))
    {tk5 : Tok} (q5 : PySem.W.nsIn K mainGlobals "THING_FIGURES" = some (some (.int 1 tk5)))
    {tk6 : Tok} (q6 : PySem.W.nsIn K mainGlobals "PLACE_FIGURES" = some (some (.int 2 tk6)))
    {tk7 : Tok} (q7 : PySem.W.nsIn K mainGlobals "PRICE_FIGURES" = some (some (.int 12 tk7)))
    {tk8 : Tok} (q8 : PySem.W.nsIn K mainGlobals "MOST_OFFERS" = some (some (.int 8 tk8)))
    {tk9 : Tok} (q9 : PySem.W.nsIn K mainGlobals "MOST_THINGS" = some (some (.int 4 tk9)))
    {tk10 : Tok} (q10 : PySem.W.nsIn K mainGlobals "MOST_LETTERS" = some (some (.int 8 tk10)))
    {tk11 : Tok} (q11 : PySem.W.nsIn K mainGlobals "SMALL_LETTERS" = some (some (.str "abcdefghijklmnopqrstuvwxyz" tk11)))
    : LamX.LawAtS l w K CX0 14 63 "_law_script" mg fa h := by
  have e := hfa.symm.trans (PySem.W.mg_of X G a1)
  cases e
  have F1 := fun_mk (st := s_law) l1 c1 k1
  have b1 := F1.binds (ps := ["_law_script"]) fun _ _ _ _ _ _ us hl => match us, hl with | [_], _ => rfl
  have F2 := fun_mk (st := s_names_pack) l2 c2 k2
  have b2 := F2.binds (ps := ["shop", "at"]) fun _ _ _ _ _ _ us hl => match us, hl with | [_, _], _ => rfl
  have F3 := fun_mk (st := s_good_tiers) l3 c3 k3
  have b3 := F3.binds (ps := ["tiers"]) fun _ _ _ _ _ _ us hl => match us, hl with | [_], _ => rfl
  have F4 := fun_mk (st := s_can_stand) l4 c4 k4
  have b4 := F4.binds (ps := ["shop", "at"]) fun _ _ _ _ _ _ us hl => match us, hl with | [_, _], _ => rfl
  have F5 := fun_mk (st := s_look) l5 c5 k5
  have b5 := F5.binds (ps := ["shop"]) fun _ _ _ _ _ _ us hl => match us, hl with | [_], _ => rfl
  have F6 := fun_mk (st := s_show_content) l6 c6 k6
  have b6 := F6.binds (ps := ["names", "content"]) fun _ _ _ _ _ _ us hl => match us, hl with | [_, _], _ => rfl
  have F7 := fun_mk (st := s_show_offer) l7 c7 k7
  have b7 := F7.binds (ps := ["names", "offer"]) fun _ _ _ _ _ _ us hl => match us, hl with | [_, _], _ => rfl
  have F8 := fun_mk (st := s_show_shop) l8 c8 k8
  have b8 := F8.binds (ps := ["names", "shop"]) fun _ _ _ _ _ _ us hl => match us, hl with | [_, _], _ => rfl
  have F9 := fun_mk (st := s_made_of) l9 c9 k9
  have b9 := F9.binds (ps := ["signs", "text", "most"]) fun _ _ _ _ _ _ us hl => match us, hl with | [_, _, _], _ => rfl
  have F10 := fun_mk (st := s_read_number) l10 c10 k10
  have b10 := F10.binds (ps := ["text", "figures"]) fun _ _ _ _ _ _ us hl => match us, hl with | [_, _], _ => rfl
  have F11 := fun_mk (st := s_read_names) l11 c11 k11
  have b11 := F11.binds (ps := ["text"]) fun _ _ _ _ _ _ us hl => match us, hl with | [_], _ => rfl
  have F12 := fun_mk (st := s_within_bounds) l12 c12 k12
  have b12 := F12.binds (ps := ["content"]) fun _ _ _ _ _ _ us hl => match us, hl with | [_], _ => rfl
  have F13 := fun_mk (st := s_read_thing) l13 c13 k13
  have b13 := F13.binds (ps := ["names", "text"]) fun _ _ _ _ _ _ us hl => match us, hl with | [_, _], _ => rfl
  have F14 := fun_mk (st := s_read_content) l14 c14 k14
  have b14 := F14.binds (ps := ["names", "text"]) fun _ _ _ _ _ _ us hl => match us, hl with | [_, _], _ => rfl
  have F15 := fun_mk (st := s_read_goods) l15 c15 k15
  have b15 := F15.binds (ps := ["names", "text"]) fun _ _ _ _ _ _ us hl => match us, hl with | [_, _], _ => rfl
  have F16 := fun_mk (st := s_read_sold) l16 c16 k16
  have b16 := F16.binds (ps := ["names", "text"]) fun _ _ _ _ _ _ us hl => match us, hl with | [_, _], _ => rfl
  have F17 := fun_mk (st := s_read_tier) l17 c17 k17
  have b17 := F17.binds (ps := ["text"]) fun _ _ _ _ _ _ us hl => match us, hl with | [_], _ => rfl
  have F18 := fun_mk (st := s_read_many) l18 c18 k18
  have b18 := F18.binds (ps := ["names", "text"]) fun _ _ _ _ _ _ us hl => match us, hl with | [_, _], _ => rfl
  have F19 := fun_mk (st := s_read_add) l19 c19 k19
  have b19 := F19.binds (ps := ["names", "text"]) fun _ _ _ _ _ _ us hl => match us, hl with | [_, _], _ => rfl
  have F20 := fun_mk (st := s_read_offer) l20 c20 k20
  have b20 := F20.binds (ps := ["names", "text"]) fun _ _ _ _ _ _ us hl => match us, hl with | [_, _], _ => rfl
  have F21 := fun_mk (st := s_tell_shop) l21 c21 k21
  have b21 := F21.binds (ps := ["names", "shop"]) fun _ _ _ _ _ _ us hl => match us, hl with | [_, _], _ => rfl
  have F22 := fun_mk (st := s_law_draws) l22 c22 k22
  have b22 := F22.binds (ps := ["_law_script", "_law_turn_here", "_law_many"]) fun _ _ _ _ _ _ us hl => match us, hl with | [_, _, _], _ => rfl
  have F23 := fun_mk (st := s_law_pop) l23 c23 k23
  have b23 := F23.binds (ps := ["_law_draws_here"]) fun _ _ _ _ _ _ us hl => match us, hl with | [_], _ => rfl
  have F24 := fun_mk (st := s_law_want) l24 c24 k24
  have b24 := F24.binds (ps := ["_law_draws_here", "_law_many"]) fun _ _ _ _ _ _ us hl => match us, hl with | [_, _], _ => rfl
  have F25 := fun_mk (st := s_law_cases) l25 c25 k25
  have b25 := F25.binds (ps := ["_law_want_here"]) fun _ _ _ _ _ _ us hl => match us, hl with | [_], _ => rfl
  have F26 := fun_mk (st := s_law_content) l26 c26 k26
  have b26 := F26.binds (ps := ["_law_draws_here", "_law_many"]) fun _ _ _ _ _ _ us hl => match us, hl with | [_, _], _ => rfl
  have F27 := fun_mk (st := s_law_price) l27 c27 k27
  have b27 := F27.binds (ps := ["_law_draws_here"]) fun _ _ _ _ _ _ us hl => match us, hl with | [_], _ => rfl
  have F28 := fun_mk (st := s_law_tiers) l28 c28 k28
  have b28 := F28.binds (ps := ["_law_draws_here"]) fun _ _ _ _ _ _ us hl => match us, hl with | [_], _ => rfl
  have F29 := fun_mk (st := s_law_names) l29 c29 k29
  have b29 := F29.binds (ps := ["_law_draws_here", "_law_many"]) fun _ _ _ _ _ _ us hl => match us, hl with | [_, _], _ => rfl
  have F30 := fun_mk (st := s_law_content_text) l30 c30 k30
  have b30 := F30.binds (ps := ["_law_names_here", "_law_content_here"]) fun _ _ _ _ _ _ us hl => match us, hl with | [_, _], _ => rfl
  have F31 := fun_mk (st := s_law_offer_text) l31 c31 k31
  have b31 := F31.binds (ps := ["_law_names_here", "_law_offer"]) fun _ _ _ _ _ _ us hl => match us, hl with | [_, _], _ => rfl
  have F32 := fun_mk (st := s_law_offered) l32 c32 k32
  have b32 := F32.binds (ps := ["_law_draws_here", "_law_many"]) fun _ _ _ _ _ _ us hl => match us, hl with | [_, _], _ => rfl
  have F33 := fun_mk (st := s_law_tiers_good) l33 c33 k33
  have b33 := F33.binds (ps := ["_law_tiers_here"]) fun _ _ _ _ _ _ us hl => match us, hl with | [_], _ => rfl
  have F34 := fun_mk (st := s_law_good_offer) l34 c34 k34
  have b34 := F34.binds (ps := ["_law_shop", "_law_offer"]) fun _ _ _ _ _ _ us hl => match us, hl with | [_, _], _ => rfl
  have F35 := fun_mk (st := s_law_which) l35 c35 k35
  have b35 := F35.binds (ps := ["_law_e"]) fun _ _ _ _ _ _ us hl => match us, hl with | [_], _ => rfl
  have F36 := fun_mk (st := s_law_says) l36 c36 k36
  have b36 := F36.binds (ps := ["_law_desk", "_law_line"]) fun _ _ _ _ _ _ us hl => match us, hl with | [_, _], _ => rfl
  have F37 := fun_mk (st := s_law_shop_text) l37 c37 k37
  have b37 := F37.binds (ps := ["_law_names_here", "_law_shop"]) fun _ _ _ _ _ _ us hl => match us, hl with | [_, _], _ => rfl
  have F38 := fun_mk (st := s_law_turn) l38 c38 k38
  have b38 := F38.binds (ps := ["_law_draws_here", "_law_own"]) fun _ _ _ _ _ _ us hl => match us, hl with | [_, _], _ => rfl
  have F39 := fun_mk (st := s_law_seen) l39 c39 k39
  have b39 := F39.binds (ps := ["_law_desk", "_law_own"]) fun _ _ _ _ _ _ us hl => match us, hl with | [_, _], _ => rfl
  have FD_init := fun_mk (st := s_Desk_init) dl_init dc_init dk_init
  have bD_init := FD_init.binds (ps := ["self"]) fun _ _ _ _ _ _ us hl => match us, hl with | [_], _ => rfl
  have FD_say := fun_mk (st := s_Desk_say) dl_say dc_say dk_say
  have bD_say := FD_say.binds (ps := ["self", "line"]) fun _ _ _ _ _ _ us hl => match us, hl with | [_, _], _ => rfl
  have FD_answer := fun_mk (st := s_Desk_answer) dl_answer dc_answer dk_answer
  have bD_answer := FD_answer.binds (ps := ["self", "word", "text"]) fun _ _ _ _ _ _ us hl => match us, hl with | [_, _, _], _ => rfl
  have FD_take_names := fun_mk (st := s_Desk_take_names) dl_take_names dc_take_names dk_take_names
  have bD_take_names := FD_take_names.binds (ps := ["self", "names"]) fun _ _ _ _ _ _ us hl => match us, hl with | [_, _], _ => rfl
  have FD_put_last := fun_mk (st := s_Desk_put_last) dl_put_last dc_put_last dk_put_last
  have bD_put_last := FD_put_last.binds (ps := ["self", "offer"]) fun _ _ _ _ _ _ us hl => match us, hl with | [_, _], _ => rfl
  have FD_drop_last := fun_mk (st := s_Desk_drop_last) dl_drop_last dc_drop_last dk_drop_last
  have bD_drop_last := FD_drop_last.binds (ps := ["self", "place"]) fun _ _ _ _ _ _ us hl => match us, hl with | [_, _], _ => rfl
  have DT0 : DeskT K mg CD := ⟨⟨dpg, dhd, dpo, dsa⟩, dn_names, dn_shop, PySem.W.mg_of X G daD⟩
  have DW0 : DeskW K w mg aW aA aQ fX_tell_cost fX_tell_buy fX_tell_value := ⟨PySem.W.mg_of X G eaW, PySem.W.mg_of X G eaA, PySem.W.mg_of X G eaQ, fun H => .inr ⟨_, itsW, nW, elW, rfl, rfl, esW, evW⟩, fun H => .inr ⟨_, itsA, nA, elA, rfl, rfl, esA, evA⟩, ⟨esQ, nQ, _, elQ, ekQ, eq_cost, rfl⟩, ⟨esQ, nQ, _, elQ, ekQ, eq_buy, rfl⟩, ⟨esQ, nQ, _, elQ, ekQ, eq_value, rfl⟩⟩
  have DK0 : DeskK K w mg CD aW aA aQ fX_tell_cost fX_tell_buy fX_tell_value := ⟨DT0, ⟨dmo, deq⟩, DW0, ⟨_, _, ⟨dmk, da_init, di_init, dkc⟩, FD_init, bD_init⟩, ⟨_, _, ⟨da_say, di_say, dk_say⟩, FD_say, bD_say⟩, ⟨_, _, ⟨da_answer, di_answer, dk_answer⟩, FD_answer, bD_answer⟩, ⟨_, _, ⟨da_take_names, di_take_names, dk_take_names⟩, FD_take_names, bD_take_names⟩, ⟨_, _, ⟨da_put_last, di_put_last, dk_put_last⟩, FD_put_last, bD_put_last⟩, ⟨_, _, ⟨da_drop_last, di_drop_last, dk_drop_last⟩, FD_drop_last, bD_drop_last⟩⟩
  have FI := fun_mk (st := s_ninit) xlI xcI xkI
  have bI := FI.binds (ps := ["self", "place"]) fun _ _ _ _ _ _ us hl => match us, hl with | [_, _], _ => rfl
  have X0 : Exs K mg C CP fI _ := ⟨PySem.W.mg_of X G xaC, PySem.W.mg_of X G xaP, ⟨⟨nmC, qC, NC, bsC, _, snC, subC, abC, colC, ddC, mC0, mC1, mC2, mC3, mC5, xL, (show PySem.HandSPX.refsVE [.type "ValueError", .type "Exception", .type "BaseException", .type "object"] = true by decide +kernel)⟩, xsa, xex, xty, xkC⟩, xrP, xgP, xvP, xnp, xiC, xtI, FI, bI, ⟨xhg, xhk, xex, xhd, xha, xhn, xht, xhm⟩, ⟨xhg, xhk, xex, xhd⟩⟩
  have Y0 : Five K mg cNoLine C cNoPlace cNoText cNoThings CP := ⟨PySem.W.mg_of X G xaNoLine, PySem.W.mg_of X G xaC, PySem.W.mg_of X G xaNoPlace, PySem.W.mg_of X G xaNoText, PySem.W.mg_of X G xaNoThings, PySem.W.mg_of X G xaP, PySem.W.mg_none_of X G xv⟩
  have O1 : OneOf K cNoLine C cNoPlace cNoText cNoThings CP C 1 := ⟨by decide, X0.exc, xkNoLine, xkn, xkNoPlace, xkNoText, xkNoThings, xkp, xkv, xem, xnt⟩
  have O2 : OneOf K cNoLine C cNoPlace cNoText cNoThings CP cNoPlace 2 := ⟨by decide, ⟨pgNoPlace, phNoPlace, pxNoPlace, pdNoPlace, paNoPlace, xhn, xht, pmNoPlace⟩, pfNoPlace_NoLine, pfNoPlace_C, pfNoPlace_NoPlace, pfNoPlace_NoText, pfNoPlace_NoThings, ppNoPlace, pvNoPlace, pqNoPlace, pnNoPlace⟩
  have P2 : PlainC K mg "NoPlace" cNoPlace := ⟨PySem.W.mg_of X G xaNoPlace, peNoPlace, pkNoPlace, pxNoPlace, ptNoPlace⟩
  have O4 : OneOf K cNoLine C cNoPlace cNoText cNoThings CP cNoThings 4 := ⟨by decide, ⟨pgNoThings, phNoThings, pxNoThings, pdNoThings, paNoThings, xhn, xht, pmNoThings⟩, pfNoThings_NoLine, pfNoThings_C, pfNoThings_NoPlace, pfNoThings_NoText, pfNoThings_NoThings, ppNoThings, pvNoThings, pqNoThings, pnNoThings⟩
  have P4 : PlainC K mg "NoThings" cNoThings := ⟨PySem.W.mg_of X G xaNoThings, peNoThings, pkNoThings, pxNoThings, ptNoThings⟩
  have M : Names mg := ⟨PySem.W.mg_none_of X G z1, PySem.W.mg_none_of X G z2, PySem.W.mg_none_of X G z3, PySem.W.mg_none_of X G z4, PySem.W.mg_none_of X G z5, PySem.W.mg_none_of X G z6, PySem.W.mg_none_of X G z7, PySem.W.mg_none_of X G z8, PySem.W.mg_none_of X G z9, PySem.W.mg_none_of X G z10, PySem.W.mg_none_of X G z11, PySem.W.mg_none_of X G z12, PySem.W.mg_none_of X G z13, PySem.W.mg_none_of X G z14, PySem.W.mg_none_of X G z15, PySem.W.mg_none_of X G z16, PySem.W.mg_none_of X G z17, PySem.W.mg_none_of X G z18, PySem.W.mg_none_of X G z19, ⟨_, PySem.W.mg_of X G q1⟩, ⟨_, PySem.W.mg_of X G q2⟩, ⟨_, PySem.W.mg_of X G q3⟩, ⟨_, PySem.W.mg_of X G q4⟩, ⟨_, PySem.W.mg_of X G q5⟩, ⟨_, PySem.W.mg_of X G q6⟩, ⟨_, PySem.W.mg_of X G q7⟩, ⟨_, PySem.W.mg_of X G q8⟩, ⟨_, PySem.W.mg_of X G q9⟩, ⟨_, PySem.W.mg_of X G q10⟩, ⟨_, PySem.W.mg_of X G q11⟩⟩
  obtain ⟨hd3, ht3⟩ := tabs "good_tiers" cT3 PT3 rc3 (tabIn_of a3 l3 rfl lc3 hv3)
  obtain ⟨hd9, ht9⟩ := tabs "made_of" cT9 PT9 rc9 (tabIn_of a9 l9 rfl lc9 hv9)
  obtain ⟨hd11, ht11⟩ := tabs "read_names" cT11 PT11 rc11 (tabIn_of a11 l11 rfl lc11 hv11)
  refine ⟨PySem.W.fnOf "law" "law" (defArgs s_law) (defBody s_law) (defScope s_law) .none kV1 dc1 pm1 an1 cd1 ct1, [(cT3, PT3), (cT9, PT9), (cT11, PT11)], sp_law K PT3 PT9 PT11, ?hT, ?nT, ?hC, fun s v => .of_eq rfl, fun H a ns hl _ hT hS => ⟨a, ns, rfl, hS, hl, ⟨#[], hT (cT3, PT3) List.mem_cons_self, True.intro⟩, ⟨#[], hT (cT9, PT9) (List.mem_cons_of_mem _ List.mem_cons_self), True.intro⟩, ⟨#[], hT (cT11, PT11) (List.mem_cons_of_mem _ (List.mem_cons_of_mem _ List.mem_cons_self)), True.intro⟩, fun _ => rfl⟩, fun base _ _ hB => ?_⟩
  case hT =>
    exact fun p hp => by
      rcases List.mem_cons.mp hp with rfl | hp
      · exact ht3
      rcases List.mem_cons.mp hp with rfl | hp
      · exact ht9
      rcases List.mem_cons.mp hp with rfl | hp
      · exact ht11
      cases hp
  case nT =>
    exact fun p hp => by
      rcases List.mem_cons.mp hp with rfl | hp
      · exact Option.isNone_iff_eq_none.mp nt3
      rcases List.mem_cons.mp hp with rfl | hp
      · exact Option.isNone_iff_eq_none.mp nt9
      rcases List.mem_cons.mp hp with rfl | hp
      · exact Option.isNone_iff_eq_none.mp nt11
      cases hp
  case hC =>
    exact fun p hp => by
      rcases List.mem_cons.mp hp with rfl | hp
      · exact hd3
      rcases List.mem_cons.mp hp with rfl | hp
      · exact hd9
      rcases List.mem_cons.mp hp with rfl | hp
      · exact hd11
      cases hp
  have T3 := hB (cT3, PT3) List.mem_cons_self
  have T9 := hB (cT9, PT9) (List.mem_cons_of_mem _ List.mem_cons_self)
  have T11 := hB (cT11, PT11) (List.mem_cons_of_mem _ (List.mem_cons_of_mem _ List.mem_cons_self))
  exact ok_law M ⟨F1, PySem.W.mg_of X G a1, b1⟩ ⟨F2, PySem.W.mg_of X G a2, b2⟩ ⟨F3, PySem.W.mg_of X G a3, b3⟩ ⟨F4, PySem.W.mg_of X G a4, b4⟩ ⟨F5, PySem.W.mg_of X G a5, b5⟩ ⟨F6, PySem.W.mg_of X G a6, b6⟩ ⟨F7, PySem.W.mg_of X G a7, b7⟩ ⟨F8, PySem.W.mg_of X G a8, b8⟩ ⟨F9, PySem.W.mg_of X G a9, b9⟩ ⟨F10, PySem.W.mg_of X G a10, b10⟩ ⟨F11, PySem.W.mg_of X G a11, b11⟩ ⟨F12, PySem.W.mg_of X G a12, b12⟩ ⟨F13, PySem.W.mg_of X G a13, b13⟩ ⟨F14, PySem.W.mg_of X G a14, b14⟩ ⟨F15, PySem.W.mg_of X G a15, b15⟩ ⟨F16, PySem.W.mg_of X G a16, b16⟩ ⟨F17, PySem.W.mg_of X G a17, b17⟩ ⟨F18, PySem.W.mg_of X G a18, b18⟩ ⟨F19, PySem.W.mg_of X G a19, b19⟩ ⟨F20, PySem.W.mg_of X G a20, b20⟩ ⟨F21, PySem.W.mg_of X G a21, b21⟩ ⟨F22, PySem.W.mg_of X G a22, b22⟩ ⟨F23, PySem.W.mg_of X G a23, b23⟩ ⟨F24, PySem.W.mg_of X G a24, b24⟩ ⟨F25, PySem.W.mg_of X G a25, b25⟩ ⟨F26, PySem.W.mg_of X G a26, b26⟩ ⟨F27, PySem.W.mg_of X G a27, b27⟩ ⟨F28, PySem.W.mg_of X G a28, b28⟩ ⟨F29, PySem.W.mg_of X G a29, b29⟩ ⟨F30, PySem.W.mg_of X G a30, b30⟩ ⟨F31, PySem.W.mg_of X G a31, b31⟩ ⟨F32, PySem.W.mg_of X G a32, b32⟩ ⟨F33, PySem.W.mg_of X G a33, b33⟩ ⟨F34, PySem.W.mg_of X G a34, b34⟩ ⟨F35, PySem.W.mg_of X G a35, b35⟩ ⟨F36, PySem.W.mg_of X G a36, b36⟩ ⟨F37, PySem.W.mg_of X G a37, b37⟩ ⟨F38, PySem.W.mg_of X G a38, b38⟩ ⟨F39, PySem.W.mg_of X G a39, b39⟩ rfl ⟨T3.code, T3.bm, T3.gP⟩ rfl ⟨T9.code, T9.bm, T9.gP⟩ rfl ⟨T11.code, T11.bm, T11.gP⟩ DK0 X0 Y0 O1 O2 O4 xnt pnNoPlace P2 P4
end Pk
open PySem PySem.W PyProof.Rows
set_option maxHeartbeats 0 in
theorem PySem.Challenge.cw_packwants_k40_desk_offers_holds : PySem.Challenge.rw_packwants_k40_desk_offers.Holds := by
  w_on; o_law; k_head; (case hw => w_witness2)
  k_fill
  refine Pk.walk_ofG (l := PySem.Challenge.rw_packwants_k40_desk_offers) (n := 63) (k := 14) (x := "_law_script") (CX := fun _ => L2.CX0) rfl (by decide) rfl ⟨rfl, by decide, by decide⟩ (fun w h Y => PySem.W.kIn_of Y) ?F (fun _ _ _ _ _ h => h)
  case F =>
    intro w mg fa h KX G hmg tabs
    refine' Pk.all_mk KX G hmg tabs ?daD ?da_init ?di_init ?dl_init ?dc_init ?dk_init ?da_say ?di_say ?dl_say ?dc_say ?dk_say ?da_answer ?di_answer ?dl_answer ?dc_answer ?dk_answer ?da_take_names ?di_take_names ?dl_take_names ?dc_take_names ?dk_take_names ?da_put_last ?di_put_last ?dl_put_last ?dc_put_last ?dk_put_last ?da_drop_last ?di_drop_last ?dl_drop_last ?dc_drop_last ?dk_drop_last ?dpg ?dhd ?dpo ?dsa ?dmk ?dkc ?dmo ?deq ?dn_names ?dn_shop ?eaW ?eaA ?eaQ ?elW ?esW ?evW ?elA ?esA ?evA ?elQ ?ekQ ?eq_cost ?eq_buy ?eq_value ?xaC ?xaP ?xL ?xsa ?xex ?xty ?xkC ?xrP ?xgP ?xvP ?xnp ?xiC ?xtI ?xlI ?xcI ?xkI ?xhg ?xhk ?xhd ?xha ?xhn ?xht ?xhm ?xv ?xkv ?xkp ?xkn ?xem ?xaNoLine ?xkNoLine ?xaNoPlace ?xkNoPlace ?xaNoText ?xkNoText ?xaNoThings ?xkNoThings ?xnt ?peNoPlace ?pkNoPlace ?ptNoPlace ?pgNoPlace ?phNoPlace ?pxNoPlace ?pdNoPlace ?paNoPlace ?pmNoPlace ?ppNoPlace ?pvNoPlace ?pqNoPlace ?pnNoPlace ?pfNoPlace_NoLine ?pfNoPlace_C ?pfNoPlace_NoPlace ?pfNoPlace_NoText ?pfNoPlace_NoThings ?peNoThings ?pkNoThings ?ptNoThings ?pgNoThings ?phNoThings ?pxNoThings ?pdNoThings ?paNoThings ?pmNoThings ?ppNoThings ?pvNoThings ?pqNoThings ?pnNoThings ?pfNoThings_NoLine ?pfNoThings_C ?pfNoThings_NoPlace ?pfNoThings_NoText ?pfNoThings_NoThings ?a1 ?l1 ?c1 ?k1 ?a2 ?l2 ?c2 ?k2 ?a3 ?l3 ?c3 ?k3 ?a4 ?l4 ?c4 ?k4 ?a5 ?l5 ?c5 ?k5 ?a6 ?l6 ?c6 ?k6 ?a7 ?l7 ?c7 ?k7 ?a8 ?l8 ?c8 ?k8 ?a9 ?l9 ?c9 ?k9 ?a10 ?l10 ?c10 ?k10 ?a11 ?l11 ?c11 ?k11 ?a12 ?l12 ?c12 ?k12 ?a13 ?l13 ?c13 ?k13 ?a14 ?l14 ?c14 ?k14 ?a15 ?l15 ?c15 ?k15 ?a16 ?l16 ?c16 ?k16 ?a17 ?l17 ?c17 ?k17 ?a18 ?l18 ?c18 ?k18 ?a19 ?l19 ?c19 ?k19 ?a20 ?l20 ?c20 ?k20 ?a21 ?l21 ?c21 ?k21 ?a22 ?l22 ?c22 ?k22 ?a23 ?l23 ?c23 ?k23 ?a24 ?l24 ?c24 ?k24 ?a25 ?l25 ?c25 ?k25 ?a26 ?l26 ?c26 ?k26 ?a27 ?l27 ?c27 ?k27 ?a28 ?l28 ?c28 ?k28 ?a29 ?l29 ?c29 ?k29 ?a30 ?l30 ?c30 ?k30 ?a31 ?l31 ?c31 ?k31 ?a32 ?l32 ?c32 ?k32 ?a33 ?l33 ?c33 ?k33 ?a34 ?l34 ?c34 ?k34 ?a35 ?l35 ?c35 ?k35 ?a36 ?l36 ?c36 ?k36 ?a37 ?l37 ?c37 ?k37 ?a38 ?l38 ?c38 ?k38 ?a39 ?l39 ?c39 ?k39 ?lc3 ?hv3 ?nt3 ?rc3 ?lc9 ?hv9 ?nt9 ?rc9 ?lc11 ?hv11 ?nt11 ?rc11 ?z1 ?z2 ?z3 ?z4 ?z5 ?z6 ?z7 ?z8 ?z9 ?z10 ?z11 ?z12 ?z13 ?z14 ?z15 ?z16 ?z17 ?z18 ?z19 ?q1 ?q2 ?q3 ?q4 ?q5 ?q6 ?q7 ?q8 ?q9 ?q10 ?q11
    (case daD => first | k_is | rfl); (case da_init => first | k_is | rfl); (case di_init => first | k_is | rfl); (case dl_init => first | k_is | rfl); (case dc_init => first | k_is | rfl); (case dk_init => first | k_is | rfl); (case da_say => first | k_is | rfl); (case di_say => first | k_is | rfl); (case dl_say => first | k_is | rfl); (case dc_say => first | k_is | rfl); (case dk_say => first | k_is | rfl); (case da_answer => first | k_is | rfl); (case di_answer => first | k_is | rfl); (case dl_answer => first | k_is | rfl); (case dc_answer => first | k_is | rfl); (case dk_answer => first | k_is | rfl); (case da_take_names => first | k_is | rfl); (case di_take_names => first | k_is | rfl); (case dl_take_names => first | k_is | rfl); (case dc_take_names => first | k_is | rfl); (case dk_take_names => first | k_is | rfl); (case da_put_last => first | k_is | rfl); (case di_put_last => first | k_is | rfl); (case dl_put_last => first | k_is | rfl); (case dc_put_last => first | k_is | rfl); (case dk_put_last => first | k_is | rfl); (case da_drop_last => first | k_is | rfl); (case di_drop_last => first | k_is | rfl); (case dl_drop_last => first | k_is | rfl); (case dc_drop_last => first | k_is | rfl); (case dk_drop_last => first | k_is | rfl); (case dpg => first | k_is | rfl); (case dhd => first | k_is | rfl); (case dpo => first | k_is | rfl); (case dsa => first | k_is | rfl); (case dmk => first | k_is | rfl); (case dkc => first | k_is | rfl); (case dmo => first | k_is | rfl); (case deq => first | k_is | rfl); (case dn_names => first | k_is | rfl); (case dn_shop => first | k_is | rfl); (case eaW => first | k_is | rfl); (case eaA => first | k_is | rfl); (case eaQ => first | k_is | rfl); (case elW => first | k_is | rfl); (case esW => exact Nat.le_of_ble_eq_true rfl); (case evW => repeat (first | exact .nil | refine .cons ⟨_, rfl⟩ ?_)); (case elA => first | k_is | rfl); (case esA => exact Nat.le_of_ble_eq_true rfl); (case evA => repeat (first | exact .nil | refine .cons ⟨_, rfl⟩ ?_)); (case elQ => first | k_is | rfl); (case ekQ => k_keys); (case eq_cost => first | k_is | rfl); (case eq_buy => first | k_is | rfl); (case eq_value => first | k_is | rfl)
    (case xaC => first | k_is | k_exc | rfl); (case xaP => first | k_is | k_exc | rfl); (case xL => first | k_is | k_exc | rfl); (case xsa => first | k_is | k_exc | rfl); (case xex => first | k_is | k_exc | rfl); (case xty => first | k_is | k_exc | rfl); (case xkC => first | k_is | k_exc | rfl); (case xrP => first | k_is | k_exc | rfl); (case xgP => first | k_is | k_exc | rfl); (case xvP => first | k_is | k_exc | rfl); (case xnp => first | k_is | k_exc | rfl); (case xiC => first | k_is | k_exc | rfl); (case xtI => first | k_is | k_exc | rfl); (case xlI => first | k_is | k_exc | rfl); (case xcI => first | k_is | k_exc | rfl); (case xkI => first | k_is | k_exc | rfl); (case xhg => first | k_is | k_exc | rfl); (case xhk => first | k_is | k_exc | rfl); (case xhd => first | k_is | k_exc | rfl); (case xha => first | k_is | k_exc | rfl); (case xhn => first | k_is | k_exc | rfl); (case xht => first | k_is | k_exc | rfl); (case xhm => first | k_is | k_exc | rfl); (case xv => first | k_is | k_exc | rfl); (case xkv => first | k_is | k_exc | rfl); (case xkp => first | k_is | k_exc | rfl); (case xkn => first | k_is | k_exc | rfl); (case xem => first | k_is | k_exc | rfl); (case xaNoLine => first | k_is | k_exc | rfl); (case xkNoLine => first | k_is | k_exc | rfl); (case xaNoPlace => first | k_is | k_exc | rfl); (case xkNoPlace => first | k_is | k_exc | rfl); (case xaNoText => first | k_is | k_exc | rfl); (case xkNoText => first | k_is | k_exc | rfl); (case xaNoThings => first | k_is | k_exc | rfl); (case xkNoThings => first | k_is | k_exc | rfl); (case xnt => first | k_is | k_exc | rfl); (case peNoPlace => first | k_is | k_exc | rfl); (case pkNoPlace => first | k_is | k_exc | rfl); (case ptNoPlace => first | k_is | k_exc | rfl); (case pgNoPlace => first | k_is | k_exc | rfl); (case phNoPlace => first | k_is | k_exc | rfl); (case pxNoPlace => first | k_is | k_exc | rfl); (case pdNoPlace => first | k_is | k_exc | rfl); (case paNoPlace => first | k_is | k_exc | rfl); (case pmNoPlace => first | k_is | k_exc | rfl); (case ppNoPlace => first | k_is | k_exc | rfl); (case pvNoPlace => first | k_is | k_exc | rfl); (case pqNoPlace => first | k_is | k_exc | rfl); (case pnNoPlace => first | k_is | k_exc | rfl); (case pfNoPlace_NoLine => first | k_is | k_exc | rfl); (case pfNoPlace_C => first | k_is | k_exc | rfl); (case pfNoPlace_NoPlace => first | k_is | k_exc | rfl); (case pfNoPlace_NoText => first | k_is | k_exc | rfl); (case pfNoPlace_NoThings => first | k_is | k_exc | rfl); (case peNoThings => first | k_is | k_exc | rfl); (case pkNoThings => first | k_is | k_exc | rfl); (case ptNoThings => first | k_is | k_exc | rfl); (case pgNoThings => first | k_is | k_exc | rfl); (case phNoThings => first | k_is | k_exc | rfl); (case pxNoThings => first | k_is | k_exc | rfl); (case pdNoThings => first | k_is | k_exc | rfl); (case paNoThings => first | k_is | k_exc | rfl); (case pmNoThings => first | k_is | k_exc | rfl); (case ppNoThings => first | k_is | k_exc | rfl); (case pvNoThings => first | k_is | k_exc | rfl); (case pqNoThings => first | k_is | k_exc | rfl); (case pnNoThings => first | k_is | k_exc | rfl); (case pfNoThings_NoLine => first | k_is | k_exc | rfl); (case pfNoThings_C => first | k_is | k_exc | rfl); (case pfNoThings_NoPlace => first | k_is | k_exc | rfl); (case pfNoThings_NoText => first | k_is | k_exc | rfl); (case pfNoThings_NoThings => first | k_is | k_exc | rfl)
    (case a1 => k_is); (case l1 => k_is); (case c1 => k_is); (case k1 => k_is); (case a2 => k_is); (case l2 => k_is); (case c2 => k_is); (case k2 => k_is); (case a3 => k_is); (case l3 => k_is); (case c3 => k_is); (case k3 => k_is); (case a4 => k_is); (case l4 => k_is); (case c4 => k_is); (case k4 => k_is); (case a5 => k_is); (case l5 => k_is); (case c5 => k_is); (case k5 => k_is); (case a6 => k_is); (case l6 => k_is); (case c6 => k_is); (case k6 => k_is); (case a7 => k_is); (case l7 => k_is); (case c7 => k_is); (case k7 => k_is); (case a8 => k_is); (case l8 => k_is); (case c8 => k_is); (case k8 => k_is); (case a9 => k_is); (case l9 => k_is); (case c9 => k_is); (case k9 => k_is); (case a10 => k_is); (case l10 => k_is); (case c10 => k_is); (case k10 => k_is); (case a11 => k_is); (case l11 => k_is); (case c11 => k_is); (case k11 => k_is); (case a12 => k_is); (case l12 => k_is); (case c12 => k_is); (case k12 => k_is); (case a13 => k_is); (case l13 => k_is); (case c13 => k_is); (case k13 => k_is); (case a14 => k_is); (case l14 => k_is); (case c14 => k_is); (case k14 => k_is); (case a15 => k_is); (case l15 => k_is); (case c15 => k_is); (case k15 => k_is); (case a16 => k_is); (case l16 => k_is); (case c16 => k_is); (case k16 => k_is); (case a17 => k_is); (case l17 => k_is); (case c17 => k_is); (case k17 => k_is); (case a18 => k_is); (case l18 => k_is); (case c18 => k_is); (case k18 => k_is); (case a19 => k_is); (case l19 => k_is); (case c19 => k_is); (case k19 => k_is); (case a20 => k_is); (case l20 => k_is); (case c20 => k_is); (case k20 => k_is); (case a21 => k_is); (case l21 => k_is); (case c21 => k_is); (case k21 => k_is); (case a22 => k_is); (case l22 => k_is); (case c22 => k_is); (case k22 => k_is); (case a23 => k_is); (case l23 => k_is); (case c23 => k_is); (case k23 => k_is); (case a24 => k_is); (case l24 => k_is); (case c24 => k_is); (case k24 => k_is); (case a25 => k_is); (case l25 => k_is); (case c25 => k_is); (case k25 => k_is); (case a26 => k_is); (case l26 => k_is); (case c26 => k_is); (case k26 => k_is); (case a27 => k_is); (case l27 => k_is); (case c27 => k_is); (case k27 => k_is); (case a28 => k_is); (case l28 => k_is); (case c28 => k_is); (case k28 => k_is); (case a29 => k_is); (case l29 => k_is); (case c29 => k_is); (case k29 => k_is); (case a30 => k_is); (case l30 => k_is); (case c30 => k_is); (case k30 => k_is); (case a31 => k_is); (case l31 => k_is); (case c31 => k_is); (case k31 => k_is); (case a32 => k_is); (case l32 => k_is); (case c32 => k_is); (case k32 => k_is); (case a33 => k_is); (case l33 => k_is); (case c33 => k_is); (case k33 => k_is); (case a34 => k_is); (case l34 => k_is); (case c34 => k_is); (case k34 => k_is); (case a35 => k_is); (case l35 => k_is); (case c35 => k_is); (case k35 => k_is); (case a36 => k_is); (case l36 => k_is); (case c36 => k_is); (case k36 => k_is); (case a37 => k_is); (case l37 => k_is); (case c37 => k_is); (case k37 => k_is); (case a38 => k_is); (case l38 => k_is); (case c38 => k_is); (case k38 => k_is); (case a39 => k_is); (case l39 => k_is); (case c39 => k_is); (case k39 => k_is); (case lc3 => k_is); (case hv3 => rfl); (case nt3 => rfl); (case rc3 => rfl); (case lc9 => k_is); (case hv9 => rfl); (case nt9 => rfl); (case rc9 => rfl); (case lc11 => k_is); (case hv11 => rfl); (case nt11 => rfl); (case rc11 => rfl); (case z1 => k_is); (case z2 => k_is); (case z3 => k_is); (case z4 => k_is); (case z5 => k_is); (case z6 => k_is); (case z7 => k_is); (case z8 => k_is); (case z9 => k_is); (case z10 => k_is); (case z11 => k_is); (case z12 => k_is); (case z13 => k_is); (case z14 => k_is); (case z15 => k_is); (case z16 => k_is); (case z17 => k_is); (case z18 => k_is); (case z19 => k_is); (case q1 => k_is); (case q2 => k_is); (case q3 => k_is); (case q4 => k_is); (case q5 => k_is); (case q6 => k_is); (case q7 => k_is); (case q8 => k_is); (case q9 => k_is); (case q10 => k_is); (case q11 => k_is)
